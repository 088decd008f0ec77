/-
  Texts beneath SupplyAll, part 29: SupTake2, SupStep.
-/
import Derived.Test.YtkopplnjomkleaaGreatPart28
/-
  Package supply: a Take is made; Done, Chunk, Seen.
-/
namespace Go.Proofs.YtkopplnjomkleaaGreat
open Go.RowKit
open W64
set_option maxRecDepth 100000
set_option linter.unusedSimpArgs false
/-- What is behind the making of a Take. -/
def UTkMade (w w' : World) (bt b p q : Nat) (ba : Int) (qs ql n : Nat) (F : List Nat) (m : Int) (st : List Int) (R : Lb) (mc : Mc) (ch sn : Int) : Prop :=
  ∃ O, UTkM w' bt b q n mc ch sn O ∧ (∀ x ∈ O, w.heap.size ≤ x) ∧ Turned w w' F fun F' => PSu w' b (suRow p q ba qs ql) qs ql F' m st R ∧ ∀ x ∈ O, x ∉ F'
def utZ (b : Nat) : Array Value := utRow .nilFunc b (.pointer none) (-1) 0 false
section
variable {w w1 w' : World} {bt b p q qs ql n most : Nat} {F O : List Nat} {m ba sn ch : Int} {st : List Int} {R : Lb} {nx pv : Value} {fd : Bool} {mc : Mc}
theorem psuSLen (E : PSu w b (suRow p q ba qs ql) qs ql F m st R) {d : Nat} (hd : st.length = d) : Calls Tryz.prog 65 #[.pointer (some ⟨qs, 0, none⟩)] w fun e w' => e = .returned (.int .i64 (d : Nat)) ∧ w = w' := by
  obtain ⟨Fs, Fl, E⟩ := E
  exact slen_to E.sta hd
theorem psuSLen0 (E : PSu w b (suRow p q ba qs ql) qs ql F m [] R) : Calls Tryz.prog 65 #[.pointer (some ⟨qs, 0, none⟩)] w fun e w' => e = .returned (.int .i64 0) ∧ w = w' := psuSLen E (d := 0) rfl
theorem PSu.base (E : PSu w b (suRow p q ba qs ql) qs ql F m st R) : b < w.heap.size := E.lt b E.bF
set_option maxHeartbeats 4000000 in
/-- The stash has some: it is done as it is made. -/
theorem utkTake_yes {y : Int} (E : PSu w b (suRow p q ba qs ql) qs ql F m (st ++ [y]) R) (h0 : 0 ≤ y) :
    Calls Tryz.prog 22 #[.pointer (some ⟨b, 0, none⟩)] w fun e w' => ∃ bt, e = .returned (.pointer (some ⟨bt, 0, none⟩)) ∧ UTkMade w w' bt b p q ba qs ql n F m st R .idle y (-1) := by
  have hF := E.lt
  have HE := Lib.hid (E.up (Up.alloc w (.cells (utZ b) 127)))
  have HT := Lib.hid (show Whole (w.alloc (.cells (utZ b) 127)) w.heap.size 127 (utRow .nilFunc b (.pointer none) (-1) 0 false) from Whole.new w _ (utZ b))
  have HU := Lib.hid (Up.alloc w (.cells (utZ b) 127))
  have HB := Lib.hid (show w.heap.size ∉ F from fun h => by have := hF _ h; omega)
  obtain ⟨d, hd⟩ : ∃ d, (st ++ [y]).length = d := ⟨_, rfl⟩
  have hd1 : ¬ (d : Int) = 0 := by simp at hd; omega
  have g1 : ((d : Int) == 0) = false := by simpa using hd1
  have HD := Lib.hid hd
  have HY := Lib.hid h0
  have hf := run_func
  unfold utZ utRow at HE HU
  unfold utZ at HT
  rw [show utRow .nilFunc b (.pointer none) (-1) 0 false = #[.nilFunc, .pointer (some ⟨b, 0, none⟩), .pointer none, .int .i64 (-1), .int .i64 0, .bool false] from rfl] at HT
  obtain ⟨bt, hbt⟩ : ∃ bt, w.heap.size = bt := ⟨_, rfl⟩
  rw [hbt] at HT HB
  have HBT := Lib.hid hbt
  clear E hF hd hd1 h0
  go_enter Tryz.func22, Tryz.ntmps22
  go_upto_region 2 with fail
  clear hbt
  generalize w.alloc (.cells #[.nilFunc, .pointer (some ⟨b, 0, none⟩), .pointer none, .int .i64 (-1), .int .i64 0, .bool false] 127) = w0 at *
  obtain ⟨_, _, _, c3, _⟩ := HE.out.cells (Up.refl _)
  go_wp2_with (first
    | (go_at_call 65; (with_reducible refine (psuSLen HE.out HD.out).mono ?_); rintro e w1 ⟨rfl, rfl⟩)
    | (go_at_call 68; refine (utkKept HE.out HT.out HB.out).mono ?_; rintro e w1 ⟨rfl, T1, U1⟩; have HT1 := Lib.hid T1; have HU1 := Lib.hid U1; clear T1 U1))
  go_ret
  obtain ⟨F', ⟨F'', rfl, E2, nb⟩, N, X⟩ := HU1.out
  have hsz := HU.out.size
  have hb := HBT.out
  have hy := HY.out
  have T2 := HT1.out
  rw [show y = chI y by unfold chI; rw [if_neg (by omega)], show true = chB (chI y) by unfold chB chI; rw [if_neg (by omega)]; simp; exact hy] at T2
  refine ⟨bt, rfl, [bt], ⟨by simp, fun x hx => by simp at hx; subst hx; exact HT1.out.lt, _, by rw [show chB y = true by unfold chB; simp; exact hy, show chI y = y by unfold chI; rw [if_neg (by omega)]]; exact HT1.out⟩, fun x hx => by simp at hx; omega, F'', ⟨E2, fun x hx => by simp at hx; subst hx; exact nb⟩, fun x hx => ?_, ?_⟩
  · rcases N x (by simp [hx]) with h | h
    · rcases List.mem_cons.1 h with rfl | h
      · exact absurd hx nb
      · exact .inl h
    · exact .inr (by omega)
  · exact Else.into (Else.of_up HU.out) X (fun x hx => by
      rcases List.mem_cons.1 hx with rfl | hx
      · exact .inr (by omega)
      · exact .inl hx)
set_option maxHeartbeats 4000000 in
/-- Nothing is kept, nothing waits: the Pop comes next. -/
theorem utkTake_pop (E : PSu w b (suRow p q ba qs ql) qs ql F m [] R) (hR : R.size = 0) (hm : min (max ba 1) 8 = most) :
    Calls Tryz.prog 22 #[.pointer (some ⟨b, 0, none⟩)] w fun e w' => ∃ bt, e = .returned (.pointer (some ⟨bt, 0, none⟩)) ∧ UTkMade w w' bt b p q ba qs ql n F m [] R (.pop (-1) (Po.new most)) (-1) (-1) := by
  have hF := E.lt
  have HE := Lib.hid (E.up (Up.alloc w (.cells (utZ b) 127)))
  have HT := Lib.hid (show Whole (w.alloc (.cells (utZ b) 127)) w.heap.size 127 (utRow .nilFunc b (.pointer none) (-1) 0 false) from Whole.new w _ (utZ b))
  have HU := Lib.hid (Up.alloc w (.cells (utZ b) 127))
  have HB := Lib.hid (show w.heap.size ∉ F from fun h => by have := hF _ h; omega)
  have HF := Lib.hid hF
  have HR := Lib.hid hR
  have HRS := Lib.hid (show R.size ≤ 8000 by omega)
  have HM := Lib.hid hm
  have hf := run_func
  unfold utZ utRow at HE HU
  unfold utZ at HT
  rw [show utRow .nilFunc b (.pointer none) (-1) 0 false = #[.nilFunc, .pointer (some ⟨b, 0, none⟩), .pointer none, .int .i64 (-1), .int .i64 0, .bool false] from rfl] at HT
  obtain ⟨bt, hbt⟩ : ∃ bt, w.heap.size = bt := ⟨_, rfl⟩
  rw [hbt] at HT HB
  have HBT := Lib.hid hbt
  clear E hF hR hm
  go_enter Tryz.func22, Tryz.ntmps22
  go_upto_region 2 with fail
  clear hbt
  generalize w.alloc (.cells #[.nilFunc, .pointer (some ⟨b, 0, none⟩), .pointer none, .int .i64 (-1), .int .i64 0, .bool false] 127) = w0 at *
  obtain ⟨_, _, _, c3, c4⟩ := HE.out.cells (Up.refl _)
  go_wp2_with (first
    | (go_at_call 65; (with_reducible refine (psuSLen0 HE.out).mono ?_); rintro e w1 ⟨rfl, rfl⟩)
    | (go_at_call 66; (with_reducible refine (psuLen HE.out HRS.out HR.out).mono ?_); rintro e w1 ⟨rfl, U1⟩; have HU1 := Lib.hid U1; clear U1)
    | (go_at_call 68; refine (utkPool (HE.out.up HU1.out) (HT.out.up HU1.out) HB.out HM.out n).mono ?_; rintro e w2 ⟨rfl, bp, T2, M2, b2, X2⟩; have HT2 := Lib.hid T2; have HM2 := Lib.hid M2; have HB2 := Lib.hid b2; have HX2 := Lib.hid X2; clear T2 M2 b2 X2))
  go_ret
  have h1 := (HU.out.trans HU1.out).size
  have h2 := HB2.out
  have h3 := HBT.out
  have h4 := (HT.out.up HU1.out).lt
  refine ⟨bt, rfl, [bt, bp], ⟨rfl, rfl, bp, _, rfl, HT2.out, HM2.out, by omega, by simp [Value.ownBlock], by simp [Value.ownBlock]⟩, fun x hx => by simp at hx; omega, F, ⟨(HE.out.up HU1.out).else HX2.out (fun x hx => by simp; rintro rfl; exact HB.out hx), fun x hx h => ?_⟩, Next.refl _ _, ?_⟩
  · have := HF.out x h
    simp at hx
    omega
  · exact Else.into (Else.of_up (HU.out.trans HU1.out)) HX2.out (fun x hx => by simp at hx; exact .inr (by omega))
set_option maxHeartbeats 4000000 in
/-- Nothing is kept, something waits: the Load of the epoch comes next. -/
theorem utkTake_look (E : PSu w b (suRow p q ba qs ql) qs ql F m [] R) (hR : R.size ≠ 0) (hs : R.size ≤ 8000) :
    Calls Tryz.prog 22 #[.pointer (some ⟨b, 0, none⟩)] w fun e w' => ∃ bt, e = .returned (.pointer (some ⟨bt, 0, none⟩)) ∧ UTkMade w w' bt b p q ba qs ql n F m [] R .look (-1) (-1) := by
  have hF := E.lt
  have HE := Lib.hid (E.up (Up.alloc w (.cells (utZ b) 127)))
  have HT := Lib.hid (show Whole (w.alloc (.cells (utZ b) 127)) w.heap.size 127 (utRow .nilFunc b (.pointer none) (-1) 0 false) from Whole.new w _ (utZ b))
  have HU := Lib.hid (Up.alloc w (.cells (utZ b) 127))
  have HF := Lib.hid hF
  obtain ⟨d, hd⟩ : ∃ d, R.size = d := ⟨_, rfl⟩
  have HR := Lib.hid hd
  have HS := Lib.hid hs
  have g1 : (0 : Int) < (d : Int) := by omega
  have hf := run_func
  unfold utZ utRow at HE HU
  unfold utZ at HT
  rw [show utRow .nilFunc b (.pointer none) (-1) 0 false = #[.nilFunc, .pointer (some ⟨b, 0, none⟩), .pointer none, .int .i64 (-1), .int .i64 0, .bool false] from rfl] at HT
  obtain ⟨bt, hbt⟩ : ∃ bt, w.heap.size = bt := ⟨_, rfl⟩
  rw [hbt] at HT
  have HBT := Lib.hid hbt
  clear E hF hR hd hs
  go_enter Tryz.func22, Tryz.ntmps22
  go_upto_region 2 with fail
  clear hbt
  generalize w.alloc (.cells #[.nilFunc, .pointer (some ⟨b, 0, none⟩), .pointer none, .int .i64 (-1), .int .i64 0, .bool false] 127) = w0 at *
  obtain ⟨_, _, _, c3, c4⟩ := HE.out.cells (Up.refl _)
  go_wp2_with (first
    | (go_at_call 65; (with_reducible refine (psuSLen0 HE.out).mono ?_); rintro e w1 ⟨rfl, rfl⟩)
    | (go_at_call 66; (with_reducible refine (psuLen HE.out HS.out HR.out).mono ?_); rintro e w1 ⟨rfl, U1⟩; have HU1 := Lib.hid U1; have HT1 := Lib.hid (HT.out.up U1); have s0 := HT1.out.cell (i := 0) (v := .nilFunc) rfl; have f0 := HT1.out.frozen 0; clear U1))
  go_ret
  have h1 := (HU.out.trans HU1.out).size
  have h3 := HBT.out
  have X2 : Else [bt] w1 (w1.setCell ⟨bt, 0, none⟩ (meth 67 bt)) := (Else.refl [bt] w1).set (.inl (by simp)) _
  refine ⟨bt, rfl, [bt], ⟨rfl, rfl, rfl, HT1.out.set 0 (meth 67 bt)⟩, fun x hx => by simp at hx; omega, F, ⟨(HE.out.up HU1.out).else X2 (fun x hx => by simp; rintro rfl; have := HF.out _ hx; omega), fun x hx h => ?_⟩, Next.refl _ _, Else.into (Else.of_up (HU.out.trans HU1.out)) X2 (fun x hx => by simp at hx; exact .inr (by omega))⟩
  have := HF.out x h
  simp at hx
  omega
/-! ### What is asked of it -/
theorem UTkM.done_ (T : UTkM w bt b q n mc ch sn O) {y : Bool} (hy : (match mc with | .idle => true | _ => false) = y) :
    Calls Tryz.prog 23 #[.pointer (some ⟨bt, 0, none⟩)] w fun e w' => e = .returned (.bool y) ∧ w = w' := by
  subst hy
  cases mc with
  | idle => obtain ⟨_, _, pv, T⟩ := T; exact utakeDone_yes (T.cell rfl)
  | look => obtain ⟨_, _, _, T⟩ := T; exact utakeDone_no (T.cell rfl)
  | pop s P => obtain ⟨_, _, bp, v, _, T, _⟩ := T; exact utakeDone_no (T.cell rfl)
  | give V => exact T.elim
theorem UTkM.row (T : UTkM w bt b q n mc ch sn O) : ∃ nx pv, Whole w bt 127 (utRow nx b pv sn (chI ch) (chB ch)) := by
  cases mc with
  | idle => obtain ⟨_, _, pv, T⟩ := T; exact ⟨_, pv, T⟩
  | look => obtain ⟨_, rfl, rfl, T⟩ := T; exact ⟨_, _, T⟩
  | pop s P => obtain ⟨rfl, rfl, bp, v, _, T, _⟩ := T; exact ⟨_, _, T⟩
  | give V => exact T.elim
theorem UTkM.chunk (T : UTkM w bt b q n mc ch sn O) {x : Int} {y : Bool} (hx : chI ch = x) (hy : chB ch = y) :
    Calls Tryz.prog 25 #[.pointer (some ⟨bt, 0, none⟩)] w fun e w' => e = .returned (.tuple #[.int .i64 x, .bool y]) ∧ Up w w' := by
  obtain ⟨nx, pv, T⟩ := T.row
  rw [hx, hy] at T
  have t4 := T.cell (i := 4) (v := .int .i64 x) rfl
  have t5 := T.cell (i := 5) (v := .bool y) rfl
  clear T hx hy
  go_enter Tryz.func25, Tryz.ntmps25
  go_upto_region 1 with fail
  go_quiet (fail)
  go_wp2_with fail
  go_ret2
  exact ⟨rfl, Up.drewN _ _⟩
theorem UTkM.seen (T : UTkM w bt b q n mc ch sn O) :
    Calls Tryz.prog 26 #[.pointer (some ⟨bt, 0, none⟩)] w fun e w' => e = .returned (.int .i64 sn) ∧ w = w' := by
  obtain ⟨nx, pv, T⟩ := T.row
  have t3 := T.cell (i := 3) (v := .int .i64 sn) rfl
  clear T
  go_enter Tryz.func26, Tryz.ntmps26
  go_wp2_with fail
  go_ret
  exact ⟨rfl, rfl⟩
theorem utkStep_no (T : UTkM w bt b q n .idle ch sn O) : Calls Tryz.prog 24 #[.pointer (some ⟨bt, 0, none⟩)] w fun e w' => e = .returned (.bool false) ∧ w = w' := by
  obtain ⟨_, _, pv, T⟩ := T
  exact utakeStep_end (T.cell rfl)
end
end Go.Proofs.YtkopplnjomkleaaGreat

/-
  Package supply: a Take's access at its Pop (popPool).
-/
namespace Go.Proofs.YtkopplnjomkleaaGreat
open Go.RowKit
open W64
set_option maxRecDepth 100000
set_option linter.unusedSimpArgs false
/-- A worker's supply and its Take (its own blocks O), over the program's memory. -/
structure UTkIn (w : World) (bt b p g q lk n : Nat) (s : St) (ba : Int) (qs ql : Nat) (F O : List Nat) (m : Int) (st : List Int) (R : Lb) (mc : Mc) (ch sn : Int) : Prop where
  su : PSu w b (suRow p q ba qs ql) qs ql F m st R
  tk : UTkM w bt b q n mc ch sn O
  env : Env w p g q 0 lk n s
  dis : ∀ x ∈ O, x ∉ F
  far : ∀ x, x ∈ F ∨ x ∈ O → x ≠ p ∧ x ≠ g ∧ x ≠ q
/-- What one access leaves. -/
def UTkOut (w w' : World) (bt b p g q lk n : Nat) (c : Int) (xs : List Int) (ba : Int) (qs ql : Nat) (F O : List Nat) (m : Int) (st : List Int) (R : Lb) (mc : Mc) (ch sn : Int) : Prop :=
  ∃ F' O' s', s'.c = c ∧ s'.xs = xs ∧ UTkIn w' bt b p g q lk n s' ba qs ql F' O' m st R mc ch sn ∧ Next w F F' ∧ Next w O O' ∧ Else (p :: g :: (F ++ O)) w w'
section
variable {w w1 w' : World} {bt b p g q qs ql lk n bp : Nat} {F O F' O' : List Nat} {m ba sn ch seen : Int} {st : List Int} {R : Lb} {s s' : St} {P P' : Po} {v v' : Value} {mc : Mc}
theorem ufar_next (N1 : Next w F F') (N2 : Next w O O') (h : ∀ x, x ∈ F ∨ x ∈ O → x ≠ p ∧ x ≠ g ∧ x ≠ q) (hp : p < w.heap.size) (hg : g < w.heap.size) (hq : q < w.heap.size) : ∀ x, x ∈ F' ∨ x ∈ O' → x ≠ p ∧ x ≠ g ∧ x ≠ q := by
  intro x hx
  rcases hx with hx | hx
  · rcases N1 x hx with h1 | h1
    · exact h x (.inl h1)
    · omega
  · rcases N2 x hx with h1 | h1
    · exact h x (.inr h1)
    · omega
theorem Env.lts {hd ln : Nat} (E : Env w p g q hd ln n s) : p < w.heap.size ∧ g < w.heap.size ∧ q < w.heap.size := ⟨E.mem.top.lt, E.mem.row.lt, E.stk.lt⟩
/-- While its Pop goes on: what is at hand behind the access. -/
structure UTkMid (w w' : World) (bt b p g q lk n bp : Nat) (s' : St) (ba : Int) (qs ql : Nat) (F : List Nat) (m : Int) (st : List Int) (R : Lb) (nx : Value) (seen ch : Int) (fd : Bool) (v v' : Value) (P' : Po) : Prop where
  su : PSu w' b (suRow p q ba qs ql) qs ql F m st R
  top : Whole w' bt 127 (utRow nx b (.pointer (some ⟨bp, 0, none⟩)) seen ch fd)
  pm : PoM w' bp q n v' P'
  env : Env w' p g q 0 lk n s'
  near : v'.ownBlock = v.ownBlock ∨ v'.ownBlock = none ∨ ∃ r, v'.ownBlock = some r ∧ w.heap.size ≤ r
  he : Else (p :: g :: bt :: bp :: blk v) w w'
  nb : bt ∉ F
  nf : bt ≠ p ∧ bt ≠ g ∧ bt ≠ q ∧ bt ≠ bp
variable {nx : Value} {fd : Bool}
theorem UTkMid.up (M : UTkMid w w1 bt b p g q lk n bp s' ba qs ql F m st R nx seen ch fd v v' P') (u : Up w1 w') : UTkMid w w' bt b p g q lk n bp s' ba qs ql F m st R nx seen ch fd v v' P' :=
  ⟨M.su.up u, M.top.up u, M.pm.up u, M.env.up u, M.near, M.he.up u, M.nb, M.nf⟩
/-- A store into the Take itself. -/
theorem UTkMid.put (M : UTkMid w w1 bt b p g q lk n bp s' ba qs ql F m st R nx seen ch fd v v' P') (i : Nat) (x : Value) {nx2 : Value} {ch2 : Int} {fd2 : Bool} (h : (utRow nx b (.pointer (some ⟨bp, 0, none⟩)) seen ch fd).setIfInBounds i x = utRow nx2 b (.pointer (some ⟨bp, 0, none⟩)) seen ch2 fd2) :
    UTkMid w (w1.setCell ⟨bt, i, none⟩ x) bt b p g q lk n bp s' ba qs ql F m st R nx2 seen ch2 fd2 v v' P' := by
  have u : Else [bt] w1 (w1.setCell ⟨bt, i, none⟩ x) := (Else.refl [bt] w1).set (.inl (by simp)) _
  have hv : v'.ownBlock ≠ some bt := ints_off M.pm.at_.row M.top (by decide)
  refine ⟨M.su.else u (fun y hy => by simp; rintro rfl; exact M.nb hy), h ▸ M.top.set i x, M.pm.else u (by simp; exact M.nf.2.2.2.symm) (fun y hy => by simp at hy; subst hy; exact hv), M.env.else u (by simp; exact M.nf.1.symm) (by simp; exact M.nf.2.1.symm) (by simp; exact M.nf.2.2.1.symm), M.near, M.he.trans (u.more (fun y hy => by simp at hy; simp [hy])), M.nb, M.nf⟩
theorem utkPopGo (I : UTkIn w bt b p g q lk n s ba qs ql F O m st R (.pop seen P) ch sn) (hf : P.fin = false) :
    ∃ bp v, O = bt :: bp :: blk v ∧ Whole w bt 127 (utRow (meth 113 bt) b (.pointer (some ⟨bp, 0, none⟩)) seen 0 false) ∧
      Calls Tryz.prog 139 #[.pointer (some ⟨bp, 0, none⟩)] w fun e w' => e = .returned (.bool true) ∧ ∃ v' s', s'.c = wrap64 (s.c + 1) ∧ s'.xs = P.xs 0 s.xs ∧ UTkMid w w' bt b p g q lk n bp s' ba qs ql F m st R (meth 113 bt) seen 0 false v v' (P.go n 0 lk s.xs) := by
  obtain ⟨_, _, bp, v, rfl, T, M, n1, n2, n3⟩ := I.tk
  refine ⟨bp, v, rfl, T, ?_⟩
  have far := I.far
  have hbp := far bp (.inr (by simp))
  have hbt := far bt (.inr (by simp))
  have hv : ∀ x, v.ownBlock = some x → x ≠ p ∧ x ≠ g ∧ x ≠ q := fun x hx => far x (.inr (by simp [blk, hx]))
  have A : Apart bp p g q v := ⟨hbp.1, hbp.2.1, hbp.2.2, fun h => (hv p h).1 rfl, fun h => (hv g h).2.1 rfl, fun h => (hv q h).2.2 rfl⟩
  refine (poStep I.env A M hf).mono ?_
  rintro e w' ⟨rfl, v', N, s', hc, hx, E', M', X⟩
  have hin : ∀ x, x ∈ (bp :: v.ownBlock.toList) ++ [p, g] ↔ x = bp ∨ v.ownBlock = some x ∨ x = p ∨ x = g := by
    intro x; simp [eq_comm]
  refine ⟨rfl, v', s', hc, hx, I.su.else X (fun x hx h => ?_), X.whole T (fun h => ?_), M', E', N, X.more (fun x hx => ?_), I.dis bt (by simp), hbt.1, hbt.2.1, hbt.2.2, n1.symm⟩
  · rcases (hin x).1 h with h | h | h | h
    · exact I.dis x (by simp [h]) hx
    · exact I.dis x (by simp [blk, h]) hx
    · exact (far x (.inl hx)).1 h
    · exact (far x (.inl hx)).2.1 h
  · rcases (hin bt).1 h with h | h | h | h
    · exact n1 h.symm
    · exact n2 h
    · exact hbt.1 h
    · exact hbt.2.1 h
  · rcases (hin x).1 hx with h | h | h | h <;> simp [h, blk]
/-- The Pop goes on. -/
theorem UTkMid.out (I : UTkIn w bt b p g q lk n s ba qs ql F (bt :: bp :: blk v) m st R (.pop seen P) ch sn) (M : UTkMid w w' bt b p g q lk n bp s' ba qs ql F m st R (meth 113 bt) seen 0 false v v' P') :
    UTkOut w w' bt b p g q lk n s'.c s'.xs ba qs ql F (bt :: bp :: blk v) m st R (.pop seen P') (-1) seen := by
  have NX : Next w (bt :: bp :: blk v) (bt :: bp :: blk v') := by
    intro x hx
    rcases List.mem_cons.1 hx with h | hx
    · exact .inl (by simp [h])
    rcases List.mem_cons.1 hx with h | hx
    · exact .inl (by simp [h])
    have e := mem_blk.1 hx
    rcases M.near with h | h | ⟨r, h, hr⟩
    · rw [h] at e; exact .inl (by simp [blk, e])
    · rw [h] at e; cases e
    · rw [h] at e; injection e with e; exact .inr (by omega)
  obtain ⟨l1, l2, l3⟩ := I.env.lts
  refine ⟨F, bt :: bp :: blk v', s', rfl, rfl, ⟨M.su, ⟨rfl, rfl, bp, v', rfl, M.top, M.pm, M.nf.2.2.2.symm, ints_off M.pm.at_.row M.top (by decide), M.pm.at_.away⟩, M.env, fun x hx => ?_, ufar_next (Next.refl _ _) NX I.far l1 l2 l3⟩, Next.refl _ _, NX, M.he.more (fun x hx => ?_)⟩
  · rcases NX x hx with h | h
    · exact I.dis x h
    · intro hf; have := I.su.lt x hf; omega
  · simp at hx ⊢
    rcases hx with h | h | h | h | h <;> simp [h]
/-- Behind the end: the machine is done with the chunk x, its stash st'. -/
theorem UTkMid.done {w3 : World} {st' : List Int} {x cj : Int} {pv : Value} (J : UTkIn w bt b p g q lk n s ba qs ql F (bt :: bp :: blk v) m st R (.pop seen P) cj sn) (M : UTkMid w w1 bt b p g q lk n bp s' ba qs ql F m st R nx seen ch fd v v' P')
    (T : Whole w3 bt 127 (utRow .nilFunc b pv seen (chI x) (chB x))) (E3 : PSu w3 b (suRow p q ba qs ql) qs ql F' m st' R) (N : Next w1 F F') (X2 : Else (bt :: F) w1 w3) :
    UTkOut w w3 bt b p g q lk n s'.c s'.xs ba qs ql F (bt :: bp :: blk v) m st' R .idle x seen := by
  have far := J.far
  have hbt := far bt (.inr (by simp))
  have s1 := M.he.size
  have N0 : Next w F F' := fun y hy => (N y hy).imp id (fun h => by omega)
  obtain ⟨l1, l2, l3⟩ := J.env.lts
  have nb : bt ∉ F := J.dis bt (by simp)
  have nb' : bt ∉ F' := fun h => by
    rcases N0 bt h with h | h
    · exact nb h
    · obtain ⟨_, _, bp2, v2, e, T0, _⟩ := J.tk
      have := T0.lt
      omega
  refine ⟨F', [bt], s', rfl, rfl, ⟨E3, ⟨by simp, fun y hy => by simp at hy; subst hy; exact T.lt, _, T⟩, M.env.else X2 (fun h => ?_) (fun h => ?_) (fun h => ?_), fun y hy => by simp at hy; subst hy; exact nb', ?_⟩, N0, fun y hy => .inl (by simp at hy; simp [hy]), ?_⟩
  · rcases List.mem_cons.1 h with h | h
    · exact hbt.1 h.symm
    · exact (far p (.inl h)).1 rfl
  · rcases List.mem_cons.1 h with h | h
    · exact hbt.2.1 h.symm
    · exact (far g (.inl h)).2.1 rfl
  · rcases List.mem_cons.1 h with h | h
    · exact hbt.2.2 h.symm
    · exact (far q (.inl h)).2.2 rfl
  · exact ufar_next (O := bt :: bp :: blk v) N0 (fun y hy => .inl (by simp at hy; simp [hy])) far l1 l2 l3
  · refine (M.he.more (fun y hy => ?_)).trans (X2.more (fun y hy => ?_))
    · simp at hy ⊢
      rcases hy with h | h | h | h | h <;> simp [h]
    · simp at hy ⊢
      rcases hy with h | h <;> simp [h]
set_option maxHeartbeats 4000000 in
/-- The Pop is not at its end. -/
theorem utkPool_go (I : UTkIn w bt b p g q lk n s ba qs ql F O m st R (.pop seen P) ch sn) (hf : P.fin = false) (hg : (P.go n 0 lk s.xs).fin = false) :
    Calls Tryz.prog 113 #[.pointer (some ⟨bt, 0, none⟩)] w fun e w' => e = .returned (.tuple #[]) ∧ UTkOut w w' bt b p g q lk n (wrap64 (s.c + 1)) (P.xs 0 s.xs) ba qs ql F O m st R (.pop seen (P.go n 0 lk s.xs)) (-1) seen := by
  obtain ⟨bp, v, rfl, T, hcall⟩ := utkPopGo I hf
  have HI := Lib.hid I
  have HC := Lib.hid hcall
  have HG := Lib.hid hg
  have t2 := T.cell (i := 2) (v := .pointer (some ⟨bp, 0, none⟩)) rfl
  clear I hcall hg T
  go_enter Tryz.func113, Tryz.ntmps113
  go_upto_region 1 with (go_at_call 139; (with_reducible refine HC.out.mono ?_); rintro e w1 ⟨rfl, v', s', hc, hx, M1⟩; have HM1 := Lib.hid M1; have HCX := Lib.hid (And.intro hc hx); clear M1 hc hx)
  clear t2
  have t2 := HM1.out.top.cell (i := 2) (v := .pointer (some ⟨bp, 0, none⟩)) rfl
  go_wp2_with (go_at_call 140; (with_reducible refine (popDone_to HM1.out.pm HG.out).mono ?_); rintro e w2 ⟨rfl, rfl⟩)
  refine bodyPost_ret (v := .tuple #[]) (by simp [results, Tryz.results113, go_sem]) rfl ?_
  have h := UTkMid.out HI.out HM1.out
  rw [HCX.out.1, HCX.out.2] at h
  exact ⟨rfl, h⟩
set_option maxHeartbeats 8000000 in
/-- The Pop is at its end, with nothing. -/
theorem utkPool_none (I : UTkIn w bt b p g q lk n s ba qs ql F O m st R (.pop seen P) ch sn) (hf : P.fin = false) (hg : (P.go n 0 lk s.xs).fin = true) (hl : (P.go n 0 lk s.xs).l = []) :
    Calls Tryz.prog 113 #[.pointer (some ⟨bt, 0, none⟩)] w fun e w' => e = .returned (.tuple #[]) ∧ UTkOut w w' bt b p g q lk n (wrap64 (s.c + 1)) (P.xs 0 s.xs) ba qs ql F O m st R .idle (-1) seen := by
  obtain ⟨bp, v, rfl, T, hcall⟩ := utkPopGo I hf
  have HI := Lib.hid I
  have HC := Lib.hid hcall
  have HG := Lib.hid hg
  have HL := Lib.hid hl
  have t2 := T.cell (i := 2) (v := .pointer (some ⟨bp, 0, none⟩)) rfl
  clear I hcall hg T hl
  go_enter Tryz.func113, Tryz.ntmps113
  go_upto_region 1 with (go_at_call 139; (with_reducible refine HC.out.mono ?_); rintro e w1 ⟨rfl, v', s', hc, hx, M1⟩; have HM1 := Lib.hid M1; have HCX := Lib.hid (And.intro hc hx); clear M1 hc hx)
  clear t2
  have t2 := HM1.out.top.cell (i := 2) (v := .pointer (some ⟨bp, 0, none⟩)) rfl
  have t0 := HM1.out.top.cell (i := 0) (v := meth 113 bt) rfl
  have f0 := HM1.out.top.frozen 0
  go_upto_region 3 with (go_at_call 140; (with_reducible refine (popDone_to HM1.out.pm HG.out).mono ?_); rintro e w2 ⟨rfl, rfl⟩)
  clear t2 t0 f0
  have HM2 := Lib.hid (HM1.out.put 0 .nilFunc (nx2 := .nilFunc) (ch2 := 0) (fd2 := false) rfl)
  generalize w1.setCell ⟨bt, 0, none⟩ .nilFunc = w2 at *
  have t2 := HM2.out.top.cell (i := 2) (v := .pointer (some ⟨bp, 0, none⟩)) rfl
  go_wp2_with (go_at_call 141; (with_reducible refine (popGot HM2.out.pm).mono ?_); rintro e w3 ⟨o, rfl, J3, F3, U3⟩; rw [HG.out, if_pos rfl, HL.out] at J3; obtain ⟨A3, c3, rfl⟩ := J3.slice; have HM3 := Lib.hid (HM2.out.up U3); clear J3 F3 U3)
  go_end0
  have h := UTkMid.done (x := -1) HI.out HM3.out HM3.out.top HM3.out.su (Next.refl _ _) (Else.refl _ _)
  rw [HCX.out.1, HCX.out.2] at h
  exact ⟨rfl, h⟩
theorem pints_head {A : Option Addr} {N cp x : Nat} {r : List Nat} (J : Ints w (.slice A N cp) (I (x :: r))) : ∃ q, A = some ⟨q, 0, none⟩ ∧ N = r.length + 1 ∧ N ≤ cp ∧ w.cell? ⟨q, 0, none⟩ = some (.int .i64 (x : Int)) := by
  obtain ⟨A', c', e⟩ := J.slice
  injection e with e1 e2 e3
  subst e1 e2 e3
  have hl : (I (x :: r)).length = r.length + 1 := by rw [I_len]; rfl
  obtain ⟨q, e, hc⟩ := own_cell (j := 0) J (by omega)
  refine ⟨q, e, hl, ?_, by rw [hc]; rfl⟩
  rcases J.2 with ⟨h, h0⟩ | ⟨_, cap, _, h, _, _, hnc, _⟩
  · omega
  · injection h with _ _ h3; subst h3; exact hnc
set_option maxHeartbeats 8000000 in
/-- The Pop is at its end: the first is the chunk, the others are given to the stash. -/
theorem utkPool_some {x : Nat} {r : List Nat} (J : UTkIn w bt b p g q lk n s ba qs ql F O m st R (.pop seen P) ch sn) (hf : P.fin = false) (hg : (P.go n 0 lk s.xs).fin = true) (hl : (P.go n 0 lk s.xs).l = x :: r) (hs : st.length + r.length ≤ 8000) :
    Calls Tryz.prog 113 #[.pointer (some ⟨bt, 0, none⟩)] w fun e w' => e = .returned (.tuple #[]) ∧ UTkOut w w' bt b p g q lk n (wrap64 (s.c + 1)) (P.xs 0 s.xs) ba qs ql F O m (st ++ I r) R .idle (x : Int) seen := by
  obtain ⟨bp, v, rfl, T, hcall⟩ := utkPopGo J hf
  have HI := Lib.hid J
  have HC := Lib.hid hcall
  have HG := Lib.hid hg
  have HL := Lib.hid hl
  have HS := Lib.hid (show st.length + (I r).length ≤ 8192 by rw [I_len]; omega)
  have t2 := T.cell (i := 2) (v := .pointer (some ⟨bp, 0, none⟩)) rfl
  clear J hcall hg T hl hs
  go_enter Tryz.func113, Tryz.ntmps113
  go_upto_region 1 with (go_at_call 139; (with_reducible refine HC.out.mono ?_); rintro e w1 ⟨rfl, v', s', hc, hx, M1⟩; have HM1 := Lib.hid M1; have HCX := Lib.hid (And.intro hc hx); clear M1 hc hx)
  clear t2
  have t2 := HM1.out.top.cell (i := 2) (v := .pointer (some ⟨bp, 0, none⟩)) rfl
  have t0 := HM1.out.top.cell (i := 0) (v := meth 113 bt) rfl
  have f0 := HM1.out.top.frozen 0
  go_upto_region 3 with (go_at_call 140; (with_reducible refine (popDone_to HM1.out.pm HG.out).mono ?_); rintro e w2 ⟨rfl, rfl⟩)
  clear t2 t0 f0
  have HM2 := Lib.hid (HM1.out.put 0 .nilFunc (nx2 := .nilFunc) (ch2 := 0) (fd2 := false) rfl)
  generalize w1.setCell ⟨bt, 0, none⟩ .nilFunc = w2 at *
  have t2 := HM2.out.top.cell (i := 2) (v := .pointer (some ⟨bp, 0, none⟩)) rfl
  go_upto_region 4 with (go_at_call 141; (with_reducible refine (popGot HM2.out.pm).mono ?_); rintro e w3 ⟨o, rfl, J3, F3, U3⟩; rw [HG.out, if_pos rfl, HL.out] at J3; obtain ⟨A3, N, c3, rfl⟩ := shapeI J3; have HJ3 := Lib.hid J3; have HM3 := Lib.hid (HM2.out.up U3); clear J3 F3 U3)
  clear t2
  obtain ⟨q2, hA2, hN, hcap, hc2⟩ := pints_head HJ3.out
  subst hA2
  have HN := Lib.hid (And.intro hN hcap)
  have g0 : (0 : Int) < (N : Int) := by omega
  clear hN hcap
  have s4 := HM3.out.top.cell (i := 4) (v := .int .i64 0) rfl
  have s5 := HM3.out.top.cell (i := 5) (v := .bool false) rfl
  have f4 := HM3.out.top.frozen 4
  have f5 := HM3.out.top.frozen 5
  go_upto_region 6 with fail
  have HM4 := Lib.hid ((HM3.out.put 4 (.int .i64 (x : Int)) (nx2 := .nilFunc) (ch2 := (x : Int)) (fd2 := false) rfl).put 5 (.bool true) (nx2 := .nilFunc) (ch2 := (x : Int)) (fd2 := true) rfl)
  have HJ4 := Lib.hid (show Ints ((w3.setCell ⟨bt, 4, none⟩ (.int .i64 (x : Int))).setCell ⟨bt, 5, none⟩ (.bool true)) (.slice (some ⟨q2, 0, none⟩) N c3) (I (x :: r)) from HJ3.out.else (((Else.refl [bt] w3).set (.inl (by simp)) _).set (.inl (by simp)) _) (fun y hy => by simp at hy; subst hy; exact ints_off HJ3.out HM3.out.top (by decide)))
  clear s4 s5 f4 f5 hc2
  generalize (w3.setCell ⟨bt, 4, none⟩ (.int .i64 (x : Int))).setCell ⟨bt, 5, none⟩ (.bool true) = w4 at *
  have hcut : ∀ w0, (Instr.slice 22 (.slice (some ⟨q2, 0, none⟩) N c3) (some (.int .i64 1)) none none).run Tryz.prog w0 = .ok (cutLo (some ⟨q2, 0, none⟩) 1 N c3) w0 := fun w0 => run_cutLo (some ⟨q2, 0, none⟩) N c3 1 (by have := HN.out.1; omega) w0
  have HRD := Lib.hid (show Rd w4.drew (cutLo (some ⟨q2, 0, none⟩) 1 N c3) (I r) from by
    have h := cutLo_rd (c := 1) HJ4.out.rd (by rw [I_len]; simp) HN.out.2
    exact (show Rd w4 _ (I r) from h).up (up_drew w4))
  have HE5 := Lib.hid (HM4.out.su.up (up_drew w4))
  have HQ := Lib.hid (show w4.drew.cell? ⟨bt, 1, none⟩ = some (.pointer (some ⟨b, 0, none⟩)) ∧ w4.drew.cell? ⟨b, 3, none⟩ = some (.pointer (some ⟨qs, 0, none⟩)) from ⟨(up_drew w4).kept (HM4.out.top.cell rfl), (HM4.out.su.cells (up_drew w4)).2.2.2.1⟩)
  go_region_held3 (fun w' => w'.cell? ⟨bt, 1, none⟩ = some (.pointer (some ⟨b, 0, none⟩)) ∧ w'.cell? ⟨b, 3, none⟩ = some (.pointer (some ⟨qs, 0, none⟩)))
    ((first | with_reducible exact HQ6.out | with_reducible exact HQ.out))
    (first
      | (go_at_call 59; refine (psuGive HE5.out HRD.out HS.out).mono ?_; rintro e w6 ⟨rfl, T6⟩; have HT6 := Lib.hid T6; have HX6 := Lib.hid (T6.choose_spec.2.2.whole (show Whole w4.drew bt 127 _ from HM4.out.top.up (up_drew w4)) HM4.out.nb); have HQ6 := Lib.hid (show w6.cell? ⟨bt, 1, none⟩ = some (.pointer (some ⟨b, 0, none⟩)) ∧ w6.cell? ⟨b, 3, none⟩ = some (.pointer (some ⟨qs, 0, none⟩)) from ⟨HX6.out.cell rfl, (T6.choose_spec.1.cells (Up.refl _)).2.2.2.1⟩); clear T6))
  go_end0
  obtain ⟨F6, E6, N6, X6⟩ := HT6.out
  have hdr : w4.drew.heap.size = w4.heap.size := rfl
  have T7 := HX6.out
  have ec : chI (x : Int) = (x : Int) := by unfold chI; rw [if_neg (by omega)]
  have eb : chB (x : Int) = true := by unfold chB; exact decide_eq_true (by omega)
  have h := UTkMid.done (x := (x : Int)) HI.out HM4.out (by rw [ec, eb]; exact T7) E6 (fun y hy => (N6 y hy).imp id (fun h => by omega)) ((Else.of_up (up_drew w4)).trans (X6.more (fun y hy => by simp [hy])))
  rw [HCX.out.1, HCX.out.2] at h
  exact ⟨rfl, h⟩
end
end Go.Proofs.YtkopplnjomkleaaGreat
