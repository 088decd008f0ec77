/-
  Texts beneath SupplyWaits, part 24: SupRun, SupSolo, SupFirst, SupOne.
-/
import Derived.Test.YtkopplnjomkleaaPart23
/-
  The statements' own take (layer 13): a Take by itself, whatever its machine is; a Pop alone, access by access.
-/
namespace Go.Proofs.Ytkopplnjomkleaa
open Go.RowKit
open W64
set_option maxRecDepth 100000
set_option linter.unusedSimpArgs false
/-- While take goes on. -/
def TkRel (S : Nat → Nat → World → Prop) (bt K : Nat) (i n : Value) (w : World) : Prop := ∃ j : Nat, i = .int .i64 (j : Int) ∧ n = .int .i64 (j : Int) ∧ j ≤ K ∧ S bt j w
theorem tk_meas {j K : Nat} (h : j < K) (h2 : K ≤ 59) : 60 - (intOf (.int .i64 ((j : Int) + 1))).toNat < 60 - (intOf (.int .i64 (j : Int))).toNat := by
  have e : (intOf (.int .i64 ((j : Int) + 1))).toNat = j + 1 := rfl
  have e2 : (intOf (.int .i64 (j : Int))).toNat = j := rfl
  rw [e, e2]
  omega
section
variable {w : World} {b K : Nat} {x : Int} {y : Bool}
set_option maxHeartbeats 4000000 in
theorem take_run (S : Nat → Nat → World → Prop) (h0 : Calls Try.prog 20 #[.pointer (some ⟨b, 0, none⟩)] w fun e w' => ∃ bt, e = .returned (.pointer (some ⟨bt, 0, none⟩)) ∧ S bt 0 w')
    (h1 : ∀ bt i w, i < K → S bt i w → Calls Try.prog 22 #[.pointer (some ⟨bt, 0, none⟩)] w fun e w' => e = .returned (.bool true) ∧ S bt (i + 1) w')
    (h2 : ∀ bt w, S bt K w → Calls Try.prog 22 #[.pointer (some ⟨bt, 0, none⟩)] w fun e w' => e = .returned (.bool false) ∧ w = w')
    (h3 : ∀ bt w, S bt K w → Calls Try.prog 23 #[.pointer (some ⟨bt, 0, none⟩)] w fun e w' => e = .returned (.tuple #[.int .i64 x, .bool y]) ∧ S bt K w') (hK : K ≤ 59) :
    Calls Try.prog 8 #[.pointer (some ⟨b, 0, none⟩)] w fun e w' => e = .returned (.tuple #[.int .i64 x, .bool y, .int .i64 (K : Int)]) ∧ ∃ bt, S bt K w' := by
  have H0 := Lib.hid h0
  have H1 := Lib.hid h1
  have H2 := Lib.hid h2
  have H3 := Lib.hid h3
  have HK := Lib.hid hK
  clear h0 h1 h2 h3 hK
  go_enter Try.func8, Try.ntmps8
  go_wp2_with (go_at_call 20; (with_reducible refine H0.out.mono ?_); rintro e w1 ⟨bt, rfl, S1⟩; have HS1 := Lib.hid S1; clear S1)
  go_loopw [7, 6] (fun i n wr => TkRel S bt K i n wr) (fun i _ _ => 60 - (intOf i).toNat)
  case atStart => exact ⟨0, rfl, rfl, Nat.zero_le _, HS1.out⟩
  case round =>
    obtain ⟨j, rfl, rfl, hj, S2⟩ := hrel
    clear HS1
    have HS2 := Lib.hid S2
    have i1 : (j : Int) < 60 := by have := HK.out; omega
    clear S2
    by_cases hlt : j < K
    · have HLT := Lib.hid hlt
      clear hlt hj
      go_wp2_with (go_at_call 22; (with_reducible refine (H1.out _ _ _ HLT.out HS2.out).mono ?_); rintro e w3 ⟨rfl, S3⟩; have HS3 := Lib.hid S3; clear S3)
      go_roundw
      case rel => exact ⟨j + 1, rfl, rfl, HLT.out, HS3.out⟩
      case measure => exact tk_meas HLT.out HK.out
    · have hjK : j = K := by omega
      subst hjK
      clear hlt hj
      go_wp2_with (first
        | (go_at_call 22; (with_reducible refine (H2.out _ _ HS2.out).mono ?_); rintro e w3 ⟨rfl, rfl⟩)
        | (go_at_call 23; (with_reducible refine (H3.out _ _ HS2.out).mono ?_); rintro e w4 ⟨rfl, S4⟩; have HS4 := Lib.hid S4; clear S4))
      go_ret3
      exact ⟨rfl, _, HS4.out⟩
end
/-! ### A Pop alone -/
section
variable {n ln batch : Nat} {xs : List Int} {S : List Nat}
theorem pop_mid (T : Tells n ln xs S) (hb : 1 ≤ batch) (h0 : S ≠ []) : ∀ i, i < (S.take batch).length + 2 → ∃ P, Po.many n ln (xs, Po.new batch) i = (xs, P) ∧ P.fin = false := by
  intro i hi
  have lp := List.length_pos_iff.2 h0
  obtain ⟨k, hk⟩ : ∃ k, (S.take batch).length = k := ⟨_, rfl⟩
  have hk2 : k = min batch S.length := by rw [← hk, List.length_take]
  rw [hk] at hi
  by_cases h1 : i = 0
  · subst h1; exact ⟨_, rfl, rfl⟩
  by_cases h2 : i ≤ k
  · obtain ⟨d, e⟩ := pop_loads T hb i (by omega) (by omega) (by omega)
    exact ⟨_, e, rfl⟩
  have h3 : i = k + 1 := by omega
  subst h3
  obtain ⟨d, e⟩ := pop_loads T hb k (by omega) (by omega) (by omega)
  refine ⟨Po.go n 0 ln xs ⟨batch, 1, d, xs.getD 0 0, S.take k, false⟩, ?_, ?_⟩
  · show Po.one n ln (Po.many n ln _ k) = _
    unfold Po.new
    rw [e, one_run rfl, xs_same (by simp)]
  · unfold Po.go
    dsimp only
    rw [if_neg (by decide), if_pos rfl]
    split <;> rfl
end
end Go.Proofs.Ytkopplnjomkleaa

/-
  One supply alone: the statements' own take: out of the stash, out of the pool, behind a look at the epoch.
-/
namespace Go.Proofs.Ytkopplnjomkleaa
open Go.RowKit
open W64
set_option maxRecDepth 100000
set_option linter.unusedSimpArgs false
section
variable {w w' : World} {bt b p g q qs ql lk n : Nat} {F O : List Nat} {m ba sn ch seen now : Int} {st ys : List Int} {R : Lb} {s : St} {P : Po}
theorem utkStep_go (J : UTkIn w bt b p g q lk n s ba qs ql F O m st R (.pop seen P) ch sn) (hf : P.fin = false) (hg : (P.go n 0 lk s.xs).fin = false) :
    Calls Try.prog 22 #[.pointer (some ⟨bt, 0, none⟩)] w fun e w' => e = .returned (.bool true) ∧ UTkOut w w' bt b p g q lk n (wrap64 (s.c + 1)) (P.xs 0 s.xs) ba qs ql F O m st R (.pop seen (P.go n 0 lk s.xs)) (-1) seen := by
  obtain ⟨_, _, bp, v, _, T, _⟩ := J.tk
  exact ustep_pop (T.cell rfl) (utkPool_go J hf hg)
theorem utkStep_none (J : UTkIn w bt b p g q lk n s ba qs ql F O m st R (.pop seen P) ch sn) (hf : P.fin = false) (hg : (P.go n 0 lk s.xs).fin = true) (hl : (P.go n 0 lk s.xs).l = []) :
    Calls Try.prog 22 #[.pointer (some ⟨bt, 0, none⟩)] w fun e w' => e = .returned (.bool true) ∧ UTkOut w w' bt b p g q lk n (wrap64 (s.c + 1)) (P.xs 0 s.xs) ba qs ql F O m st R .idle (-1) seen := by
  obtain ⟨_, _, bp, v, _, T, _⟩ := J.tk
  exact ustep_pop (T.cell rfl) (utkPool_none J hf hg hl)
theorem utkStep_some {x : Nat} {r : List Nat} (J : UTkIn w bt b p g q lk n s ba qs ql F O m st R (.pop seen P) ch sn) (hf : P.fin = false) (hg : (P.go n 0 lk s.xs).fin = true) (hl : (P.go n 0 lk s.xs).l = x :: r) (hs : st.length + r.length ≤ 8000) :
    Calls Try.prog 22 #[.pointer (some ⟨bt, 0, none⟩)] w fun e w' => e = .returned (.bool true) ∧ UTkOut w w' bt b p g q lk n (wrap64 (s.c + 1)) (P.xs 0 s.xs) ba qs ql F O m (st ++ I r) R .idle (x : Int) seen := by
  obtain ⟨_, _, bp, v, _, T, _⟩ := J.tk
  exact ustep_pop (T.cell rfl) (utkPool_some J hf hg hl hs)
theorem utkStep_yes {y : Int} (J : UTkIn w bt b p g q lk n s ba qs ql F O m [] R .look ch sn) (hx : cutE (s.xs.getD 2 0) = now) (h2 : 2 < s.xs.length) (hr : R.outs now = ys ++ [y]) (hy : 0 ≤ y) (hs : R.size ≤ 8000) (hl : (R.outs now).length ≤ 8000) :
    Calls Try.prog 22 #[.pointer (some ⟨bt, 0, none⟩)] w fun e w' => e = .returned (.bool true) ∧ UTkOut w w' bt b p g q lk n (wrap64 (s.c + 1)) s.xs ba qs ql F O m ys (R.rest now) .idle y now := by
  obtain ⟨_, _, _, T⟩ := J.tk
  exact ustep_look (T.cell rfl) (utkLook_yes J hx h2 hr hy hs hl)
theorem utkStep_pop {most : Nat} (J : UTkIn w bt b p g q lk n s ba qs ql F O m [] R .look ch sn) (hx : cutE (s.xs.getD 2 0) = now) (h2 : 2 < s.xs.length) (hr : R.outs now = []) (hm : min (max ba 1) 8 = most) (hs : R.size ≤ 8000) (hl : (R.outs now).length ≤ 8000) :
    Calls Try.prog 22 #[.pointer (some ⟨bt, 0, none⟩)] w fun e w' => e = .returned (.bool true) ∧ UTkOut w w' bt b p g q lk n (wrap64 (s.c + 1)) s.xs ba qs ql F O m [] (R.rest now) (.pop now (Po.new most)) (-1) now := by
  obtain ⟨_, _, _, T⟩ := J.tk
  exact ustep_look (T.cell rfl) (utkLook_pop J hx h2 hr hm hs hl)
end
section
variable {W w w1 w' : World} {l : Lia} {xs xs' : List Int} {d : SuD} {vS vX : Value} {st ys : List Int} {R : Lb} {bt K most : Nat} {O F : List Nat} {sn ch y now : Int} {S : List Nat}
theorem re_re (d : SuD) (F G : List Nat) : (d.re F).re G = d.re G := rfl
/-- A Pop alone behind i accesses: it goes on, or it is done with ch, the stash then st. -/
def PSt (W : World) (l : Lia) (d : SuD) (vS vX : Value) (R : Lb) (xs xsK : List Int) (most K : Nat) (sn : Int) (st : List Int) (ch : Int) (bt i : Nat) (w : World) : Prop :=
  (i < K → ∃ F O P, Po.many l.n l.lk (xs, Po.new most) i = (xs, P) ∧ P.fin = false ∧ LoneT W w l xs (d.re F) vS vX [] R bt O (.pop sn P) (-1) sn) ∧ (i = K → ∃ F O, LoneT W w l xsK (d.re F) vS vX st R bt O .idle ch sn)
/-- One access of a Pop alone. -/
theorem pst_step {PK : Po} {i : Nat} (hmid : ∀ i, i < K → ∃ P, Po.many l.n l.lk (xs, Po.new most) i = (xs, P) ∧ P.fin = false) (hK : Po.many l.n l.lk (xs, Po.new most) K = (xs', PK)) (hf : PK.fin = true)
    (hl : (PK.l = [] ∧ st = [] ∧ ch = -1) ∨ ∃ x r, PK.l = x :: r ∧ st = I r ∧ ch = (x : Int) ∧ r.length ≤ 8) (hlen : xs'.length = xs.length) (hi : i < K) (X : PSt W l d vS vX R xs xs' most K sn st ch bt i w) :
    Calls Try.prog 22 #[.pointer (some ⟨bt, 0, none⟩)] w fun e w' => e = .returned (.bool true) ∧ PSt W l d vS vX R xs xs' most K sn st ch bt (i + 1) w' := by
  obtain ⟨F, O, P, hP, hPf, A⟩ := X.1 hi
  obtain ⟨s, hs, J, E0⟩ := A.in_
  have h1 : Po.many l.n l.lk (xs, Po.new most) (i + 1) = (P.xs 0 xs, P.go l.n 0 l.lk xs) := by
    show Po.one l.n l.lk (Po.many l.n l.lk _ i) = _
    rw [hP]; exact one_run hPf
  by_cases hn : i + 1 < K
  · obtain ⟨P', hP', hPf'⟩ := hmid (i + 1) hn
    rw [h1] at hP'
    injection hP' with e1 e2
    have hg : (P.go l.n 0 l.lk s.xs).fin = false := by rw [hs, e2]; exact hPf'
    refine (utkStep_go J hPf hg).mono ?_
    rintro e w' ⟨rfl, U⟩
    rw [hs, e1, e2] at U
    obtain ⟨F', O', A'⟩ := A.out rfl U
    exact ⟨rfl, fun _ => ⟨F', O', P', by rw [h1, e1, e2], hPf', A'⟩, fun h => by omega⟩
  · have hk : i + 1 = K := by omega
    rw [hk, hK] at h1
    injection h1 with e1 e2
    have hg : (P.go l.n 0 l.lk s.xs).fin = true := by rw [hs, ← e2]; exact hf
    rcases hl with ⟨h2, h3, h4⟩ | ⟨x, r, h2, h3, h4, h5⟩
    · refine (utkStep_none J hPf hg (by rw [hs, ← e2]; exact h2)).mono ?_
      rintro e w' ⟨rfl, U⟩
      rw [hs, ← e1] at U
      obtain ⟨F', O', A'⟩ := A.out hlen U
      exact ⟨rfl, fun h => by omega, fun _ => ⟨F', O', by rw [h3, h4]; exact A'⟩⟩
    · refine (utkStep_some J hPf hg (by rw [hs, ← e2]; exact h2) (by simp; omega)).mono ?_
      rintro e w' ⟨rfl, U⟩
      rw [hs, ← e1] at U
      obtain ⟨F', O', A'⟩ := A.out hlen U
      exact ⟨rfl, fun h => by omega, fun _ => ⟨F', O', by rw [h3, h4]; exact A'⟩⟩
theorem LoneT.ups (A : LoneT W w l xs d vS vX st R bt O .idle ch sn) (u : Up w w') : LoneT W w' l xs d vS vX st R bt O .idle ch sn := by
  obtain ⟨h1, h2, pv, T⟩ := A.tk
  exact ⟨A.lone.ups u, ⟨h1, fun x hx => Nat.lt_of_lt_of_le (h2 x hx) u.size, pv, T.up u⟩, A.dis, A.far, A.nO⟩
/-- What is left: the supply alone again. -/
theorem LoneT.rest (A : LoneT W w l xs d vS vX st R bt O .idle ch sn) : Lone W w l xs d vS vX st R := A.lone
/-- take, out of the stash. -/
theorem take_kept (A : Lone W w l xs d vS vX (st ++ [y]) R) (h0 : 0 ≤ y) :
    Calls Try.prog 8 #[.pointer (some ⟨d.b, 0, none⟩)] w fun e w' => e = .returned (.tuple #[.int .i64 y, .bool true, .int .i64 0]) ∧ ∃ F, Lone W w' l xs (d.re F) vS vX st R := by
  have ec : chI y = y := by unfold chI; rw [if_neg (by omega)]
  have eb : chB y = true := by unfold chB; exact decide_eq_true h0
  refine (take_run (K := 0) (x := y) (y := true) (fun bt _ w => ∃ F O, LoneT W w l xs (d.re F) vS vX st R bt O .idle y (-1)) ((utkTake_yes (n := l.n) A.su h0).mono ?_) (fun _ _ _ h => by omega) (fun bt w ⟨F, O, T⟩ => utkStep_no T.tk) (fun bt w ⟨F, O, T⟩ => (T.tk.chunk ec eb).mono fun _ _ ⟨he, u⟩ => ⟨he, F, O, T.ups u⟩) (by decide)).mono ?_
  · rintro e w' ⟨bt, rfl, M⟩
    exact ⟨bt, rfl, LoneT.made A M⟩
  · rintro e w' ⟨rfl, bt, F, O, T⟩
    exact ⟨rfl, F, T.lone⟩
/-- take, out of the pool. -/
theorem take_pool {PK : Po} (A : Lone W w l xs d vS vX [] R) (hR : R.size = 0) (hm : min (max l.c.ba 1) 8 = most) (hmid : ∀ i, i < K → ∃ P, Po.many l.n l.lk (xs, Po.new most) i = (xs, P) ∧ P.fin = false) (hK : Po.many l.n l.lk (xs, Po.new most) K = (xs', PK)) (hf : PK.fin = true)
    (hl : (PK.l = [] ∧ st = [] ∧ ch = -1) ∨ ∃ x r, PK.l = x :: r ∧ st = I r ∧ ch = (x : Int) ∧ r.length ≤ 8) (hlen : xs'.length = xs.length) (hK1 : 1 ≤ K ∧ K ≤ 59) {cI : Int} {cB : Bool} (ec : chI ch = cI) (eb : chB ch = cB) :
    Calls Try.prog 8 #[.pointer (some ⟨d.b, 0, none⟩)] w fun e w' => e = .returned (.tuple #[.int .i64 cI, .bool cB, .int .i64 (K : Int)]) ∧ ∃ F, Lone W w' l xs' (d.re F) vS vX st R := by
  refine (take_run (K := K) (x := cI) (y := cB) (fun bt i w => PSt W l d vS vX R xs xs' most K (-1) st ch bt i w) ((utkTake_pop (n := l.n) A.su hR hm).mono ?_) (fun bt i w hi X => pst_step hmid hK hf hl hlen hi X) (fun bt w X => ?_) (fun bt w X => ?_) hK1.2).mono ?_
  · rintro e w' ⟨bt, rfl, M⟩
    obtain ⟨F, O, T⟩ := LoneT.made A M
    exact ⟨bt, rfl, fun _ => ⟨F, O, Po.new most, rfl, rfl, T⟩, fun h => by omega⟩
  · obtain ⟨F, O, T⟩ := X.2 rfl
    exact utkStep_no T.tk
  · obtain ⟨F, O, T⟩ := X.2 rfl
    exact (T.tk.chunk ec eb).mono fun _ _ ⟨he, u⟩ => ⟨he, fun h => by omega, fun _ => ⟨F, O, T.ups u⟩⟩
  · rintro e w' ⟨rfl, bt, X⟩
    obtain ⟨F, O, T⟩ := X.2 rfl
    exact ⟨rfl, F, T.lone⟩
/-- take, behind a look at the epoch: something is ready. -/
theorem take_ready (A : Lone W w l xs d vS vX [] R) (hR : R.size ≠ 0) (hs : R.size ≤ 8000) (hx : cutE (xs.getD 2 0) = now) (h2 : 2 < xs.length) (hr : R.outs now = ys ++ [y]) (hy : 0 ≤ y) (hl : (R.outs now).length ≤ 8000) :
    Calls Try.prog 8 #[.pointer (some ⟨d.b, 0, none⟩)] w fun e w' => e = .returned (.tuple #[.int .i64 y, .bool true, .int .i64 1]) ∧ ∃ F, Lone W w' l xs (d.re F) vS vX ys (R.rest now) := by
  have ec : chI y = y := by unfold chI; rw [if_neg (by omega)]
  have eb : chB y = true := by unfold chB; exact decide_eq_true hy
  refine (take_run (K := 1) (x := y) (y := true) (fun bt i w => (i < 1 → ∃ F O, LoneT W w l xs (d.re F) vS vX [] R bt O .look (-1) (-1)) ∧ (i = 1 → ∃ F O, LoneT W w l xs (d.re F) vS vX ys (R.rest now) bt O .idle y now)) ((utkTake_look (n := l.n) A.su hR hs).mono ?_) (fun bt i w hi X => ?_) (fun bt w X => ?_) (fun bt w X => ?_) (by decide)).mono ?_
  · rintro e w' ⟨bt, rfl, M⟩
    exact ⟨bt, rfl, fun _ => LoneT.made A M, fun h => by omega⟩
  · obtain ⟨F, O, T⟩ := X.1 hi
    obtain ⟨s, hs2, J, E0⟩ := T.in_
    refine (utkStep_yes J (by rw [hs2]; exact hx) (by rw [hs2]; exact h2) hr hy hs hl).mono ?_
    rintro e w' ⟨rfl, U⟩
    rw [hs2] at U
    exact ⟨rfl, fun h => by omega, fun _ => T.out rfl U⟩
  · obtain ⟨F, O, T⟩ := X.2 rfl
    exact utkStep_no T.tk
  · obtain ⟨F, O, T⟩ := X.2 rfl
    exact (T.tk.chunk ec eb).mono fun _ _ ⟨he, u⟩ => ⟨he, fun h => by omega, fun _ => ⟨F, O, T.ups u⟩⟩
  · rintro e w' ⟨rfl, bt, X⟩
    obtain ⟨F, O, T⟩ := X.2 rfl
    exact ⟨rfl, F, T.lone⟩
/-- take, behind a look at the epoch: nothing is ready; out of the pool. -/
theorem take_look {PK : Po} (A : Lone W w l xs d vS vX [] R) (hR : R.size ≠ 0) (hs : R.size ≤ 8000) (hx : cutE (xs.getD 2 0) = now) (h2 : 2 < xs.length) (hr : R.outs now = []) (hm : min (max l.c.ba 1) 8 = most) (hmid : ∀ i, i < K → ∃ P, Po.many l.n l.lk (xs, Po.new most) i = (xs, P) ∧ P.fin = false) (hK : Po.many l.n l.lk (xs, Po.new most) K = (xs', PK)) (hf : PK.fin = true)
    (hl : (PK.l = [] ∧ st = [] ∧ ch = -1) ∨ ∃ x r, PK.l = x :: r ∧ st = I r ∧ ch = (x : Int) ∧ r.length ≤ 8) (hlen : xs'.length = xs.length) (hK1 : 1 ≤ K ∧ K ≤ 58) {cI : Int} {cB : Bool} (ec : chI ch = cI) (eb : chB ch = cB) :
    Calls Try.prog 8 #[.pointer (some ⟨d.b, 0, none⟩)] w fun e w' => e = .returned (.tuple #[.int .i64 cI, .bool cB, .int .i64 ((K + 1 : Nat) : Int)]) ∧ ∃ F, Lone W w' l xs' (d.re F) vS vX st (R.rest now) := by
  refine (take_run (K := K + 1) (x := cI) (y := cB) (fun bt i w => (i = 0 → ∃ F O, LoneT W w l xs (d.re F) vS vX [] R bt O .look (-1) (-1)) ∧ (1 ≤ i → PSt W l d vS vX (R.rest now) xs xs' most K now st ch bt (i - 1) w)) ((utkTake_look (n := l.n) A.su hR hs).mono ?_) (fun bt i w hi X => ?_) (fun bt w X => ?_) (fun bt w X => ?_) (by omega)).mono ?_
  · rintro e w' ⟨bt, rfl, M⟩
    exact ⟨bt, rfl, fun _ => LoneT.made A M, fun h => by omega⟩
  · by_cases h0 : i = 0
    · subst h0
      obtain ⟨F, O, T⟩ := X.1 rfl
      obtain ⟨s, hs2, J, E0⟩ := T.in_
      refine (utkStep_pop J (by rw [hs2]; exact hx) (by rw [hs2]; exact h2) hr hm hs (by rw [hr]; decide)).mono ?_
      rintro e w' ⟨rfl, U⟩
      rw [hs2] at U
      obtain ⟨F', O', T'⟩ := T.out rfl U
      exact ⟨rfl, fun h => by omega, fun _ => ⟨fun _ => ⟨F', O', Po.new most, rfl, rfl, T'⟩, fun h => by omega⟩⟩
    · have X1 := X.2 (by omega)
      refine (pst_step hmid hK hf hl hlen (by omega) X1).mono ?_
      rintro e w' ⟨rfl, Y⟩
      rw [show i - 1 + 1 = i + 1 - 1 by omega] at Y
      exact ⟨rfl, fun h => by omega, fun _ => Y⟩
  · obtain ⟨F, O, T⟩ := (X.2 (by omega)).2 (by omega)
    exact utkStep_no T.tk
  · obtain ⟨F, O, T⟩ := (X.2 (by omega)).2 (by omega)
    exact (T.tk.chunk ec eb).mono fun _ _ ⟨he, u⟩ => ⟨he, fun h => by omega, fun _ => ⟨fun h => by omega, fun _ => ⟨F, O, T.ups u⟩⟩⟩
  · rintro e w' ⟨rfl, bt, X⟩
    obtain ⟨F, O, T⟩ := (X.2 (by omega)).2 (by omega)
    exact ⟨rfl, F, T.lone⟩
end
end Go.Proofs.Ytkopplnjomkleaa

/-
  The statements' own first (layer 13).
-/
namespace Go.Proofs.Ytkopplnjomkleaa
open Go.RowKit
open W64
set_option maxRecDepth 100000
set_option linter.unusedSimpArgs false
def cfF : Cf := ⟨1, 2, 8, 1, 0, 1⟩
section
variable {W w w1 w' : World} {bt b p g q qs ql lk n : Nat} {F O : List Nat} {m ba sn ch : Int} {st : List Int} {R : Lb} {s : St} {mc : Mc}
theorem umade_in (M : UTkMade w w' bt b p q ba qs ql n F m st R mc ch sn) (V : Env w p g q 0 lk n s) (hF : ∀ x ∈ F, x ≠ p ∧ x ≠ g ∧ x ≠ q) : ∃ F' O, UTkIn w' bt b p g q lk n s ba qs ql F' O m st R mc ch sn ∧ Next w F F' ∧ (∀ x ∈ O, w.heap.size ≤ x) ∧ Else F w w' := by
  obtain ⟨O, G, nO, F', ⟨S, dis⟩, N, E⟩ := M
  obtain ⟨l1, l2, l3⟩ := V.lts
  refine ⟨F', O, ⟨S, G, V.else E (fun h => (hF _ h).1 rfl) (fun h => (hF _ h).2.1 rfl) (fun h => (hF _ h).2.2 rfl), dis, fun x hx => ?_⟩, N, nO, E⟩
  rcases hx with hx | hx
  · rcases N x hx with h | h
    · exact hF x h
    · omega
  · have := nO x hx; omega
/-- What the chapter's example has behind its making. -/
structure Fst (W w : World) (bt b p g q qs ql : Nat) (s : St) (F O : List Nat) (mc : Mc) : Prop where
  in_ : UTkIn w bt b p g q 6 2 s 1 qs ql F O 0 [] Lb.zero mc (-1) (-1)
  up : Up W w
  nF : ∀ x ∈ F, W.heap.size ≤ x
  nO : ∀ x ∈ O, W.heap.size ≤ x
  np : W.heap.size ≤ p ∧ W.heap.size ≤ g
theorem new_pq (n : Nat) (h0 : 1 ≤ n) (h1 : n ≤ 8388608) (w : World) : Calls Try.prog 14 #[.int .i64 (n : Int)] w fun e w' => ∃ p g, e = .returned (.tuple #[.pointer (some ⟨p, 0, none⟩), .int .i64 0]) ∧ Mem w' p g (St.zero n) ∧ (w.heap.size ≤ p ∧ w.heap.size ≤ g) ∧ Up w w' :=
  (new_in n h0 h1 w).mono fun _ _ ⟨he, M, U⟩ => ⟨_, _, he, M, ⟨by omega, Nat.le_refl _⟩, U⟩
theorem fst_lay : mayB cfF = true ∧ lenN cfF = 24 ∧ cutM cfF.ca = 0 := by decide
theorem fst_zero : (St.zero 100).xs.length = 100 := by simp [St.zero]
theorem fst_top : topN 2 ((St.zero 100).xs.getD 0 0) = -1 := by decide
theorem fst_go : Po.go 2 0 6 (St.zero 100).xs (Po.new 1) = ⟨1, 0, 0, (St.zero 100).xs.getD 0 0, [], true⟩ := go0_none fst_top
theorem fst_pack : ∃ s1 : St,
    (∀ w : World, Calls Try.prog 14 #[.int .i64 100] w fun e w' => ∃ p g, e = .returned (.tuple #[.pointer (some ⟨p, 0, none⟩), .int .i64 0]) ∧ Mem w' p g s1 ∧ (w.heap.size ≤ p ∧ w.heap.size ≤ g) ∧ Up w w') ∧
    (∀ (w : World) (p g : Nat), Mem w p g s1 → Calls Try.prog 16 #[.pointer (some ⟨p, 0, none⟩), .agg #[.int .i64 1, .int .i64 2, .int .i64 8, .int .i64 1, .int .i64 0, .int .i64 1]] w fun e w' => ∃ b q qs ql F, e = .returned (.tuple #[.pointer (some ⟨b, 0, none⟩), .int .i64 0]) ∧ PSu w' b (suRow p q 1 qs ql) qs ql F 0 [] Lb.zero ∧ (∀ x ∈ F, w.heap.size ≤ x) ∧ Env w' p g q 0 6 2 s1 ∧ w.heap.size ≤ q ∧ q ∉ F ∧ Up w w') ∧
    (∀ (w : World) (bt b p g q qs ql : Nat) (F O : List Nat), UTkIn w bt b p g q 6 2 s1 1 qs ql F O 0 [] Lb.zero (.pop (-1) (Po.new 1)) (-1) (-1) → Calls Try.prog 22 #[.pointer (some ⟨bt, 0, none⟩)] w fun e w' => e = .returned (.bool true) ∧ UTkOut w w' bt b p g q 6 2 1 s1.xs 1 qs ql F O 0 [] Lb.zero .idle (-1) (-1)) := by
  refine ⟨St.zero 100, fun w => new_pq 100 (by decide) (by decide) w, fun w p g M => ?_, fun w bt b p g q qs ql F O J => ?_⟩
  · exact suNew (c := cfF) (lk := 6) (n := 2) M (St.Ok.zero 100) (by rw [fst_zero]; decide) fst_lay.1 (by rfl) (by rfl) (by rw [fst_zero, fst_lay.2.1]; decide) fst_lay.2.2
  · have h := utkStep_none J rfl (by rw [fst_go]) (by rw [fst_go])
    have e : wrap64 ((St.zero 100).c + 1) = 1 := by rw [zero_c]; exact wrap64_in (by decide) (by decide)
    rw [e, xs_same (by decide)] at h
    exact h
set_option maxHeartbeats 8000000 in
theorem first13 (w : World) : Calls Try.prog 5 #[] w fun e w' => e = .returned (.bool true) ∧ Up w w' := by
  obtain ⟨s1, P1, P2, P3⟩ := fst_pack
  have H1 := Lib.hid P1
  have H2 := Lib.hid P2
  have H3 := Lib.hid P3
  clear P1 P2 P3
  go_enter Try.func5, Try.ntmps5
  go_upto_region 3 with (go_at_call 14; (with_reducible refine (H1.out _).mono ?_); rintro e w1 ⟨p, g, rfl, M1, pg, U1⟩; have HM1 := Lib.hid M1; have HU1 := Lib.hid U1; have HP1 := Lib.hid pg; clear M1 pg U1)
  obtain ⟨b0, hb0⟩ : ∃ b0, w1.heap.size = b0 := ⟨_, rfl⟩
  have HB0 := Lib.hid (Whole.new w1 24 #[.int .i64 1, .int .i64 2, .int .i64 8, .int .i64 1, .int .i64 0, .int .i64 1])
  have HU0 := Lib.hid (Up.alloc w1 (.cells #[.int .i64 1, .int .i64 2, .int .i64 8, .int .i64 1, .int .i64 0, .int .i64 1] 24))
  rw [hb0] at HB0 ⊢
  clear hb0
  generalize w1.alloc (.cells #[.int .i64 1, .int .i64 2, .int .i64 8, .int .i64 1, .int .i64 0, .int .i64 1] 24) = w2 at *
  have e0 := HB0.out.cell (i := 0) (v := .int .i64 1) rfl
  have e1 := HB0.out.cell (i := 1) (v := .int .i64 2) rfl
  have e2 := HB0.out.cell (i := 2) (v := .int .i64 8) rfl
  have e3 := HB0.out.cell (i := 3) (v := .int .i64 1) rfl
  have e4 := HB0.out.cell (i := 4) (v := .int .i64 0) rfl
  have e5 := HB0.out.cell (i := 5) (v := .int .i64 1) rfl
  have HZ := Lib.hid (show Lb.zero.size = 0 from rfl)
  have HMM := Lib.hid (show min (max (1 : Int) 1) 8 = (1 : Nat) by decide)
  go_upto_region 9 with (first
    | (go_at_call 16; (with_reducible refine (H2.out _ _ _ (HM1.out.up HU0.out)).mono ?_); rintro e w3 ⟨b, q, qs, ql, F, rfl, S3, n3, V3, q3, nq, U3⟩; have HS3 := Lib.hid S3; have HN3 := Lib.hid (show (∀ x ∈ F, w.heap.size ≤ x) ∧ (∀ x ∈ F, x ≠ p ∧ x ≠ g ∧ x ≠ q) from ⟨fun x hx => Nat.le_trans (HU1.out.trans HU0.out).size (n3 x hx), fun x hx => (by have h1 := n3 x hx; have h2 := (HM1.out.up HU0.out).top.lt; have h3 := (HM1.out.up HU0.out).row.lt; exact ⟨(by omega), (by omega), fun h => nq (h ▸ hx)⟩)⟩); have HV3 := Lib.hid V3; have HU3 := Lib.hid ((HU1.out.trans HU0.out).trans U3); clear S3 n3 V3 q3 nq U3)
    | (go_at_call 20; (with_reducible refine (utkTake_pop (n := 2) HS3.out HZ.out HMM.out).mono ?_); rintro e w4 ⟨bt, rfl, M4⟩; have HM4 := Lib.hid M4; clear M4))
  clear e0 e1 e2 e3 e4 e5
  obtain ⟨F4, O4, J4, N4, nO4, E4⟩ := umade_in HM4.out HV3.out HN3.out.2
  have s3 := HU3.out.size
  have HF4 := Lib.hid (show Fst w w4 bt b p g q qs ql s1 F4 O4 (.pop (-1) (Po.new 1)) from ⟨J4, Else.up_new HU3.out E4 HN3.out.1, fun x hx => by rcases N4 x hx with h | h; exact HN3.out.1 x h; omega, fun x hx => by have := nO4 x hx; omega, HP1.out⟩)
  clear J4 N4 nO4 E4 s3
  have HCI := Lib.hid (show chI (-1) = 0 by decide)
  have HCB := Lib.hid (show chB (-1) = false by decide)
  go_upto_region 11 with (first
    | (go_at_call 21; (with_reducible refine (HF4.out.in_.tk.done_ (y := false) rfl).mono ?_); rintro e w5 ⟨rfl, rfl⟩)
    | (go_at_call 22; (with_reducible refine (H3.out _ _ _ _ _ _ _ _ _ _ HF4.out.in_).mono ?_); rintro e w5 ⟨rfl, F5, O5, s5, hc5, hx5, J5, N5, NO5, E5⟩; have HC5 := Lib.hid hc5; have HF5 := Lib.hid (show Fst w w5 bt b p g q qs ql s5 F5 O5 .idle from ⟨J5, Else.up_new HF4.out.up E5 (fun x hx => by simp at hx; rcases hx with h | h | h | h; rw [h]; exact HF4.out.np.1; rw [h]; exact HF4.out.np.2; exact HF4.out.nF x h; exact HF4.out.nO x h), fun x hx => by have h1 := HF4.out.up.size; rcases N5 x hx with h | h; exact HF4.out.nF x h; omega, fun x hx => by have h1 := HF4.out.up.size; rcases NO5 x hx with h | h; exact HF4.out.nO x h; omega, HF4.out.np⟩); clear hc5 hx5 J5 N5 NO5 E5))
  go_wp2_with (first
    | (go_at_call 23; (with_reducible refine (HF5.out.in_.tk.chunk HCI.out HCB.out).mono ?_); rintro e w6 ⟨rfl, U6⟩; have HU6 := Lib.hid U6; have HT6 := Lib.hid (show UTkM w6 bt b q 2 .idle (-1) (-1) O5 from by obtain ⟨h1, h2, pv, T⟩ := HF5.out.in_.tk; exact ⟨h1, fun x hx => Nat.lt_of_lt_of_le (h2 x hx) U6.size, pv, T.up U6⟩); clear U6)
    | (go_at_call 21; (with_reducible refine (HT6.out.done_ (y := true) rfl).mono ?_); rintro e w7 ⟨rfl, rfl⟩)
    | (go_at_call 24; (with_reducible refine HT6.out.seen.mono ?_); rintro e w7 ⟨rfl, rfl⟩)
    | (go_at_call 18; (with_reducible refine (count_to (HF5.out.in_.env.mem.up HU6.out) HC5.out).mono ?_); rintro e w7 ⟨rfl, rfl⟩))
  go_ret
  exact ⟨rfl, HF5.out.up.trans HU6.out⟩
end
end Go.Proofs.Ytkopplnjomkleaa

/-
  One supply alone, told by its place (LoneC: with the memory told; LoneB): the calls that are no accesses; made for one; a limbo of one bucket.
-/
namespace Go.Proofs.Ytkopplnjomkleaa
open Go.RowKit
open W64
set_option maxRecDepth 100000
set_option linter.unusedSimpArgs false
def LoneC (W w : World) (l : Lia) (s : St) (b : Nat) (vS vX : Value) (st : List Int) (R : Lb) : Prop := ∃ d : SuD, d.b = b ∧ Lone W w l s.xs d vS vX st R ∧ Mem w l.p l.g s
def LoneB (W w : World) (l : Lia) (xs : List Int) (b : Nat) (vS vX : Value) (st : List Int) (R : Lb) : Prop := ∃ d : SuD, d.b = b ∧ Lone W w l xs d vS vX st R
section
variable {W w w1 w' : World} {l : Lia} {xs xs' : List Int} {d : SuD} {vS vX v : Value} {st st' zs : List Int} {R R' : Lb} {b k kk dd : Nat} {s : St} {tag now x t y : Int}
/-! ### A limbo of one bucket -/
theorem one_outs_no (hk : k < 3) (hx : zs ≠ []) (h : ¬ t + 2 ≤ now) : (Lb.one k t zs).outs now = [] ∧ (Lb.one k t zs).rest now = Lb.one k t zs := by
  have : k = 0 ∨ k = 1 ∨ k = 2 := by omega
  rcases this with rfl | rfl | rfl <;> simp [Lb.outs, Lb.rest, Lb.cnt, Lb.rdyL, Lb.rdyS, Lb.opn, Lb.old, Lb.oldTo, Lb.pick, Lb.one, put, hx, h]
theorem one_outs_yes (hk : k < 3) (hx : zs ≠ []) (h : t + 2 ≤ now) : (Lb.one k t zs).outs now = zs := by
  have : k = 0 ∨ k = 1 ∨ k = 2 := by omega
  rcases this with rfl | rfl | rfl <;> simp [Lb.outs, Lb.cnt, Lb.rdyL, Lb.opn, Lb.old, Lb.oldTo, Lb.pick, Lb.one, put, hx, h]
/-! ### The supply -/
theorem LoneC.ups (A : LoneC W w l s b vS vX st R) (u : Up w w') : LoneC W w' l s b vS vX st R := by
  obtain ⟨d, hb, L, M⟩ := A
  exact ⟨d, hb, L.ups u, M.up u⟩
theorem LoneC.base {W0 : World} (A : LoneC W w l s b vS vX st R) (u : Up W0 W) : LoneC W0 w l s b vS vX st R := by
  obtain ⟨d, hb, L, M⟩ := A
  exact ⟨d, hb, L.base u, M⟩
theorem LoneC.toB (A : LoneC W w l s b vS vX st R) (h : s.xs = xs) : LoneB W w l xs b vS vX st R := by
  obtain ⟨d, hb, L, M⟩ := A
  exact ⟨d, hb, h ▸ L⟩
theorem LoneC.obj (A : LoneC W w l s b vS vX st R) : Whole w l.a 34 (alRow l vS vX) := by obtain ⟨d, hb, L, M⟩ := A; exact L.obj
theorem LoneB.obj (A : LoneB W w l xs b vS vX st R) : Whole w l.a 34 (alRow l vS vX) := by obtain ⟨d, hb, L⟩ := A; exact L.obj
theorem LoneC.mem (A : LoneC W w l s b vS vX st R) : Mem w l.p l.g s := by obtain ⟨d, hb, L, M⟩ := A; exact M
theorem LoneC.upW (A : LoneC W w l s b vS vX st R) : Up W w := by obtain ⟨d, hb, L, M⟩ := A; exact L.up
theorem LoneB.upW (A : LoneB W w l xs b vS vX st R) : Up W w := by obtain ⟨d, hb, L⟩ := A; exact L.up
theorem LoneB.ups (A : LoneB W w l xs b vS vX st R) (u : Up w w') : LoneB W w' l xs b vS vX st R := by
  obtain ⟨d, hb, L⟩ := A
  exact ⟨d, hb, L.ups u⟩
theorem LoneC.turned (A : Lone W w l s.xs d vS vX st R) (M : Mem w l.p l.g s) (T : Turned w w' d.F fun F' => PSu w' d.b (suRow l.p d.q l.c.ba d.qs d.ql) d.qs d.ql F' l.m st' R') : LoneC W w' l s d.b vS vX st' R' := by
  obtain ⟨F', L⟩ := A.turned T
  obtain ⟨_, _, _, E⟩ := T
  exact ⟨d.re F', rfl, L, M.else E A.ins.2.1 A.ins.2.2.1⟩
theorem rd_new (w : World) (_ : Int) (F : List Nat) (h : ∀ y ∈ F, y < w.heap.size) : Away (.slice (some ⟨w.heap.size, 0, none⟩) 1 1) F := fun y hy e => by
  simp [Value.ownBlock] at e; have := h y hy; omega
theorem lcRetire (A : LoneC W w l s b vS vX st R) (x : Int) (h1 : R.last ≤ tag) (h2 : tag ≤ 4611686018427387903) (hk : tag % 3 = kk) (hs : R.size + 1 ≤ 8000) (hl : st.length + (R.taken kk tag).length ≤ 8192) (hR : R.retire kk tag [x] = R') (hst : st ++ R.taken kk tag = st') :
    Calls Try.prog 9 #[.pointer (some ⟨b, 0, none⟩), .int .i64 tag, .slice (some ⟨w.heap.size, 0, none⟩) 1 1] (w.alloc (.cells #[.int .i64 x] 3)) fun e w' => e = .returned (.int .i64 0) ∧ LoneC W w' l s b vS vX st' R' := by
  obtain ⟨d, rfl, L, M⟩ := A
  have L2 := L.ups (Up.alloc w (.cells #[.int .i64 x] 3))
  have M2 := M.up (Up.alloc w (.cells #[.int .i64 x] 3))
  subst hR hst
  exact (suRetire L2.su (rd_one w x) (rd_new w x d.F (fun y hy => L.su.lt y hy)) (by simp) h1 h2 hk hs hl).mono fun _ _ ⟨he, T⟩ => ⟨he, LoneC.turned L2 M2 T⟩
theorem lcRetire_no (A : LoneC W w l s b vS vX st R) (x : Int) (h : ¬ (R.last ≤ tag ∧ tag ≤ 4611686018427387903)) (hl : st.length ≤ 8192) :
    Calls Try.prog 9 #[.pointer (some ⟨b, 0, none⟩), .int .i64 tag, .slice (some ⟨w.heap.size, 0, none⟩) 1 1] (w.alloc (.cells #[.int .i64 x] 3)) fun e w' => e = .returned (.int .i64 1) ∧ LoneC W w' l s b vS vX st R := by
  obtain ⟨d, rfl, L, M⟩ := A
  have L2 := L.ups (Up.alloc w (.cells #[.int .i64 x] 3))
  have M2 := M.up (Up.alloc w (.cells #[.int .i64 x] 3))
  exact (suRetire_no L2.su (rd_one w x) (fun ⟨_, h2⟩ => h h2) hl).mono fun _ _ ⟨he, T⟩ => ⟨he, LoneC.turned L2 M2 T⟩
theorem lcRetire_nil (A : LoneC W w l s b vS vX st R) (hl : st.length ≤ 8192) :
    Calls Try.prog 9 #[.pointer (some ⟨b, 0, none⟩), .int .i64 tag, .slice none 0 0] w fun e w' => e = .returned (.int .i64 1) ∧ LoneC W w' l s b vS vX st R := by
  obtain ⟨d, rfl, L, M⟩ := A
  exact (suRetire_no L.su (Rd.nil w) (fun ⟨h, _⟩ => h rfl) hl).mono fun _ _ ⟨he, T⟩ => ⟨he, LoneC.turned L M T⟩
theorem lcBucket (A : LoneC W w l s b vS vX st R) {i : Int} (hi : i = (k : Int)) (hk : k < 3) (hT : R.T k = tag) (hL : R.L k = xs) (hl : xs.length ≤ 8192) (hd : xs.length = dd) :
    Calls Try.prog 17 #[.pointer (some ⟨b, 0, none⟩), .int .i64 i] w fun e w' => ∃ A cp, e = .returned (.tuple #[.int .i64 tag, .slice A dd cp]) ∧ LoneC W w' l s b vS vX st R := by
  obtain ⟨d, rfl, L, M⟩ := A
  exact (suBucket L.su hi hk hT hL hl hd).mono fun _ _ ⟨A, cp, he, _, _, u⟩ => ⟨A, cp, he, d, rfl, L.ups u, M.up u⟩
theorem lcBucketK (A : LoneC W w l s b vS vX st R) (hk : k < 3) (hT : R.T k = tag) (hL : R.L k = xs) (hl : xs.length ≤ 8192) (hd : xs.length = dd) :
    Calls Try.prog 17 #[.pointer (some ⟨b, 0, none⟩), .int .i64 (k : Int)] w fun e w' => ∃ A cp, e = .returned (.tuple #[.int .i64 tag, .slice A dd cp]) ∧ LoneC W w' l s b vS vX st R := lcBucket A rfl hk hT hL hl hd
theorem lcStash (A : LoneC W w l s b vS vX st R) (hl : st.length ≤ 8192) (hd : st.length = dd) :
    Calls Try.prog 11 #[.pointer (some ⟨b, 0, none⟩)] w fun e w' => ∃ A cp, e = .returned (.slice A dd cp) ∧ LoneC W w' l s b vS vX st R := by
  obtain ⟨d, rfl, L, M⟩ := A
  exact (suStash L.su hl hd).mono fun _ _ ⟨A, cp, he, _, _, u⟩ => ⟨A, cp, he, d, rfl, L.ups u, M.up u⟩
theorem lbStash (A : LoneB W w l xs b vS vX st R) (hl : st.length ≤ 8192) (hd : st.length = dd) :
    Calls Try.prog 11 #[.pointer (some ⟨b, 0, none⟩)] w fun e w' => ∃ A cp, e = .returned (.slice A dd cp) ∧ LoneB W w' l xs b vS vX st R := by
  obtain ⟨d, rfl, L⟩ := A
  exact (suStash L.su hl hd).mono fun _ _ ⟨A, cp, he, _, _, u⟩ => ⟨A, cp, he, d, rfl, L.ups u⟩
theorem lcReady (A : LoneC W w l s b vS vX st R) (hs : R.size ≤ 8000) (ho : R.outs now = zs) (hr : R.rest now = R') (hl : st.length + zs.length ≤ 8192) (hd : zs.length = dd) (hst : st ++ zs = st') :
    Calls Try.prog 19 #[.pointer (some ⟨b, 0, none⟩), .int .i64 now] w fun e w' => e = .returned (.int .i64 (dd : Nat)) ∧ LoneC W w' l s b vS vX st' R' := by
  obtain ⟨d, rfl, L, M⟩ := A
  subst ho hr hst
  exact (suReady L.su now hs hl hd).mono fun _ _ ⟨he, T⟩ => ⟨he, LoneC.turned L M T⟩
/-! ### made, for one -/
theorem mem13_c (l : Lia) (n : Nat) : (mem13 l n).c = 0 := by unfold mem13; rw [fillS_c]; rfl
/-- What made leaves for one supply: all lies at a, the supply at b. -/
def MdOne (W w : World) (c : Cf) (a : Nat) : Prop := ∃ (l : Lia) (LEN : Nat) (r cp b : Nat) (vX : Value), l.a = a ∧ (l.c = c ∧ (l.lk : Int) = 3 + c.wk + 2 * c.sl ∧ (l.n : Int) = c.ch ∧ l.m = cutM c.ca ∧ (LEN : Int) = lenN c) ∧ LoneC W w l (mem13 l LEN) b (.slice (some ⟨r, 0, none⟩) 1 cp) vX [] Lb.zero ∧ w.cell? ⟨r, 0, none⟩ = some (.pointer (some ⟨b, 0, none⟩))
theorem made_one {c : Cf} (hc : c.Small) (w : World) :
    Calls Try.prog 6 #[c.v, .int .i64 1] w fun e w' => ∃ a, e = .returned (.pointer (some ⟨a, 0, none⟩)) ∧ MdOne w w' c a := by
  refine (made13 hc (N := 1) (by decide) w).mono ?_
  rintro e w' ⟨a, rfl, l, LEN, vS, vX, L, X, hla, hnum, hL, hX, A⟩
  obtain ⟨d, rfl⟩ : ∃ d, L = [d] := by
    cases L with
    | nil => simp at hL
    | cons d r => cases r with
      | nil => exact ⟨d, rfl⟩
      | cons e r => simp at hL
  obtain ⟨r, cp, b, hv, hb, hcell⟩ := A.pS.get (u := 0) (by simp)
  simp at hb
  subst hb
  have hv2 : vS = .slice (some ⟨r, 0, none⟩) 1 cp := by simpa using hv
  subst hv2
  exact ⟨a, rfl, l, LEN, r, cp, d.b, vX, hla, hnum, ⟨d, rfl, A.lone, A.env.mem⟩, hcell⟩
end
end Go.Proofs.Ytkopplnjomkleaa
