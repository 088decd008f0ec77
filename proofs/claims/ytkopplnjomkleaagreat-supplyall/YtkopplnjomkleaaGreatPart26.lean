/-
  Texts beneath SupplyAll, part 26: RefTake3, RefGive, RefSpill.
-/
import Derived.Test.YtkopplnjomkleaaGreatPart25
/-
  The reference's Take: an access of its Pop.
-/
namespace Go.Proofs.YtkopplnjomkleaaGreat
open Go.RowKit
open W64
set_option maxRecDepth 100000
set_option linter.unusedSimpArgs false
/-- A worker's supply and its Take (its own blocks O), over the document's memory. -/
structure TkIn (w : World) (bt b k qs ql p g qp qsr qe : Nat) (c : Cf) (lk n : Nat) (F O : List Nat) (m : Int) (st : List Int) (R : Lb) (mc : Mc) (ch sn : Int) (xs : List Int) (cnt : Int) : Prop where
  su : RSu w b k qs ql F m st R
  tk : RTkM w bt b qp n mc ch sn O
  rp : RP w k p g qp qsr qe c lk n xs cnt
  dis : ∀ x ∈ O, x ∉ F
  far : ∀ x, x ∈ F ∨ x ∈ O → x ≠ p ∧ x ≠ g ∧ x ≠ k ∧ x ≠ qp
/-- What one access leaves. -/
def TkOut (w w' : World) (bt b k qs ql p g qp qsr qe : Nat) (c : Cf) (lk n : Nat) (F O : List Nat) (m : Int) (st : List Int) (R : Lb) (mc : Mc) (ch sn : Int) (xs : List Int) (cnt : Int) : Prop :=
  ∃ F' O', TkIn w' bt b k qs ql p g qp qsr qe c lk n F' O' m st R mc ch sn xs cnt ∧ Next w F F' ∧ Next w O O' ∧ Else (p :: g :: (F ++ O)) w w'
section
variable {w w1 w' : World} {bt b k qs ql p g qp qsr qe lk n : Nat} {F O F' O' : List Nat} {m a ch sn seen : Int} {st : List Int} {R : Lb} {c : Cf} {xs : List Int} {cnt : Int} {pv : Value} {dn : Bool} {mc : Mc} {P P' : Po}
theorem far_next (N1 : Next w F F') (N2 : Next w O O') (h : ∀ x, x ∈ F ∨ x ∈ O → x ≠ p ∧ x ≠ g ∧ x ≠ k ∧ x ≠ qp) (hp : p < w.heap.size) (hg : g < w.heap.size) (hk : k < w.heap.size) (hq : qp < w.heap.size) : ∀ x, x ∈ F' ∨ x ∈ O' → x ≠ p ∧ x ≠ g ∧ x ≠ k ∧ x ≠ qp := by
  intro x hx
  rcases hx with hx | hx
  · rcases N1 x hx with h1 | h1
    · exact h x (.inl h1)
    · omega
  · rcases N2 x hx with h1 | h1
    · exact h x (.inr h1)
    · omega
theorem RP.lts (E : RP w k p g qp qsr qe c lk n xs cnt) : p < w.heap.size ∧ g < w.heap.size ∧ k < w.heap.size ∧ qp < w.heap.size := ⟨E.env.mem.top.lt, E.env.mem.row.lt, E.obj.lt, E.env.stk.lt⟩
theorem rtkStep_no (T : RTkM w bt b qp n .idle ch sn O) : Calls Tryz.prog 36 #[.pointer (some ⟨bt, 0, none⟩)] w fun e w' => e = .returned (.bool false) ∧ w = w' := by
  obtain ⟨_, _, a, pv, T⟩ := T
  have t5 := T.cell (i := 5) (v := .bool true) rfl
  clear T
  go_enter Tryz.func36, Tryz.ntmps36
  go_wp2_with fail
  go_ret
  exact ⟨rfl, rfl⟩
/-- While its Pop goes on: what is at hand behind the access. -/
structure TkMid (w w' : World) (bt b k qs ql p g qp qsr qe bp : Nat) (c : Cf) (lk n : Nat) (F : List Nat) (m : Int) (st : List Int) (R : Lb) (seen : Int) (v v' : Value) (P' : Po) (xs : List Int) (cnt : Int) : Prop where
  su : RSu w' b k qs ql F m st R
  top : Whole w' bt 141 (rtkRow b 1 (-1) seen (.pointer (some ⟨bp, 0, none⟩)) false)
  pm : RPoM w' bp qp n v' P'
  rp : RP w' k p g qp qsr qe c lk n xs cnt
  near : v'.ownBlock = v.ownBlock ∨ v'.ownBlock = none ∨ ∃ r, v'.ownBlock = some r ∧ w.heap.size ≤ r
  he : Else (p :: g :: bt :: bp :: blk v) w w'
theorem TkMid.up {v v' : Value} {bp : Nat} (M : TkMid w w1 bt b k qs ql p g qp qsr qe bp c lk n F m st R seen v v' P' xs cnt) (u : Up w1 w') : TkMid w w' bt b k qs ql p g qp qsr qe bp c lk n F m st R seen v v' P' xs cnt :=
  ⟨M.su.up u, M.top.up u, M.pm.up u, M.rp.up u, M.near, M.he.up u⟩
theorem rtkPopGo (I : TkIn w bt b k qs ql p g qp qsr qe c lk n F O m st R (.pop seen P) ch sn xs cnt) (hf : P.fin = false) :
    ∃ bp v, O = bt :: bp :: blk v ∧ Whole w bt 141 (rtkRow b 1 (-1) seen (.pointer (some ⟨bp, 0, none⟩)) false) ∧
      Calls Tryz.prog 88 #[.pointer (some ⟨bp, 0, none⟩)] w fun e w' => e = .returned (.bool true) ∧ ∃ v', TkMid w w' bt b k qs ql p g qp qsr qe bp c lk n F m st R seen v v' (P.go n 0 lk xs) (P.xs 0 xs) (wrap64 (cnt + 1)) := by
  obtain ⟨_, _, bp, v, rfl, T, M, n1, n2, n3⟩ := I.tk
  refine ⟨bp, v, rfl, T, ?_⟩
  have far := I.far
  have hbp := far bp (.inr (by simp))
  have hbt := far bt (.inr (by simp))
  have hv : ∀ x, v.ownBlock = some x → x ≠ p ∧ x ≠ g ∧ x ≠ k ∧ x ≠ qp := fun x hx => far x (.inr (by simp [blk, hx]))
  have A : Apart bp p g qp v := ⟨hbp.1, hbp.2.1, hbp.2.2.2, fun h => (hv p h).1 rfl, fun h => (hv g h).2.1 rfl, fun h => (hv qp h).2.2.2 rfl⟩
  refine (rpoStep I.rp.env A M hf).mono ?_
  rintro e w' ⟨rfl, v', N, E', M', X⟩
  have hin : ∀ x, x ∈ (bp :: v.ownBlock.toList) ++ [p, g] ↔ x = bp ∨ v.ownBlock = some x ∨ x = p ∨ x = g := by
    intro x; simp [eq_comm]
  refine ⟨rfl, v', I.su.else X (fun x hx h => ?_), X.whole T (fun h => ?_), M', ⟨X.whole I.rp.obj (fun h => ?_), E', I.rp.may, I.rp.hk, I.rp.hn⟩, N, X.more (fun x hx => ?_)⟩
  · rcases (hin x).1 h with h | h | h | h
    · exact I.dis x (by simp [h]) hx
    · exact I.dis x (by simp [blk, h]) hx
    · exact (far x (.inl hx)).1 h
    · exact (far x (.inl hx)).2.1 h
  · rcases (hin bt).1 h with h | h | h | h
    · exact n1 h.symm
    · exact n2 h
    · exact hbt.1 h
    · exact hbt.2.1 h
  · rcases (hin k).1 h with h | h | h | h
    · exact hbp.2.2.1 h.symm
    · exact (hv k h).2.2.1 rfl
    · exact I.rp.kp h
    · exact I.rp.kg h
  · rcases (hin x).1 hx with h | h | h | h <;> simp [h, blk]
/-- The Pop goes on. -/
theorem TkMid.out {v v' : Value} {bp : Nat} (I : TkIn w bt b k qs ql p g qp qsr qe c lk n F (bt :: bp :: blk v) m st R (.pop seen P) ch sn xs cnt) (M : TkMid w w' bt b k qs ql p g qp qsr qe bp c lk n F m st R seen v v' P' (P.xs 0 xs) (wrap64 (cnt + 1))) (n1 : bp ≠ bt) :
    TkOut w w' bt b k qs ql p g qp qsr qe c lk n F (bt :: bp :: blk v) m st R (.pop seen P') (-1) seen (P.xs 0 xs) (wrap64 (cnt + 1)) := by
  have NX : Next w (bt :: bp :: blk v) (bt :: bp :: blk v') := by
    intro x hx
    rcases List.mem_cons.1 hx with h | hx
    · exact .inl (by simp [h])
    rcases List.mem_cons.1 hx with h | hx
    · exact .inl (by simp [h])
    have e := mem_blk.1 hx
    rcases M.near with h | h | ⟨r, h, hr⟩
    · rw [h] at e; exact .inl (by simp [blk, e])
    · rw [h] at e; cases e
    · rw [h] at e; injection e with e; exact .inr (by omega)
  obtain ⟨l1, l2, l3, l4⟩ := I.rp.lts
  refine ⟨F, bt :: bp :: blk v', ⟨M.su, ⟨rfl, rfl, bp, v', rfl, M.top, M.pm, n1, ?_, M.pm.at_.away⟩, M.rp, fun x hx => ?_, far_next (Next.refl _ _) NX I.far l1 l2 l3 l4⟩, Next.refl _ _, NX, M.he.more (fun x hx => ?_)⟩
  · exact ints_off M.pm.at_.row M.top (by decide)
  · rcases NX x hx with h | h
    · exact I.dis x h
    · intro hf; have := I.su.lt x hf; omega
  · simp at hx ⊢
    rcases hx with h | h | h | h | h <;> simp [h]
end
end Go.Proofs.YtkopplnjomkleaaGreat

/-
  The reference's Give: it is made (give), its Step, its Hand.
-/
namespace Go.Proofs.YtkopplnjomkleaaGreat
open Go.RowKit
open W64
set_option maxRecDepth 100000
set_option linter.unusedSimpArgs false
/-- A Give lies at bg, as its machine mc says; its own blocks O. -/
def RGvM (w : World) (bg qp n : Nat) (mc : Mc) (O : List Nat) : Prop := match mc with
  | .idle => bg ∈ O ∧ (∀ x ∈ O, x < w.heap.size) ∧ ∃ pv lv, Whole w bg 149 #[pv, lv, .bool true]
  | .give V => ∃ bp v lv, O = bg :: bp :: (blk v ++ blk lv) ∧ Whole w bg 149 #[.pointer (some ⟨bp, 0, none⟩), lv, .bool false] ∧ RPuM w bp qp n v V ∧ Ints w lv (I V.l) ∧ bp ≠ bg ∧ ∀ x, v.ownBlock = some x → lv.ownBlock ≠ some x
  | _ => False
/-- A worker's Give over the document's memory. -/
structure GvIn (w : World) (bg k p g qp qsr qe : Nat) (c : Cf) (lk n : Nat) (O : List Nat) (mc : Mc) (xs : List Int) (cnt : Int) : Prop where
  gv : RGvM w bg qp n mc O
  rp : RP w k p g qp qsr qe c lk n xs cnt
  far : ∀ x, x ∈ O → x ≠ p ∧ x ≠ g ∧ x ≠ k ∧ x ≠ qp
/-- A Give's machine behind an access that leaves its Push so. -/
def gvMc (V : Pu) : Mc := if V.fin = true then .idle else .give V
def GvOut (w w' : World) (bg k p g qp qsr qe : Nat) (c : Cf) (lk n : Nat) (O : List Nat) (mc : Mc) (xs : List Int) (cnt : Int) : Prop :=
  GvIn w' bg k p g qp qsr qe c lk n O mc xs cnt ∧ Else (p :: g :: O) w w'
section
variable {w w1 w' : World} {bg bt b k qs ql p g qp qsr qe lk n : Nat} {F O F' O' : List Nat} {m : Int} {st : List Int} {R : Lb} {c : Cf} {xs : List Int} {cnt : Int} {mc : Mc} {l : List Nat} {V : Pu} {o : Value}
set_option maxHeartbeats 2000000 in
theorem rpush_none (R : Rd w o (I [])) (q : Nat) :
    Calls Tryz.prog 127 #[.pointer (some ⟨q, 0, none⟩), o] w fun e w' => ∃ b, e = .returned (.pointer (some ⟨b, 0, none⟩)) ∧ w.heap.size ≤ b ∧ Up w w' := by
  obtain ⟨A, cap, rfl⟩ := R.slice
  have HR := Lib.hid R
  clear R
  have e0 : (((I []).length : Nat) : Int) = 0 := rfl
  go_enter Tryz.func127, Tryz.ntmps127
  go_wp2_with (at_builtin; refine wpList_app (v := .slice none 0 0) rfl _ _ rfl rfl rfl (Ints.nil _) HR.out (by rw [I_len]; simp) ?_; intro v5 w5 J5 G5 A5; obtain ⟨A5v, N5, c5, rfl⟩ := shapeI J5; have HU5 := Lib.hid (up_app (Up.refl w) G5 (fresh_nil w)); clear J5 G5 A5)
  go_ret
  exact ⟨_, rfl, HU5.out.size, HU5.out.then_alloc _⟩
set_option maxHeartbeats 4000000 in
/-- A Give of some. -/
theorem rgvNew (cb : w.cell? ⟨b, 0, none⟩ = some (.pointer (some ⟨k, 0, none⟩))) (ck : w.cell? ⟨k, 7, none⟩ = some (.pointer (some ⟨qp, 0, none⟩))) (Ro : Rd w o (I l)) (h0 : l ≠ []) (hlt : ∀ x ∈ l, x < n) (hl : l.length ≤ 8000) :
    Calls Tryz.prog 95 #[.pointer (some ⟨b, 0, none⟩), o] w fun e w' => ∃ bg O, e = .returned (.pointer (some ⟨bg, 0, none⟩)) ∧ RGvM w' bg qp n (.give ⟨l, 0, 0, false⟩) O ∧ (∀ x ∈ O, w.heap.size ≤ x) ∧ Up w w' := by
  have lp := List.length_pos_iff.2 h0
  have HP := Lib.hid (rpuNew (q := qp) Ro h0 hlt hl)
  have HR := Lib.hid Ro
  obtain ⟨N, hN⟩ : ∃ N, (I l).length = N := ⟨_, rfl⟩
  obtain ⟨A, cap, rfl⟩ := Ro.slice
  rw [hN] at HP HR ⊢
  have HN := Lib.hid (show N ≤ 8000 by rw [← hN, I_len]; exact hl)
  have HNL := Lib.hid hN
  rw [I_len] at hN
  have e1 : ¬ (N : Int) = 0 := by omega
  have e0 : ((N : Int) == 0) = false := by simpa using e1
  clear Ro h0 hlt hl lp hN
  go_enter Tryz.func95, Tryz.ntmps95
  go_wp2_with (first
    | (go_at_call 127; (with_reducible refine HP.out.mono ?_); rintro e w1 ⟨bp, v, rfl, M1, b1, F1, U1⟩; have HM1 := Lib.hid M1; have HB1 := Lib.hid (And.intro b1 F1); have HU1 := Lib.hid U1; have HR1 := Lib.hid (HR.out.up U1); clear M1 b1 F1 U1)
    | (at_builtin; refine wpList_app (v := .slice none 0 0) rfl _ _ rfl rfl rfl (Ints.nil _) HR1.out (by rw [HNL.out]; simp; exact Nat.le_trans HN.out (by decide)) ?_; intro v5 w5 J5 G5 A5; obtain ⟨A5v, N5, c5, rfl⟩ := shapeI J5; have HJ5 := Lib.hid J5; have HU5 := Lib.hid (up_app (Up.refl w1) G5 (fresh_nil w1)); have HF5 := Lib.hid (fresh_app (fresh_nil w1) (Nat.le_refl _) A5); clear J5 G5 A5))
  go_ret
  have s1 := HU1.out.size
  have s5 := HU5.out.size
  obtain ⟨b1, F1⟩ := HB1.out
  have hb5 := (HM1.out.up HU5.out).at_.top.lt
  have J6 := HJ5.out.up (Up.alloc w5 (.cells #[.pointer (some ⟨bp, 0, none⟩), .slice A5v N5 c5, .bool false] 149))
  refine ⟨w5.heap.size, w5.heap.size :: bp :: (blk v ++ blk (.slice A5v N5 c5)), rfl, ⟨bp, v, _, rfl, Whole.new _ _ _, (HM1.out.up HU5.out).up (Up.alloc _ _), by simpa using J6, by omega, fun x hx h => ?_⟩, fun x hx => ?_, (HU1.out.trans HU5.out).then_alloc _⟩
  · have h1 := HM1.out.at_.row.lt hx
    have h2 := HF5.out x h
    omega
  · simp at hx
    rcases hx with h | h | h | h
    · omega
    · omega
    · exact F1 x (mem_blk.1 h)
    · have := HF5.out x (mem_blk.1 h); omega
set_option maxHeartbeats 4000000 in
/-- A Give of nothing: it is done. -/
theorem rgvNone (cb : w.cell? ⟨b, 0, none⟩ = some (.pointer (some ⟨k, 0, none⟩))) (ck : w.cell? ⟨k, 7, none⟩ = some (.pointer (some ⟨qp, 0, none⟩))) (Ro : Rd w o (I [])) :
    Calls Tryz.prog 95 #[.pointer (some ⟨b, 0, none⟩), o] w fun e w' => ∃ bg O, e = .returned (.pointer (some ⟨bg, 0, none⟩)) ∧ RGvM w' bg qp n .idle O ∧ (∀ x ∈ O, w.heap.size ≤ x) ∧ Up w w' := by
  have HP := Lib.hid (rpush_none Ro qp)
  have HR := Lib.hid Ro
  obtain ⟨A, cap, rfl⟩ := Ro.slice
  have e0 : (((I []).length : Nat) : Int) = 0 := rfl
  clear Ro
  go_enter Tryz.func95, Tryz.ntmps95
  go_wp2_with (first
    | (go_at_call 127; (with_reducible refine HP.out.mono ?_); rintro e w1 ⟨bp, rfl, b1, U1⟩; have HU1 := Lib.hid U1; have HR1 := Lib.hid (HR.out.up U1); clear b1 U1)
    | (at_builtin; refine wpList_app (v := .slice none 0 0) rfl _ _ rfl rfl rfl (Ints.nil _) HR1.out (by rw [I_len]; simp) ?_; intro v5 w5 J5 G5 A5; obtain ⟨A5v, N5, c5, rfl⟩ := shapeI J5; have HU5 := Lib.hid (up_app (Up.refl w1) G5 (fresh_nil w1)); clear J5 G5 A5))
  go_ret
  have s1 := HU1.out.size
  have s5 := HU5.out.size
  refine ⟨w5.heap.size, [w5.heap.size], rfl, ⟨by simp, fun x hx => by simp at hx; simp [hx], _, _, Whole.new _ _ _⟩, fun x hx => by simp at hx; omega, (HU1.out.trans HU5.out).then_alloc _⟩
set_option maxHeartbeats 1000000 in
theorem rgvStep_no (T : RGvM w bg qp n .idle O) : Calls Tryz.prog 39 #[.pointer (some ⟨bg, 0, none⟩)] w fun e w' => e = .returned (.bool false) ∧ w = w' := by
  obtain ⟨_, _, pv, lv, T⟩ := T
  have t2 := T.cell (i := 2) (v := .bool true) rfl
  clear T
  go_enter Tryz.func39, Tryz.ntmps39
  go_wp2_with fail
  go_ret
  exact ⟨rfl, rfl⟩
set_option maxHeartbeats 4000000 in
/-- An access of its Push. -/
theorem rgvStep (J : GvIn w bg k p g qp qsr qe c lk n O (.give V) xs cnt) (hf : V.fin = false) :
    Calls Tryz.prog 39 #[.pointer (some ⟨bg, 0, none⟩)] w fun e w' => e = .returned (.bool true) ∧ GvOut w w' bg k p g qp qsr qe c lk n O (gvMc (V.go 0 xs)) (V.xs n 0 lk xs) (wrap64 (cnt + 1)) := by
  obtain ⟨bp, v, lv, rfl, T, M, L, n1, dv⟩ := J.gv
  have far := J.far
  have hbp := far bp (by simp)
  have hbg := far bg (by simp)
  have hv : ∀ x, v.ownBlock = some x → x ≠ p ∧ x ≠ g ∧ x ≠ k ∧ x ≠ qp := fun x hx => far x (by simp [blk, hx])
  have A : Apart bp p g qp v := ⟨hbp.1, hbp.2.1, hbp.2.2.2, fun h => (hv p h).1 rfl, fun h => (hv g h).2.1 rfl, fun h => (hv qp h).2.2.2 rfl⟩
  have HS := Lib.hid (rpuStep J.rp.env A M hf)
  have HJ := Lib.hid J
  have HT := Lib.hid T
  have HL := Lib.hid L
  have HD := Lib.hid (And.intro n1 dv)
  have HVG := Lib.hid (show v.ownBlock ≠ some bg from ints_off M.at_.row T (by decide))
  have HLP := Lib.hid (show lv.ownBlock ≠ some bp ∧ lv.ownBlock ≠ some bg from ⟨ints_off L M.at_.top (by decide), ints_off L T (by decide)⟩)
  have t0 := T.cell (i := 0) (v := .pointer (some ⟨bp, 0, none⟩)) rfl
  have t2 := T.cell (i := 2) (v := .bool false) rfl
  obtain ⟨AL, NL, cL, rfl⟩ := shapeI L
  clear J T M L n1 dv A
  go_enter Tryz.func39, Tryz.ntmps39
  go_upto_region 4 with (go_at_call 90; (with_reducible refine HS.out.mono ?_); rintro e w1 ⟨rfl, E1, M1, X1⟩; have HE1 := Lib.hid E1; have HM1 := Lib.hid M1; have HX1 := Lib.hid X1; clear E1 M1 X1)
  clear t0 t2
  have hin : ∀ x, x ∈ (bp :: v.ownBlock.toList) ++ [p, g] ↔ x = bp ∨ v.ownBlock = some x ∨ x = p ∨ x = g := by
    intro x; simp [eq_comm]
  have HT1 := Lib.hid (HX1.out.whole HT.out (fun h => by
    rcases (hin bg).1 h with h | h | h | h
    · exact HD.out.1 h.symm
    · exact HVG.out h
    · exact hbg.1 h
    · exact hbg.2.1 h))
  have HL1 := Lib.hid (HL.out.else HX1.out (fun x hx h => by
    rcases (hin x).1 hx with e | e | e | e
    · subst e; exact HLP.out.1 h
    · exact HD.out.2 x e h
    · subst e; exact (far x (by simp [blk, h])).1 rfl
    · subst e; exact (far x (by simp [blk, h])).2.1 rfl))
  have HK1 := Lib.hid (HX1.out.whole HJ.out.rp.obj (fun h => by
    rcases (hin k).1 h with h | h | h | h
    · exact hbp.2.2.1 h.symm
    · exact (hv k h).2.2.1 rfl
    · exact HJ.out.rp.kp h
    · exact HJ.out.rp.kg h))
  obtain ⟨V', hV'⟩ : ∃ V', V.go 0 xs = V' := ⟨_, rfl⟩
  rw [hV'] at HM1
  have HVV := Lib.hid hV'
  have HVL := Lib.hid (show V'.l = V.l by rw [← hV']; unfold Pu.go; split; rfl; split; rfl; split <;> rfl)
  clear hV'
  have t0 := HT1.out.cell (i := 0) (v := .pointer (some ⟨bp, 0, none⟩)) rfl
  have t2 := HT1.out.cell (i := 2) (v := .bool false) rfl
  have f2 := HT1.out.frozen 2
  have p4 := HM1.out.at_.cells.2.2.2.2
  obtain ⟨fb, hfb⟩ : ∃ fb, V'.fin = fb := ⟨_, rfl⟩
  rw [hfb] at p4
  have HFB := Lib.hid hfb
  clear hfb
  go_wp2_with fail
  go_ret
  have u : Else [bg] w1 (w1.setCell ⟨bg, 2, none⟩ (.bool fb)) := (Else.refl [bg] w1).set (.inl (by simp)) _
  have X2 : Else (p :: g :: (bg :: bp :: (blk v ++ blk (.slice AL NL cL)))) w (w1.setCell ⟨bg, 2, none⟩ (.bool fb)) := (HX1.out.more (fun x hx => by rcases (hin x).1 hx with h | h | h | h <;> simp [h, blk])).trans (u.more (fun x hx => by simp at hx; simp [hx]))
  have hRP : RP (w1.setCell ⟨bg, 2, none⟩ (.bool fb)) k p g qp qsr qe c lk n (V.xs n 0 lk xs) (wrap64 (cnt + 1)) := (show RP w1 k p g qp qsr qe c lk n (V.xs n 0 lk xs) (wrap64 (cnt + 1)) from ⟨HK1.out, HE1.out, HJ.out.rp.may, HJ.out.rp.hk, HJ.out.rp.hn⟩).else u (by simp [hbg.1.symm, hbg.2.1.symm, hbg.2.2.1.symm, hbg.2.2.2.symm])
  have hT2 := HT1.out.set 2 (.bool fb)
  have hL2 : Ints (w1.setCell ⟨bg, 2, none⟩ (.bool fb)) (.slice AL NL cL) (I V.l) := HL1.out.else u (fun x hx => by simp at hx; subst hx; exact HLP.out.2)
  have hM2 := HM1.out.else u (by simp; exact HD.out.1) (fun x hx => by simp at hx; subst hx; exact HVG.out)
  unfold gvMc
  rw [HVV.out, HFB.out]
  refine ⟨rfl, ⟨?_, hRP, far⟩, X2⟩
  cases fb
  · rw [if_neg (by decide)]
    exact ⟨bp, v, _, rfl, hT2, hM2, by rw [HVL.out]; exact hL2, HD.out.1, HD.out.2⟩
  · rw [if_pos rfl]
    refine ⟨by simp, fun x hx => ?_, _, _, hT2⟩
    simp at hx
    rcases hx with h | h | h | h
    · rw [h]; exact hT2.lt
    · rw [h]; exact hM2.at_.top.lt
    · exact hM2.at_.row.lt (mem_blk.1 h)
    · exact hL2.lt (mem_blk.1 h)
set_option maxHeartbeats 1000000 in
theorem rgvHand_no (T : RGvM w bg qp n .idle O) : Calls Tryz.prog 93 #[.pointer (some ⟨bg, 0, none⟩)] w fun e w' => e = .returned (.slice none 0 0) ∧ w = w' := by
  obtain ⟨_, _, pv, lv, T⟩ := T
  have t2 := T.cell (i := 2) (v := .bool true) rfl
  clear T
  go_enter Tryz.func93, Tryz.ntmps93
  go_wp2_with fail
  go_ret
  exact ⟨rfl, rfl⟩
set_option maxHeartbeats 2000000 in
theorem rgvHand (T : RGvM w bg qp n (.give V) O) (hl : V.l.length ≤ 8000) : Calls Tryz.prog 93 #[.pointer (some ⟨bg, 0, none⟩)] w fun e w' => ∃ o, e = .returned o ∧ Ints w' o (I V.l) ∧ Fresh w o ∧ Up w w' := by
  obtain ⟨bp, v, lv, rfl, T, M, L, _⟩ := T
  have t1 := T.cell (i := 1) (v := lv) rfl
  have t2 := T.cell (i := 2) (v := .bool false) rfl
  have HL := Lib.hid L.rd
  obtain ⟨AL, NL, cL, rfl⟩ := shapeI L
  clear T M L
  go_enter Tryz.func93, Tryz.ntmps93
  go_wp2_with (at_builtin; refine wpList_app (v := .slice none 0 0) rfl _ _ rfl rfl rfl (Ints.nil _) HL.out (by rw [I_len]; simp; omega) ?_; intro v5 w5 J5 G5 A5; obtain ⟨A5v, N5, c5, rfl⟩ := shapeI J5; have HJ5 := Lib.hid J5; have HU5 := Lib.hid (up_app (Up.refl w) G5 (fresh_nil w)); have HF5 := Lib.hid (fresh_app (fresh_nil w) (Nat.le_refl _) A5); clear J5 G5 A5)
  go_ret
  exact ⟨_, rfl, by simpa using HJ5.out, HF5.out, HU5.out⟩
end
end Go.Proofs.YtkopplnjomkleaaGreat

/-
  The reference's supply: Spill, All; it is made.
-/
namespace Go.Proofs.YtkopplnjomkleaaGreat
open Go.RowKit
open W64
set_option maxRecDepth 100000
set_option linter.unusedSimpArgs false
/-- A Give of l as it is made. -/
def spMc (l : List Nat) : Mc := if l = [] then .idle else .give ⟨l, 0, 0, false⟩
/-- What the making of a Give leaves. -/
def GvMade (w w' : World) (bg b k qs ql qp n : Nat) (F : List Nat) (m : Int) (st : List Int) (R : Lb) (mc : Mc) : Prop :=
  ∃ O, RGvM w' bg qp n mc O ∧ (∀ x ∈ O, w.heap.size ≤ x) ∧ Turned w w' F fun F' => RSu w' b k qs ql F' m st R ∧ ∀ x ∈ O, x ∉ F'
section
variable {w w1 w' : World} {bg b k qs ql p g qp qsr qe lk n : Nat} {F F1 : List Nat} {m : Int} {st : List Int} {R : Lb} {c : Cf} {xs : List Int} {cnt : Int} {T l : List Nat} {o : Value} {K : Nat}
theorem I_tk (T : List Nat) (K : Nat) : (I T).take K = I (T.take K) := by simp [I, List.map_take]
theorem I_dr (T : List Nat) (K : Nat) : (I T).drop K = I (T.drop K) := by simp [I, List.map_drop]
/-- give, of whatever list. -/
theorem rgvAny (cb : w.cell? ⟨b, 0, none⟩ = some (.pointer (some ⟨k, 0, none⟩))) (ck : w.cell? ⟨k, 7, none⟩ = some (.pointer (some ⟨qp, 0, none⟩))) (Ro : Rd w o (I l)) (hlt : ∀ x ∈ l, x < n) (hl : l.length ≤ 8000) :
    Calls Tryz.prog 95 #[.pointer (some ⟨b, 0, none⟩), o] w fun e w' => ∃ bg O, e = .returned (.pointer (some ⟨bg, 0, none⟩)) ∧ RGvM w' bg qp n (spMc l) O ∧ (∀ x ∈ O, w.heap.size ≤ x) ∧ Up w w' := by
  unfold spMc
  by_cases h0 : l = []
  · subst h0
    rw [if_pos rfl]
    exact rgvNone cb ck Ro
  · rw [if_neg h0]
    exact rgvNew cb ck Ro h0 hlt hl
theorem gv_made (E : RSu w1 b k qs ql F1 m st R) (N : Next w F F1) (X : Else F w w1) {mc : Mc} {O : List Nat} (G : RGvM w' bg qp n mc O) (hO : ∀ x ∈ O, w1.heap.size ≤ x) (u : Up w1 w') : GvMade w w' bg b k qs ql qp n F m st R mc := by
  have hs := X.size
  refine ⟨O, G, fun x hx => by have := hO x hx; omega, F1, ⟨E.up u, fun x hx h => ?_⟩, N, X.up u⟩
  have h1 := hO x hx
  obtain ⟨_, _, E⟩ := E
  have := E.lt x h
  omega
theorem rsuOver (E : RSu w b k qs ql F m (I T) R) (hK : ((T.length : Int) - m).toNat = K) (hm : 0 ≤ m ∧ m ≤ 64) (hl : T.length ≤ 8000) :
    Calls Tryz.prog 96 #[.pointer (some ⟨qs, 0, none⟩)] w fun e w' => ∃ A N cp, e = .returned (.slice A N cp) ∧ Turned w w' F fun F' => RSu w' b k qs ql F' m (I (T.drop K)) R ∧ Rd w' (.slice A N cp) (I (T.take K)) ∧ Away (.slice A N cp) F' ∧ (∀ x, (Value.slice A N cp).ownBlock = some x → x ∈ F ∨ w.heap.size ≤ x) := by
  obtain ⟨Fs, Fl, E⟩ := E
  refine (rsover_all E.sta (K := K) (by rw [I_len]; exact hK) hm (by rw [I_len]; exact hl) (I_dr T K) (I_tk T K)).mono ?_
  rintro e w' ⟨A, cp, rfl, S⟩
  exact ⟨A, K, cp, rfl, E.stook S⟩
theorem rsuAllL (E : RSu w b k qs ql F m (I T) R) :
    Calls Tryz.prog 97 #[.pointer (some ⟨qs, 0, none⟩)] w fun e w' => ∃ A N cp, e = .returned (.slice A N cp) ∧ Turned w w' F fun F' => RSu w' b k qs ql F' m [] R ∧ Rd w' (.slice A N cp) (I T) ∧ Away (.slice A N cp) F' ∧ (∀ x, (Value.slice A N cp).ownBlock = some x → x ∈ F ∨ w.heap.size ≤ x) := by
  obtain ⟨Fs, Fl, E⟩ := E
  refine (rsall_any E.sta).mono ?_
  rintro e w' ⟨o, rfl, S⟩
  obtain ⟨_, _, Ro, _⟩ := id S
  obtain ⟨A, cp, rfl⟩ := Ro.slice
  exact ⟨A, _, cp, rfl, E.stook S⟩
set_option maxHeartbeats 2000000 in
theorem rsuSpill (E : RSu w b k qs ql F m (I T) R) (P : RP w k p g qp qsr qe c lk n xs cnt) (hk : k ∉ F) (hK : ((T.length : Int) - m).toNat = K) (hm : 0 ≤ m ∧ m ≤ 64) (hl : T.length ≤ 8000) (hlt : ∀ x ∈ T, x < n) :
    Calls Tryz.prog 42 #[.pointer (some ⟨b, 0, none⟩)] w fun e w' => ∃ bg, e = .returned (.pointer (some ⟨bg, 0, none⟩)) ∧ GvMade w w' bg b k qs ql qp n F m (I (T.drop K)) R (spMc (T.take K)) := by
  have HO := Lib.hid (rsuOver E hK hm hl)
  obtain ⟨c0, c1, c2⟩ := E.cells
  have HP := Lib.hid P
  have HK := Lib.hid hk
  have HL := Lib.hid (show (∀ x ∈ T.take K, x < n) ∧ (T.take K).length ≤ 8000 from ⟨fun x hx => hlt x (List.mem_of_mem_take hx), by rw [List.length_take]; omega⟩)
  clear E P hk hK hm hl hlt
  go_enter Tryz.func42, Tryz.ntmps42
  go_wp2_with (first
    | (go_at_call 96; (with_reducible refine HO.out.mono ?_); rintro e w1 ⟨A, N, cp, rfl, F1, ⟨E1, R1, _, _⟩, N1, X1⟩; have HE1 := Lib.hid E1; have HR1 := Lib.hid R1; have HX1 := Lib.hid (And.intro N1 X1); clear E1 R1 N1 X1)
    | (go_at_call 95; refine (rgvAny HE1.out.cells.1 ((HX1.out.2.whole HP.out.obj HK.out).cell rfl) HR1.out HL.out.1 HL.out.2).mono ?_; rintro e w2 ⟨bg, O, rfl, G2, hO, U2⟩; have HG2 := Lib.hid (gv_made HE1.out HX1.out.1 HX1.out.2 G2 hO U2); clear G2 hO U2))
  go_ret
  exact ⟨bg, rfl, HG2.out⟩
set_option maxHeartbeats 2000000 in
theorem rsuAll (E : RSu w b k qs ql F m (I T) R) (P : RP w k p g qp qsr qe c lk n xs cnt) (hk : k ∉ F) (hl : T.length ≤ 8000) (hlt : ∀ x ∈ T, x < n) :
    Calls Tryz.prog 43 #[.pointer (some ⟨b, 0, none⟩)] w fun e w' => ∃ bg, e = .returned (.pointer (some ⟨bg, 0, none⟩)) ∧ GvMade w w' bg b k qs ql qp n F m [] R (spMc T) := by
  have HO := Lib.hid (rsuAllL E)
  obtain ⟨c0, c1, c2⟩ := E.cells
  have HP := Lib.hid P
  have HK := Lib.hid hk
  have HL := Lib.hid (And.intro hlt hl)
  clear E P hk hl hlt
  go_enter Tryz.func43, Tryz.ntmps43
  go_wp2_with (first
    | (go_at_call 97; (with_reducible refine HO.out.mono ?_); rintro e w1 ⟨A, N, cp, rfl, F1, ⟨E1, R1, _, _⟩, N1, X1⟩; have HE1 := Lib.hid E1; have HR1 := Lib.hid R1; have HX1 := Lib.hid (And.intro N1 X1); clear E1 R1 N1 X1)
    | (go_at_call 95; refine (rgvAny HE1.out.cells.1 ((HX1.out.2.whole HP.out.obj HK.out).cell rfl) HR1.out HL.out.1 HL.out.2).mono ?_; rintro e w2 ⟨bg, O, rfl, G2, hO, U2⟩; have HG2 := Lib.hid (gv_made HE1.out HX1.out.1 HX1.out.2 G2 hO U2); clear G2 hO U2))
  go_ret
  exact ⟨bg, rfl, HG2.out⟩
set_option maxHeartbeats 2000000 in
/-- A supply is made: nothing is kept. -/
theorem rsuNew (P : RP w k p g qp qsr qe c lk n xs cnt) (hm : cutM c.ca = m) :
    Calls Tryz.prog 34 #[.pointer (some ⟨k, 0, none⟩)] w fun e w' => ∃ b qs ql F, e = .returned (.pointer (some ⟨b, 0, none⟩)) ∧ RSu w' b k qs ql F m [] Lb.rzero ∧ (∀ x ∈ F, w.heap.size ≤ x) ∧ Up w w' := by
  have k4 := P.obj.cell (i := 4) (v := .int .i64 c.ca) rfl
  have HM := Lib.hid hm
  clear P hm
  go_enter Tryz.func34, Tryz.ntmps34
  go_wp2_with (first
    | (go_at_call 81; refine (rsnew_any _ _).mono ?_; rintro e w1 ⟨qs, rfl, S1, b1, U1⟩; rw [HM.out] at S1; have HS1 := Lib.hid S1; have HB1 := Lib.hid b1; have HU1 := Lib.hid U1; clear S1 b1 U1)
    | (go_at_call 82; refine (rlnew_any _).mono ?_; rintro e w2 ⟨ql, rfl, L2, b2, U2⟩; have HL2 := Lib.hid L2; have HB2 := Lib.hid b2; have HU2 := Lib.hid U2; clear L2 b2 U2))
  go_ret
  have s1 := HU1.out.size
  have s2 := HU2.out.size
  have hb1 := HB1.out
  have hb2 := HB2.out
  have hq1 := HS1.out.lt qs HS1.out.mem
  have hq2 := HL2.out.lt ql HL2.out.mem
  refine ⟨w2.heap.size, qs, ql, [w2.heap.size, qs, ql], rfl, ⟨[qs], [ql], Whole.new _ _ _, (HS1.out.up HU2.out).up (Up.alloc _ _), HL2.out.up (Up.alloc _ _), by simp, by simp, fun x hx => by simp at hx ⊢; omega, by simp; omega, by simp; omega, by simp, fun x hx => by simp at hx ⊢; omega⟩, fun x hx => by simp at hx; omega, (HU1.out.trans HU2.out).then_alloc _⟩
end
end Go.Proofs.YtkopplnjomkleaaGreat
