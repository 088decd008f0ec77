/-
  Texts beneath SupplyAll, part 32: SupFirst, SupOne, SupTells.
-/
import Derived.Test.YtkopplnjomkleaaGreatPart31
/-
  The statements' own first (layer 13).
-/
namespace Go.Proofs.YtkopplnjomkleaaGreat
open Go.RowKit
open W64
set_option maxRecDepth 100000
set_option linter.unusedSimpArgs false
def cfF : Cf := ⟨1, 2, 8, 1, 0, 1⟩
section
variable {W w w1 w' : World} {bt b p g q qs ql lk n : Nat} {F O : List Nat} {m ba sn ch : Int} {st : List Int} {R : Lb} {s : St} {mc : Mc}
theorem umade_in (M : UTkMade w w' bt b p q ba qs ql n F m st R mc ch sn) (V : Env w p g q 0 lk n s) (hF : ∀ x ∈ F, x ≠ p ∧ x ≠ g ∧ x ≠ q) : ∃ F' O, UTkIn w' bt b p g q lk n s ba qs ql F' O m st R mc ch sn ∧ Next w F F' ∧ (∀ x ∈ O, w.heap.size ≤ x) ∧ Else F w w' := by
  obtain ⟨O, G, nO, F', ⟨S, dis⟩, N, E⟩ := M
  obtain ⟨l1, l2, l3⟩ := V.lts
  refine ⟨F', O, ⟨S, G, V.else E (fun h => (hF _ h).1 rfl) (fun h => (hF _ h).2.1 rfl) (fun h => (hF _ h).2.2 rfl), dis, fun x hx => ?_⟩, N, nO, E⟩
  rcases hx with hx | hx
  · rcases N x hx with h | h
    · exact hF x h
    · omega
  · have := nO x hx; omega
/-- What the chapter's example has behind its making. -/
structure Fst (W w : World) (bt b p g q qs ql : Nat) (s : St) (F O : List Nat) (mc : Mc) : Prop where
  in_ : UTkIn w bt b p g q 6 2 s 1 qs ql F O 0 [] Lb.zero mc (-1) (-1)
  up : Up W w
  nF : ∀ x ∈ F, W.heap.size ≤ x
  nO : ∀ x ∈ O, W.heap.size ≤ x
  np : W.heap.size ≤ p ∧ W.heap.size ≤ g
theorem new_pq (n : Nat) (h0 : 1 ≤ n) (h1 : n ≤ 8388608) (w : World) : Calls Tryz.prog 20 #[.int .i64 (n : Int)] w fun e w' => ∃ p g, e = .returned (.tuple #[.pointer (some ⟨p, 0, none⟩), .int .i64 0]) ∧ Mem w' p g (St.zero n) ∧ (w.heap.size ≤ p ∧ w.heap.size ≤ g) ∧ Up w w' :=
  (new_in n h0 h1 w).mono fun _ _ ⟨he, M, U⟩ => ⟨_, _, he, M, ⟨by omega, Nat.le_refl _⟩, U⟩
theorem fst_lay : mayB cfF = true ∧ lenN cfF = 24 ∧ cutM cfF.ca = 0 := by decide
theorem fst_zero : (St.zero 100).xs.length = 100 := by simp [St.zero]
theorem fst_top : topN 2 ((St.zero 100).xs.getD 0 0) = -1 := by decide
theorem fst_go : Po.go 2 0 6 (St.zero 100).xs (Po.new 1) = ⟨1, 0, 0, (St.zero 100).xs.getD 0 0, [], true⟩ := go0_none fst_top
theorem fst_pack : ∃ s1 : St,
    (∀ w : World, Calls Tryz.prog 20 #[.int .i64 100] w fun e w' => ∃ p g, e = .returned (.tuple #[.pointer (some ⟨p, 0, none⟩), .int .i64 0]) ∧ Mem w' p g s1 ∧ (w.heap.size ≤ p ∧ w.heap.size ≤ g) ∧ Up w w') ∧
    (∀ (w : World) (p g : Nat), Mem w p g s1 → Calls Tryz.prog 21 #[.pointer (some ⟨p, 0, none⟩), .agg #[.int .i64 1, .int .i64 2, .int .i64 8, .int .i64 1, .int .i64 0, .int .i64 1]] w fun e w' => ∃ b q qs ql F, e = .returned (.tuple #[.pointer (some ⟨b, 0, none⟩), .int .i64 0]) ∧ PSu w' b (suRow p q 1 qs ql) qs ql F 0 [] Lb.zero ∧ (∀ x ∈ F, w.heap.size ≤ x) ∧ Env w' p g q 0 6 2 s1 ∧ w.heap.size ≤ q ∧ q ∉ F ∧ Up w w') ∧
    (∀ (w : World) (bt b p g q qs ql : Nat) (F O : List Nat), UTkIn w bt b p g q 6 2 s1 1 qs ql F O 0 [] Lb.zero (.pop (-1) (Po.new 1)) (-1) (-1) → Calls Tryz.prog 24 #[.pointer (some ⟨bt, 0, none⟩)] w fun e w' => e = .returned (.bool true) ∧ UTkOut w w' bt b p g q 6 2 1 s1.xs 1 qs ql F O 0 [] Lb.zero .idle (-1) (-1)) := by
  refine ⟨St.zero 100, fun w => new_pq 100 (by decide) (by decide) w, fun w p g M => ?_, fun w bt b p g q qs ql F O J => ?_⟩
  · exact suNew (c := cfF) (lk := 6) (n := 2) M (St.Ok.zero 100) (by rw [fst_zero]; decide) fst_lay.1 (by rfl) (by rfl) (by rw [fst_zero, fst_lay.2.1]; decide) fst_lay.2.2
  · have h := utkStep_none J rfl (by rw [fst_go]) (by rw [fst_go])
    have e : wrap64 ((St.zero 100).c + 1) = 1 := by rw [zero_c]; exact wrap64_in (by decide) (by decide)
    rw [e, xs_same (by decide)] at h
    exact h
set_option maxHeartbeats 8000000 in
theorem first13 (w : World) : Calls Tryz.prog 5 #[] w fun e w' => e = .returned (.bool true) ∧ Up w w' := by
  obtain ⟨s1, P1, P2, P3⟩ := fst_pack
  have H1 := Lib.hid P1
  have H2 := Lib.hid P2
  have H3 := Lib.hid P3
  clear P1 P2 P3
  go_enter Tryz.func5, Tryz.ntmps5
  go_upto_region 3 with (go_at_call 20; (with_reducible refine (H1.out _).mono ?_); rintro e w1 ⟨p, g, rfl, M1, pg, U1⟩; have HM1 := Lib.hid M1; have HU1 := Lib.hid U1; have HP1 := Lib.hid pg; clear M1 pg U1)
  obtain ⟨b0, hb0⟩ : ∃ b0, w1.heap.size = b0 := ⟨_, rfl⟩
  have HB0 := Lib.hid (Whole.new w1 25 #[.int .i64 1, .int .i64 2, .int .i64 8, .int .i64 1, .int .i64 0, .int .i64 1])
  have HU0 := Lib.hid (Up.alloc w1 (.cells #[.int .i64 1, .int .i64 2, .int .i64 8, .int .i64 1, .int .i64 0, .int .i64 1] 25))
  rw [hb0] at HB0 ⊢
  clear hb0
  generalize w1.alloc (.cells #[.int .i64 1, .int .i64 2, .int .i64 8, .int .i64 1, .int .i64 0, .int .i64 1] 25) = w2 at *
  have e0 := HB0.out.cell (i := 0) (v := .int .i64 1) rfl
  have e1 := HB0.out.cell (i := 1) (v := .int .i64 2) rfl
  have e2 := HB0.out.cell (i := 2) (v := .int .i64 8) rfl
  have e3 := HB0.out.cell (i := 3) (v := .int .i64 1) rfl
  have e4 := HB0.out.cell (i := 4) (v := .int .i64 0) rfl
  have e5 := HB0.out.cell (i := 5) (v := .int .i64 1) rfl
  have HZ := Lib.hid (show Lb.zero.size = 0 from rfl)
  have HMM := Lib.hid (show min (max (1 : Int) 1) 8 = (1 : Nat) by decide)
  go_upto_region 9 with (first
    | (go_at_call 21; (with_reducible refine (H2.out _ _ _ (HM1.out.up HU0.out)).mono ?_); rintro e w3 ⟨b, q, qs, ql, F, rfl, S3, n3, V3, q3, nq, U3⟩; have HS3 := Lib.hid S3; have HN3 := Lib.hid (show (∀ x ∈ F, w.heap.size ≤ x) ∧ (∀ x ∈ F, x ≠ p ∧ x ≠ g ∧ x ≠ q) from ⟨fun x hx => Nat.le_trans (HU1.out.trans HU0.out).size (n3 x hx), fun x hx => (by have h1 := n3 x hx; have h2 := (HM1.out.up HU0.out).top.lt; have h3 := (HM1.out.up HU0.out).row.lt; exact ⟨(by omega), (by omega), fun h => nq (h ▸ hx)⟩)⟩); have HV3 := Lib.hid V3; have HU3 := Lib.hid ((HU1.out.trans HU0.out).trans U3); clear S3 n3 V3 q3 nq U3)
    | (go_at_call 22; (with_reducible refine (utkTake_pop (n := 2) HS3.out HZ.out HMM.out).mono ?_); rintro e w4 ⟨bt, rfl, M4⟩; have HM4 := Lib.hid M4; clear M4))
  clear e0 e1 e2 e3 e4 e5
  obtain ⟨F4, O4, J4, N4, nO4, E4⟩ := umade_in HM4.out HV3.out HN3.out.2
  have s3 := HU3.out.size
  have HF4 := Lib.hid (show Fst w w4 bt b p g q qs ql s1 F4 O4 (.pop (-1) (Po.new 1)) from ⟨J4, Else.up_new HU3.out E4 HN3.out.1, fun x hx => by rcases N4 x hx with h | h; exact HN3.out.1 x h; omega, fun x hx => by have := nO4 x hx; omega, HP1.out⟩)
  clear J4 N4 nO4 E4 s3
  have HCI := Lib.hid (show chI (-1) = 0 by decide)
  have HCB := Lib.hid (show chB (-1) = false by decide)
  go_upto_region 11 with (first
    | (go_at_call 23; (with_reducible refine (HF4.out.in_.tk.done_ (y := false) rfl).mono ?_); rintro e w5 ⟨rfl, rfl⟩)
    | (go_at_call 24; (with_reducible refine (H3.out _ _ _ _ _ _ _ _ _ _ HF4.out.in_).mono ?_); rintro e w5 ⟨rfl, F5, O5, s5, hc5, hx5, J5, N5, NO5, E5⟩; have HC5 := Lib.hid hc5; have HF5 := Lib.hid (show Fst w w5 bt b p g q qs ql s5 F5 O5 .idle from ⟨J5, Else.up_new HF4.out.up E5 (fun x hx => by simp at hx; rcases hx with h | h | h | h; rw [h]; exact HF4.out.np.1; rw [h]; exact HF4.out.np.2; exact HF4.out.nF x h; exact HF4.out.nO x h), fun x hx => by have h1 := HF4.out.up.size; rcases N5 x hx with h | h; exact HF4.out.nF x h; omega, fun x hx => by have h1 := HF4.out.up.size; rcases NO5 x hx with h | h; exact HF4.out.nO x h; omega, HF4.out.np⟩); clear hc5 hx5 J5 N5 NO5 E5))
  go_wp2_with (first
    | (go_at_call 25; (with_reducible refine (HF5.out.in_.tk.chunk HCI.out HCB.out).mono ?_); rintro e w6 ⟨rfl, U6⟩; have HU6 := Lib.hid U6; have HT6 := Lib.hid (show UTkM w6 bt b q 2 .idle (-1) (-1) O5 from by obtain ⟨h1, h2, pv, T⟩ := HF5.out.in_.tk; exact ⟨h1, fun x hx => Nat.lt_of_lt_of_le (h2 x hx) U6.size, pv, T.up U6⟩); clear U6)
    | (go_at_call 23; (with_reducible refine (HT6.out.done_ (y := true) rfl).mono ?_); rintro e w7 ⟨rfl, rfl⟩)
    | (go_at_call 26; (with_reducible refine HT6.out.seen.mono ?_); rintro e w7 ⟨rfl, rfl⟩)
    | (go_at_call 27; (with_reducible refine (count_to (HF5.out.in_.env.mem.up HU6.out) HC5.out).mono ?_); rintro e w7 ⟨rfl, rfl⟩))
  go_ret
  exact ⟨rfl, HF5.out.up.trans HU6.out⟩
end
end Go.Proofs.YtkopplnjomkleaaGreat

/-
  One supply alone, told by its place (LoneC: with the memory told; LoneB): the calls that are no accesses; made for one; a limbo of one bucket.
-/
namespace Go.Proofs.YtkopplnjomkleaaGreat
open Go.RowKit
open W64
set_option maxRecDepth 100000
set_option linter.unusedSimpArgs false
def LoneC (W w : World) (l : Lia) (s : St) (b : Nat) (vS vX : Value) (st : List Int) (R : Lb) : Prop := ∃ d : SuD, d.b = b ∧ Lone W w l s.xs d vS vX st R ∧ Mem w l.p l.g s
def LoneB (W w : World) (l : Lia) (xs : List Int) (b : Nat) (vS vX : Value) (st : List Int) (R : Lb) : Prop := ∃ d : SuD, d.b = b ∧ Lone W w l xs d vS vX st R
section
variable {W w w1 w' : World} {l : Lia} {xs xs' : List Int} {d : SuD} {vS vX v : Value} {st st' zs : List Int} {R R' : Lb} {b k kk dd : Nat} {s : St} {tag now x t y : Int}
/-! ### A limbo of one bucket -/
theorem one_outs_no (hk : k < 3) (hx : zs ≠ []) (h : ¬ t + 2 ≤ now) : (Lb.one k t zs).outs now = [] ∧ (Lb.one k t zs).rest now = Lb.one k t zs := by
  have : k = 0 ∨ k = 1 ∨ k = 2 := by omega
  rcases this with rfl | rfl | rfl <;> simp [Lb.outs, Lb.rest, Lb.cnt, Lb.rdyL, Lb.rdyS, Lb.opn, Lb.old, Lb.oldTo, Lb.pick, Lb.one, put, hx, h]
theorem one_outs_yes (hk : k < 3) (hx : zs ≠ []) (h : t + 2 ≤ now) : (Lb.one k t zs).outs now = zs := by
  have : k = 0 ∨ k = 1 ∨ k = 2 := by omega
  rcases this with rfl | rfl | rfl <;> simp [Lb.outs, Lb.cnt, Lb.rdyL, Lb.opn, Lb.old, Lb.oldTo, Lb.pick, Lb.one, put, hx, h]
/-! ### The supply -/
theorem LoneC.ups (A : LoneC W w l s b vS vX st R) (u : Up w w') : LoneC W w' l s b vS vX st R := by
  obtain ⟨d, hb, L, M⟩ := A
  exact ⟨d, hb, L.ups u, M.up u⟩
theorem LoneC.base {W0 : World} (A : LoneC W w l s b vS vX st R) (u : Up W0 W) : LoneC W0 w l s b vS vX st R := by
  obtain ⟨d, hb, L, M⟩ := A
  exact ⟨d, hb, L.base u, M⟩
theorem LoneC.toB (A : LoneC W w l s b vS vX st R) (h : s.xs = xs) : LoneB W w l xs b vS vX st R := by
  obtain ⟨d, hb, L, M⟩ := A
  exact ⟨d, hb, h ▸ L⟩
theorem LoneC.obj (A : LoneC W w l s b vS vX st R) : Whole w l.a 51 (alRow l vS vX) := by obtain ⟨d, hb, L, M⟩ := A; exact L.obj
theorem LoneB.obj (A : LoneB W w l xs b vS vX st R) : Whole w l.a 51 (alRow l vS vX) := by obtain ⟨d, hb, L⟩ := A; exact L.obj
theorem LoneC.mem (A : LoneC W w l s b vS vX st R) : Mem w l.p l.g s := by obtain ⟨d, hb, L, M⟩ := A; exact M
theorem LoneC.upW (A : LoneC W w l s b vS vX st R) : Up W w := by obtain ⟨d, hb, L, M⟩ := A; exact L.up
theorem LoneB.upW (A : LoneB W w l xs b vS vX st R) : Up W w := by obtain ⟨d, hb, L⟩ := A; exact L.up
theorem LoneB.ups (A : LoneB W w l xs b vS vX st R) (u : Up w w') : LoneB W w' l xs b vS vX st R := by
  obtain ⟨d, hb, L⟩ := A
  exact ⟨d, hb, L.ups u⟩
theorem LoneC.turned (A : Lone W w l s.xs d vS vX st R) (M : Mem w l.p l.g s) (T : Turned w w' d.F fun F' => PSu w' d.b (suRow l.p d.q l.c.ba d.qs d.ql) d.qs d.ql F' l.m st' R') : LoneC W w' l s d.b vS vX st' R' := by
  obtain ⟨F', L⟩ := A.turned T
  obtain ⟨_, _, _, E⟩ := T
  exact ⟨d.re F', rfl, L, M.else E A.ins.2.1 A.ins.2.2.1⟩
theorem rd_new (w : World) (_ : Int) (F : List Nat) (h : ∀ y ∈ F, y < w.heap.size) : Away (.slice (some ⟨w.heap.size, 0, none⟩) 1 1) F := fun y hy e => by
  simp [Value.ownBlock] at e; have := h y hy; omega
theorem lcRetire (A : LoneC W w l s b vS vX st R) (x : Int) (h1 : R.last ≤ tag) (h2 : tag ≤ 4611686018427387903) (hk : tag % 3 = kk) (hs : R.size + 1 ≤ 8000) (hl : st.length + (R.taken kk tag).length ≤ 8192) (hR : R.retire kk tag [x] = R') (hst : st ++ R.taken kk tag = st') :
    Calls Tryz.prog 45 #[.pointer (some ⟨b, 0, none⟩), .int .i64 tag, .slice (some ⟨w.heap.size, 0, none⟩) 1 1] (w.alloc (.cells #[.int .i64 x] 3)) fun e w' => e = .returned (.int .i64 0) ∧ LoneC W w' l s b vS vX st' R' := by
  obtain ⟨d, rfl, L, M⟩ := A
  have L2 := L.ups (Up.alloc w (.cells #[.int .i64 x] 3))
  have M2 := M.up (Up.alloc w (.cells #[.int .i64 x] 3))
  subst hR hst
  exact (suRetire L2.su (rd_one w x) (rd_new w x d.F (fun y hy => L.su.lt y hy)) (by simp) h1 h2 hk hs hl).mono fun _ _ ⟨he, T⟩ => ⟨he, LoneC.turned L2 M2 T⟩
theorem lcRetire_no (A : LoneC W w l s b vS vX st R) (x : Int) (h : ¬ (R.last ≤ tag ∧ tag ≤ 4611686018427387903)) (hl : st.length ≤ 8192) :
    Calls Tryz.prog 45 #[.pointer (some ⟨b, 0, none⟩), .int .i64 tag, .slice (some ⟨w.heap.size, 0, none⟩) 1 1] (w.alloc (.cells #[.int .i64 x] 3)) fun e w' => e = .returned (.int .i64 1) ∧ LoneC W w' l s b vS vX st R := by
  obtain ⟨d, rfl, L, M⟩ := A
  have L2 := L.ups (Up.alloc w (.cells #[.int .i64 x] 3))
  have M2 := M.up (Up.alloc w (.cells #[.int .i64 x] 3))
  exact (suRetire_no L2.su (rd_one w x) (fun ⟨_, h2⟩ => h h2) hl).mono fun _ _ ⟨he, T⟩ => ⟨he, LoneC.turned L2 M2 T⟩
theorem lcRetire_nil (A : LoneC W w l s b vS vX st R) (hl : st.length ≤ 8192) :
    Calls Tryz.prog 45 #[.pointer (some ⟨b, 0, none⟩), .int .i64 tag, .slice none 0 0] w fun e w' => e = .returned (.int .i64 1) ∧ LoneC W w' l s b vS vX st R := by
  obtain ⟨d, rfl, L, M⟩ := A
  exact (suRetire_no L.su (Rd.nil w) (fun ⟨h, _⟩ => h rfl) hl).mono fun _ _ ⟨he, T⟩ => ⟨he, LoneC.turned L M T⟩
theorem lcBucket (A : LoneC W w l s b vS vX st R) {i : Int} (hi : i = (k : Int)) (hk : k < 3) (hT : R.T k = tag) (hL : R.L k = xs) (hl : xs.length ≤ 8192) (hd : xs.length = dd) :
    Calls Tryz.prog 52 #[.pointer (some ⟨b, 0, none⟩), .int .i64 i] w fun e w' => ∃ A cp, e = .returned (.tuple #[.int .i64 tag, .slice A dd cp]) ∧ LoneC W w' l s b vS vX st R := by
  obtain ⟨d, rfl, L, M⟩ := A
  exact (suBucket L.su hi hk hT hL hl hd).mono fun _ _ ⟨A, cp, he, _, _, u⟩ => ⟨A, cp, he, d, rfl, L.ups u, M.up u⟩
theorem lcBucketK (A : LoneC W w l s b vS vX st R) (hk : k < 3) (hT : R.T k = tag) (hL : R.L k = xs) (hl : xs.length ≤ 8192) (hd : xs.length = dd) :
    Calls Tryz.prog 52 #[.pointer (some ⟨b, 0, none⟩), .int .i64 (k : Int)] w fun e w' => ∃ A cp, e = .returned (.tuple #[.int .i64 tag, .slice A dd cp]) ∧ LoneC W w' l s b vS vX st R := lcBucket A rfl hk hT hL hl hd
theorem lcStash (A : LoneC W w l s b vS vX st R) (hl : st.length ≤ 8192) (hd : st.length = dd) :
    Calls Tryz.prog 15 #[.pointer (some ⟨b, 0, none⟩)] w fun e w' => ∃ A cp, e = .returned (.slice A dd cp) ∧ LoneC W w' l s b vS vX st R := by
  obtain ⟨d, rfl, L, M⟩ := A
  exact (suStash L.su hl hd).mono fun _ _ ⟨A, cp, he, _, _, u⟩ => ⟨A, cp, he, d, rfl, L.ups u, M.up u⟩
theorem lbStash (A : LoneB W w l xs b vS vX st R) (hl : st.length ≤ 8192) (hd : st.length = dd) :
    Calls Tryz.prog 15 #[.pointer (some ⟨b, 0, none⟩)] w fun e w' => ∃ A cp, e = .returned (.slice A dd cp) ∧ LoneB W w' l xs b vS vX st R := by
  obtain ⟨d, rfl, L⟩ := A
  exact (suStash L.su hl hd).mono fun _ _ ⟨A, cp, he, _, _, u⟩ => ⟨A, cp, he, d, rfl, L.ups u⟩
theorem lcReady (A : LoneC W w l s b vS vX st R) (hs : R.size ≤ 8000) (ho : R.outs now = zs) (hr : R.rest now = R') (hl : st.length + zs.length ≤ 8192) (hd : zs.length = dd) (hst : st ++ zs = st') :
    Calls Tryz.prog 49 #[.pointer (some ⟨b, 0, none⟩), .int .i64 now] w fun e w' => e = .returned (.int .i64 (dd : Nat)) ∧ LoneC W w' l s b vS vX st' R' := by
  obtain ⟨d, rfl, L, M⟩ := A
  subst ho hr hst
  exact (suReady L.su now hs hl hd).mono fun _ _ ⟨he, T⟩ => ⟨he, LoneC.turned L M T⟩
/-! ### made, for one -/
theorem mem13_c (l : Lia) (n : Nat) : (mem13 l n).c = 0 := by unfold mem13; rw [fillS_c]; rfl
/-- What made leaves for one supply: all lies at a, the supply at b. -/
def MdOne (W w : World) (c : Cf) (a : Nat) : Prop := ∃ (l : Lia) (LEN : Nat) (r cp b : Nat) (vX : Value), l.a = a ∧ (l.c = c ∧ (l.lk : Int) = 3 + c.wk + 2 * c.sl ∧ (l.n : Int) = c.ch ∧ l.m = cutM c.ca ∧ (LEN : Int) = lenN c ∧ l.gs = fun _ => none) ∧ LoneC W w l (mem13 l LEN) b (.slice (some ⟨r, 0, none⟩) 1 cp) vX [] Lb.zero ∧ w.cell? ⟨r, 0, none⟩ = some (.pointer (some ⟨b, 0, none⟩))
theorem made_one {c : Cf} (hc : c.Small) (w : World) :
    Calls Tryz.prog 7 #[c.v, .int .i64 1] w fun e w' => ∃ a, e = .returned (.pointer (some ⟨a, 0, none⟩)) ∧ MdOne w w' c a := by
  refine (made13 hc (N := 1) (by decide) w).mono ?_
  rintro e w' ⟨a, rfl, l, LEN, vS, vX, L, X, hla, hnum, hL, hX, A⟩
  obtain ⟨d, rfl⟩ : ∃ d, L = [d] := by
    cases L with
    | nil => simp at hL
    | cons d r => cases r with
      | nil => exact ⟨d, rfl⟩
      | cons e r => simp at hL
  obtain ⟨r, cp, b, hv, hb, hcell⟩ := A.pS.get (u := 0) (by simp)
  simp at hb
  subst hb
  have hv2 : vS = .slice (some ⟨r, 0, none⟩) 1 cp := by simpa using hv
  subst hv2
  exact ⟨a, rfl, l, LEN, r, cp, d.b, vX, hla, hnum, ⟨d, rfl, A.lone hnum.2.2.2.2.2, A.env.mem⟩, hcell⟩
end
end Go.Proofs.YtkopplnjomkleaaGreat

/-
  What the cells tell of the pool (Tells), as it is filled, behind a Pop, behind a store elsewhere; the statements' own take over it.
-/
namespace Go.Proofs.YtkopplnjomkleaaGreat
open Go.RowKit
open W64
set_option maxRecDepth 100000
set_option linter.unusedSimpArgs false
section
variable {n ln L ch j k : Nat} {xs : List Int} {S : List Nat} {v : Int}
theorem fillS_at (h1 : 1 ≤ ch) (hj : j < L) (h0 : 1 ≤ ln) : (fillS (St.zero L) 0 ln ch).xs.getD j 0 = if 0 = j then 1 else if ln ≤ j ∧ j < ln + ch then (if j + 1 = ln + ch then 0 else ((j - ln : Nat) : Int) + 2) else 0 := by
  have hz : (St.zero L).xs = List.replicate L 0 := rfl
  have hzl : (St.zero L).xs.length = L := by rw [hz, List.length_replicate]
  unfold fillS St.lay
  dsimp only
  rw [getD_set, List.length_set, fillK_len, hzl, getD_set, fillK_len, hzl, fillK_at _ _ _ _ (by rw [hzl]; exact hj), hz, rep_at, show ((ln : Int) + ch - 1).toNat = ln + ch - 1 by omega, show ((0 : Nat) : Int).toNat = 0 from rfl]
  by_cases e0 : 0 = j
  · rw [if_pos ⟨e0, hj⟩, if_pos e0]
  · rw [if_neg (show ¬ (0 = j ∧ j < L) from fun h => e0 h.1), if_neg e0]
    by_cases e1 : ln ≤ j ∧ j < ln + ch
    · rw [if_pos e1]
      by_cases e2 : j + 1 = ln + ch
      · rw [if_pos (show ln + ch - 1 = j ∧ j < L by omega), if_pos e2]
      · rw [if_neg (show ¬ (ln + ch - 1 = j ∧ j < L) by omega), if_neg e2, if_pos (show ln ≤ j ∧ j < ln + (ch - 1) by omega)]
    · rw [if_neg e1, if_neg (show ¬ (ln + ch - 1 = j ∧ j < L) by omega), if_neg (show ¬ (ln ≤ j ∧ j < ln + (ch - 1)) by omega)]
theorem tells_fill (h1 : 1 ≤ n) (h2 : n ≤ 4096) (h0 : 1 ≤ ln) (hL : ln + n ≤ L) : Tells n ln (fillS (St.zero L) 0 ln n).xs (List.range n) := by
  have G := Stk.GI.fill (n := n) (hd := (fillS (St.zero L) 0 ln n).xs.getD 0 0) (lk := lkX ln (fillS (St.zero L) 0 ln n).xs) (by omega) (by omega) (by rw [fillS_at h1 (by omega) h0, if_pos rfl]) (fun i hi => by
    unfold lkX
    rw [fillS_at h1 (by omega) h0, if_neg (by omega), if_pos (by omega)]
    by_cases e : i + 1 < n
    · rw [if_pos e, if_neg (by omega), show ln + i - ln = i by omega]
    · rw [if_neg e, if_pos (by omega)])
  exact Tells.of_gi (t := 0) (m := fun _ => .idle) (has := fun _ => []) G
theorem tells_drop (T : Tells n ln xs S) (hn : n ≤ 4096) (h0 : 1 ≤ ln) (hl : 0 < xs.length) (k : Nat) : Tells n ln (xs.set 0 (nextW (xs.getD 0 0) (Stk.linkOf (S.drop k) - 1))) (S.drop k) := by
  have hlt : ∀ x ∈ S.drop k, x < n := fun x hx => T.lt x (List.mem_of_mem_drop hx)
  have h2 := Stk.linkOf_le (n := n) (S := S.drop k) hlt
  have h3 := Stk.linkOf_nonneg (S.drop k)
  have e : lkX ln (xs.set 0 (nextW (xs.getD 0 0) (Stk.linkOf (S.drop k) - 1))) = lkX ln xs := by
    funext i
    unfold lkX
    rw [getD_set, if_neg (by omega)]
  refine ⟨hlt, ?_, ?_⟩
  · rw [e]
    exact Stk.Chain.right (a := S.take k) (by rw [List.take_append_drop]; exact T.chain)
  · rw [getD_set, if_pos ⟨rfl, hl⟩, nextW_mod (by omega) (by omega)]
    omega
theorem tells_far (T : Tells n ln xs S) {i : Nat} (h1 : i ≠ 0) (h2 : i < ln) : Tells n ln (xs.set i v) S := by
  have e : lkX ln (xs.set i v) = lkX ln xs := by
    funext j
    unfold lkX
    rw [getD_set, if_neg (by omega)]
  exact ⟨T.lt, by rw [e]; exact T.chain, by rw [getD_set, if_neg (by omega)]; exact T.head⟩
theorem tells_lst (T : Tells n ln xs S) (h : S.length ≤ n) : lstOf n 0 ln xs = S := lstOf_chain h T.lt T.chain T.head
end
section
variable {W w w' : World} {l : Lia} {xs : List Int} {vS vX : Value} {st : List Int} {R : Lb} {b most x i dd : Nat} {S : List Nat} {now y : Int}
/-- What a take out of the pool leaves. -/
def TkLeft (W w' : World) (l : Lia) (xs : List Int) (b : Nat) (vS vX : Value) (R : Lb) (st : List Nat) (S : List Nat) : Prop := ∃ xs', Tells l.n l.lk xs' S ∧ xs'.length = xs.length ∧ (∀ i, i ≠ 0 → xs'.getD i 0 = xs.getD i 0) ∧ LoneB W w' l xs' b vS vX (I st) R
theorem LoneB.nums (A : LoneB W w l xs b vS vX st R) : l.n ≤ 4096 ∧ 0 < xs.length ∧ l.lk + l.n ≤ xs.length := by
  obtain ⟨d, rfl, L⟩ := A
  obtain ⟨s, hs, E0, E1⟩ := L.sm
  have h1 := E0.hh
  have h2 := E0.hl
  rw [hs] at h1 h2
  exact ⟨E0.n1, by omega, h2⟩
theorem take_cons (hb : 1 ≤ most) (x : Nat) (S : List Nat) : (x :: S).take most = x :: S.take (most - 1) := by
  obtain ⟨m, rfl⟩ : ∃ m, most = m + 1 := ⟨most - 1, by omega⟩
  simp
theorem take_tells (A : LoneB W w l xs b vS vX [] R) (hR : R.size = 0) (T : Tells l.n l.lk xs (x :: S)) (hm : min (max l.c.ba 1) 8 = most) (hlk : 1 ≤ l.lk) (hdd : ((x :: S).take most).length + 2 = dd) :
    Calls Tryz.prog 14 #[.pointer (some ⟨b, 0, none⟩)] w fun e w' => e = .returned (.tuple #[.int .i64 (x : Int), .bool true, .int .i64 (dd : Int)]) ∧ TkLeft W w' l xs b vS vX R (S.take (most - 1)) ((x :: S).drop most) := by
  obtain ⟨n1, n2, n3⟩ := A.nums
  obtain ⟨d, rfl, L⟩ := A
  have hb : 1 ≤ most := by omega
  have hb8 : most ≤ 8 := by omega
  have hK := pop_alone T hb (by simp)
  have hmid := pop_mid T hb (by simp)
  have hlen : ((x :: S).take most).length ≤ 8 := by rw [List.length_take]; omega
  have htk := take_cons hb x S
  subst hdd
  refine (take_pool (ch := (x : Int)) (st := I (S.take (most - 1))) (cI := (x : Int)) (cB := true) L hR hm hmid hK rfl (.inr ⟨x, S.take (most - 1), htk, rfl, rfl, by rw [List.length_take]; omega⟩) (by rw [List.length_set]) ⟨by omega, by omega⟩ (by unfold chI; rw [if_neg (by omega)]) (by unfold chB; exact decide_eq_true (by omega))).mono ?_
  rintro e w' ⟨rfl, F, L'⟩
  exact ⟨rfl, _, tells_drop T n1 hlk n2 most, List.length_set .., fun i hi => by rw [getD_set, if_neg (by omega)], d.re F, rfl, L'⟩
theorem take_dry (A : LoneB W w l xs b vS vX [] R) (hR : R.size = 0) (T : Tells l.n l.lk xs []) :
    Calls Tryz.prog 14 #[.pointer (some ⟨b, 0, none⟩)] w fun e w' => e = .returned (.tuple #[.int .i64 0, .bool false, .int .i64 1]) ∧ LoneB W w' l xs b vS vX [] R := by
  obtain ⟨d, rfl, L⟩ := A
  obtain ⟨most, hm⟩ : ∃ most : Nat, min (max l.c.ba 1) 8 = most := ⟨(min (max l.c.ba 1) 8).toNat, by omega⟩
  have hK := pop_empty T most
  refine (take_pool (K := 1) (ch := -1) (st := []) (cI := 0) (cB := false) L hR hm (fun i hi => ⟨Po.new most, by rw [show i = 0 by omega]; rfl, rfl⟩) hK rfl (.inl ⟨rfl, rfl, rfl⟩) rfl ⟨by decide, by decide⟩ (by decide) (by decide)).mono ?_
  rintro e w' ⟨rfl, F, L'⟩
  exact ⟨rfl, d.re F, rfl, L'⟩
theorem take_wait (A : LoneB W w l xs b vS vX [] R) (hR : R.size ≠ 0) (hs : R.size ≤ 8000) (hx : cutE (xs.getD 2 0) = now) (h2 : 2 < xs.length) (hr : R.outs now = []) (T : Tells l.n l.lk xs (x :: S)) (hm : min (max l.c.ba 1) 8 = most) (hlk : 1 ≤ l.lk) (hdd : ((x :: S).take most).length + 3 = dd) :
    Calls Tryz.prog 14 #[.pointer (some ⟨b, 0, none⟩)] w fun e w' => e = .returned (.tuple #[.int .i64 (x : Int), .bool true, .int .i64 (dd : Int)]) ∧ TkLeft W w' l xs b vS vX (R.rest now) (S.take (most - 1)) ((x :: S).drop most) := by
  obtain ⟨n1, n2, n3⟩ := A.nums
  obtain ⟨d, rfl, L⟩ := A
  have hb : 1 ≤ most := by omega
  have hb8 : most ≤ 8 := by omega
  have hK := pop_alone T hb (by simp)
  have hmid := pop_mid T hb (by simp)
  have hlen : ((x :: S).take most).length ≤ 8 := by rw [List.length_take]; omega
  have htk := take_cons hb x S
  subst hdd
  refine (take_look (ch := (x : Int)) (st := I (S.take (most - 1))) (cI := (x : Int)) (cB := true) L hR hs hx h2 hr hm hmid hK rfl (.inr ⟨x, S.take (most - 1), htk, rfl, rfl, by rw [List.length_take]; omega⟩) (by rw [List.length_set]) ⟨by omega, by omega⟩ (by unfold chI; rw [if_neg (by omega)]) (by unfold chB; exact decide_eq_true (by omega))).mono ?_
  rintro e w' ⟨rfl, F, L'⟩
  exact ⟨rfl, _, tells_drop T n1 hlk n2 most, List.length_set .., fun i hi => by rw [getD_set, if_neg (by omega)], d.re F, rfl, L'⟩
theorem take_rdy {ys : List Int} (A : LoneB W w l xs b vS vX [] R) (hR : R.size ≠ 0) (hs : R.size ≤ 8000) (hx : cutE (xs.getD 2 0) = now) (h2 : 2 < xs.length) (hr : R.outs now = ys ++ [y]) (hy : 0 ≤ y) (hl : (R.outs now).length ≤ 8000) :
    Calls Tryz.prog 14 #[.pointer (some ⟨b, 0, none⟩)] w fun e w' => e = .returned (.tuple #[.int .i64 y, .bool true, .int .i64 1]) ∧ LoneB W w' l xs b vS vX ys (R.rest now) := by
  obtain ⟨d, rfl, L⟩ := A
  exact (take_ready L hR hs hx h2 hr hy hl).mono fun _ _ ⟨he, F, L'⟩ => ⟨he, d.re F, rfl, L'⟩
theorem lbRetire {tag : Int} {kk : Nat} {R' : Lb} {st' : List Int} (A : LoneB W w l xs b vS vX st R) (x : Int) (h1 : R.last ≤ tag) (h2 : tag ≤ 4611686018427387903) (hk : tag % 3 = kk) (hs : R.size + 1 ≤ 8000) (hl : st.length + (R.taken kk tag).length ≤ 8192) (hR : R.retire kk tag [x] = R') (hst : st ++ R.taken kk tag = st') :
    Calls Tryz.prog 45 #[.pointer (some ⟨b, 0, none⟩), .int .i64 tag, .slice (some ⟨w.heap.size, 0, none⟩) 1 1] (w.alloc (.cells #[.int .i64 x] 3)) fun e w' => e = .returned (.int .i64 0) ∧ LoneB W w' l xs b vS vX st' R' := by
  obtain ⟨d, rfl, L⟩ := A
  obtain ⟨s, hs2, E0, E1⟩ := L.sm
  subst hs2
  exact (lcRetire ⟨d, rfl, L, E0.mem⟩ x h1 h2 hk hs hl hR hst).mono fun _ _ ⟨he, A'⟩ => ⟨he, A'.toB rfl⟩
theorem lbLay (A : LoneB W w l xs b vS vX st R) (hi : i < xs.length) (h0 : 0 ≤ y) (h1 : y < 18446744073709551616) :
    Calls Tryz.prog 48 #[.pointer (some ⟨l.p, 0, none⟩), .int .i64 (i : Int), .int .u64 y] w fun e w' => e = .returned (.int .i64 0) ∧ LoneB W w' l (xs.set i y) b vS vX st R := by
  obtain ⟨d, rfl, L⟩ := A
  obtain ⟨s, hs2, E0, E1⟩ := L.sm
  refine (lay_in y E0.mem ⟨by omega, by rw [hs2]; omega⟩).mono ?_
  rintro e w' ⟨rfl, M, E⟩
  have h := L.lay hs2 M E h0 h1 E0.ok
  rw [Int.toNat_natCast] at h
  exact ⟨rfl, d, rfl, h⟩
theorem lbList (A : LoneB W w l xs b vS vX st R) (T : Tells l.n l.lk xs S) (hS : S.length ≤ l.n) (hd : S.length = dd) :
    Calls Tryz.prog 12 #[.pointer (some ⟨l.q0, 0, none⟩)] w fun e w' => ∃ A cp, e = .returned (.slice A dd cp) ∧ LoneB W w' l xs b vS vX st R := by
  obtain ⟨d, rfl, L⟩ := A
  obtain ⟨s, hs2, E0, E1⟩ := L.sm
  refine (slist E0).mono ?_
  rintro e w' ⟨v, rfl, J, _, u⟩
  rw [hs2, tells_lst T hS] at J
  obtain ⟨A, cp, e⟩ := J.slice
  rw [I_len, hd] at e
  exact ⟨A, cp, by rw [e], d, rfl, L.ups u⟩
end
end Go.Proofs.YtkopplnjomkleaaGreat
