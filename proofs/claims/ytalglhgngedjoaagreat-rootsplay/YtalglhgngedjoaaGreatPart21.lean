/-
  Texts beneath RootsPlay, part 21: RtMade, RtStep.
-/
import Derived.Test.YtalglhgngedjoaaGreatPart20
/-
  The statements' own made: both memories beside each other (Twin).
-/
namespace Go.Proofs.YtalglhgngedjoaaGreat
open Go.RowKit
open W64
set_option maxRecDepth 100000
/-- The statements' configuration. -/
abbrev cfN (n : Nat) : Cf := ⟨1, 1, 8, (n : Int), 0, 1⟩
/-- What the slots are when all is filled. -/
def m0 (n : Nat) : St := fillT (St.zero (13 + 2 * n)) 4 n
structure Lie where
  p : Nat
  g : Nat
  q : Nat
  qs : Nat
  k : Nat
  pr : Nat
  gr : Nat
  qp : Nat
  qr : Nat
  qe : Nat
/-- Both memories beside each other, the program's and the document's; all their blocks are newer than W. -/
structure Twin (W w : World) (l : Lie) (n : Nat) (s : St) : Prop where
  roo : Roo w l.q l.p l.g l.qs (cfN n) 4 n s
  rw_ : RW w l.k l.pr l.gr l.qp l.qr l.qe (cfN n) 4 n s.xs s.c
  ne : l.g ≠ l.gr
  up : Up W w
  hp : W.heap.size ≤ l.p
  hg : W.heap.size ≤ l.g
  hpr : W.heap.size ≤ l.pr
  hgr : W.heap.size ≤ l.gr
section
variable {W w w' : World} {l : Lie} {n : Nat} {s s' : St}
theorem Twin.ups (T : Twin W w l n s) (u : Up w w') : Twin W w' l n s := ⟨T.roo.up u, T.rw_.up u, T.ne, T.up.trans u, T.hp, T.hg, T.hpr, T.hgr⟩
/-- The program's blocks are none of the document's. -/
theorem Twin.off (T : Twin W w l n s) : (l.p ∉ [l.pr, l.gr, l.qr, l.k] ∧ l.g ∉ [l.pr, l.gr, l.qr, l.k]) ∧ (l.pr ∉ [l.p, l.g, l.qs, l.q] ∧ l.gr ∉ [l.p, l.g, l.qs, l.q]) := by
  have P := T.roo.env.mem.top
  have G := T.roo.env.mem.row
  have Q := T.roo.obj
  have S := T.roo.env.stk
  have K := T.rw_.obj
  have A := T.rw_.env.mem.top
  have B := T.rw_.env.mem.row
  have C := T.rw_.env.stk
  have ne := T.ne
  refine ⟨⟨?_, ?_⟩, ?_, ?_⟩
  · simp [P.ne_type A (by decide), P.ne_type B (by decide), P.ne_type C (by decide), P.ne_type K (by decide)]
  · simp [G.ne_type A (by decide), ne, G.ne_type C (by decide), G.ne_type K (by decide)]
  · simp [A.ne_type P (by decide), A.ne_type G (by decide), A.ne_type S (by decide), A.ne_type Q (by decide)]
  · simp [B.ne_type P (by decide), ne.symm, B.ne_type S (by decide), B.ne_type Q (by decide)]
theorem m0_len (n : Nat) : (m0 n).xs.length = 13 + 2 * n := by unfold m0; rw [fillT_len]; simp [St.zero]
theorem m0_c (n : Nat) : (m0 n).c = 0 := by unfold m0; rw [fillT_c]; rfl
theorem m0_ok (n : Nat) (h : n ≤ 4) : (m0 n).Ok := fillT_ok (St.Ok.zero _) _ _ (by omega)
theorem cfN_may {n : Nat} (h1 : 1 ≤ n) (h4 : n ≤ 4) : mayB (cfN n) = true := mayB_iff.2 ⟨by constructor <;> (dsimp only; omega), by constructor <;> (dsimp only; omega), by refine ⟨?_, ?_, ?_⟩ <;> (dsimp only; omega), by constructor <;> (dsimp only; omega), by constructor <;> (dsimp only; omega), by constructor <;> (dsimp only; omega)⟩
theorem cfN_len {n : Nat} (h1 : 1 ≤ n) (h4 : n ≤ 4) : lenN (cfN n) = ((13 + 2 * n : Nat) : Int) := by
  rw [lenN_is (cfN_may h1 h4)]; unfold fwN; dsimp only; omega
theorem cfN_link {n : Nat} (h1 : 1 ≤ n) (h4 : n ≤ 4) : llinkN (cfN n) 0 = ((4 + 2 * n : Nat) : Int) := by
  unfold llinkN; rw [atN_is (cfN_may h1 h4) (by decide) (by dsimp only; omega)]; dsimp only; omega
theorem twin_xs {n : Nat} (h1 : 1 ≤ n) (h4 : n ≤ 4) : ((newXs (13 + 2 * n) 4 n 1).set (4 + 2 * n) 0).set 0 0 = (m0 n).xs := by
  rcases (show n = 1 ∨ n = 2 ∨ n = 3 ∨ n = 4 by omega) with rfl | rfl | rfl | rfl <;> rfl
theorem newXs_len (L r0 n ch : Nat) : (newXs L r0 n ch).length = L := by unfold newXs; rw [fillR_len, List.length_set, fillR_len, List.length_set, List.length_replicate]
theorem RW.put {k p g qp qs qe r0 : Nat} {c : Cf} {xs : List Int} {cnt : Int} (R : RW w k p g qp qs qe c r0 n xs cnt) (i : Nat) {v : Int} (h0 : 0 ≤ v) (h1 : v < 18446744073709551616) : RW (w.setCell ⟨g, i, none⟩ (.int .u64 v)) k p g qp qs qe c r0 n (xs.set i v) cnt := by
  have u : Else [p, g] w (w.setCell ⟨g, i, none⟩ (.int .u64 v)) := (Else.refl _ w).set (.inl (by simp)) _
  exact R.turn (R.env.mem.set i v) u (by simp [R.kp, R.kg]) (by simp [R.env.np, R.env.ng]) (ok_set R.env.ok h0 h1) (by simp)
/-- While they are made. -/
structure Mid (W w : World) (b0 : Nat) (l : Lie) (n : Nat) (s : St) (xs : List Int) : Prop where
  cf : Whole w b0 31 #[.int .i64 1, .int .i64 1, .int .i64 8, .int .i64 (n : Int), .int .i64 0, .int .i64 1]
  roo : Roo w l.q l.p l.g l.qs (cfN n) 4 n s
  rw_ : RW w l.k l.pr l.gr l.qp l.qr l.qe (cfN n) 4 n xs s.c
  ne : l.g ≠ l.gr
  up : Up W w
  hp : W.heap.size ≤ l.p
  hg : W.heap.size ≤ l.g
  hpr : W.heap.size ≤ l.pr
  hgr : W.heap.size ≤ l.gr
variable {b0 k pr gr L : Nat} {xs : List Int}
theorem Mid.ups (M : Mid W w b0 l n s xs) (u : Up w w') : Mid W w' b0 l n s xs := ⟨M.cf.up u, M.roo.up u, M.rw_.up u, M.ne, M.up.trans u, M.hp, M.hg, M.hpr, M.hgr⟩
theorem Mid.put (M : Mid W w b0 l n s xs) (i : Nat) : Mid W (w.setCell ⟨l.gr, i, none⟩ (.int .u64 0)) b0 l n s (xs.set i 0) := by
  have u : Else [l.gr] w (w.setCell ⟨l.gr, i, none⟩ (.int .u64 0)) := (Else.refl _ w).set (.inl (by simp)) _
  have h1 := M.cf.ne_type M.rw_.env.mem.row (by decide)
  have h2 := M.rw_.env.mem.row.ne_type M.roo.env.mem.top (by decide)
  have h3 := M.rw_.env.mem.row.ne_type M.roo.env.stk (by decide)
  have h4 := M.rw_.env.mem.row.ne_type M.roo.obj (by decide)
  exact ⟨u.whole M.cf (by simp [h1]), M.roo.else u (by simp [h2.symm, h3.symm, h4.symm, M.ne]), M.rw_.put i (by decide) (by decide), M.ne, M.up.set M.hgr _, M.hp, M.hg, M.hpr, M.hgr⟩
theorem Mid.cells (M : Mid W w b0 l n s xs) (hk : l.k = k) (hpr : l.pr = pr) (hgr : l.gr = gr) (hL : xs.length = L) (u : Up w w') : w'.cell? ⟨b0, 0, none⟩ = some (.int .i64 1) ∧ w'.cell? ⟨b0, 1, none⟩ = some (.int .i64 1) ∧ w'.cell? ⟨b0, 2, none⟩ = some (.int .i64 8) ∧ w'.cell? ⟨b0, 3, none⟩ = some (.int .i64 (n : Int)) ∧ w'.cell? ⟨b0, 4, none⟩ = some (.int .i64 0) ∧ w'.cell? ⟨b0, 5, none⟩ = some (.int .i64 1) ∧ w'.cell? ⟨k, 6, none⟩ = some (.pointer (some ⟨pr, 0, none⟩)) ∧ w'.cell? ⟨pr, 0, none⟩ = some (.slice (some ⟨gr, 0, none⟩) L L) := by
  subst hk hpr hgr
  have h := M.rw_.env.mem.cells.1
  rw [hL] at h
  exact ⟨u.kept (M.cf.cell rfl), u.kept (M.cf.cell rfl), u.kept (M.cf.cell rfl), u.kept (M.cf.cell rfl), u.kept (M.cf.cell rfl), u.kept (M.cf.cell rfl), u.kept (M.rw_.obj.cell rfl), u.kept h⟩
theorem Mid.twin (M : Mid W w b0 l n s xs) (h : xs = s.xs) : Twin W w l n s := ⟨M.roo, h ▸ M.rw_, M.ne, M.up, M.hp, M.hg, M.hpr, M.hgr⟩
def MadeRel (W : World) (b0 : Nat) (l : Lie) (n : Nat) (s : St) (xs ys : List Int) (i : Value) (wr : World) : Prop := ∃ j : Nat, j ≤ 1 ∧ i = .int .i64 j ∧ Mid W wr b0 l n s (if j = 0 then xs else ys)
set_option maxHeartbeats 8000000 in
theorem made_any {n : Nat} (h1 : 1 ≤ n) (h4 : n ≤ 4) (w : World) :
    Calls Tryz.prog 7 #[.agg #[.int .i64 1, .int .i64 1, .int .i64 8, .int .i64 (n : Int), .int .i64 0, .int .i64 1]] w fun e w' => ∃ l : Lie, e = .returned (.tuple #[.pointer (some ⟨l.p, 0, none⟩), .pointer (some ⟨l.q, 0, none⟩), .pointer (some ⟨l.k, 0, none⟩)]) ∧ Twin w w' l n (m0 n) := by
  have hm := cfN_may h1 h4
  have hl := cfN_len h1 h4
  have hk := cfN_link h1 h4
  have hT := twin_xs h1 h4
  obtain ⟨L, hL⟩ : ∃ L, 13 + 2 * n = L := ⟨_, rfl⟩
  obtain ⟨lk, hlk⟩ : ∃ lk, 4 + 2 * n = lk := ⟨_, rfl⟩
  have hz : m0 n = fillT (St.zero L) 4 n := by unfold m0; rw [hL]
  rw [hL] at hl hT
  rw [hlk] at hk hT
  obtain ⟨X0, hX0⟩ : ∃ X, newXs L 4 n 1 = X := ⟨_, rfl⟩
  have hXL : X0.length = L := by rw [← hX0, newXs_len]
  rw [hX0] at hT
  have HX0 := Lib.hid hX0
  have HXL := Lib.hid hXL
  have HT := Lib.hid hT
  have HM := Lib.hid hm
  have HL := Lib.hid hl
  have HK := Lib.hid hk
  have HZ := Lib.hid hz
  have HLL := Lib.hid (show 1 ≤ L ∧ L ≤ 8388608 ∧ lk < L by omega)
  have l1 : (0 : Int) ≤ (lk : Int) := Int.natCast_nonneg _
  have l2 : (lk : Int) < (L : Int) := by omega
  have l3 : (0 : Int) < (L : Int) := by omega
  obtain ⟨b0, hb0⟩ : ∃ b0, w.heap.size = b0 := ⟨_, rfl⟩
  have HB0 := Lib.hid (Whole.new w 31 #[.int .i64 1, .int .i64 1, .int .i64 8, .int .i64 (n : Int), .int .i64 0, .int .i64 1])
  rw [hb0] at HB0
  have HU0 := Lib.hid (Up.alloc w (.cells #[.int .i64 1, .int .i64 1, .int .i64 8, .int .i64 (n : Int), .int .i64 0, .int .i64 1] 31))
  clear hm hl hk hT hz hX0 hXL hlk hL
  go_enter Tryz.func7, Tryz.ntmps7
  go_upto_region 1 with fail
  clear hb0
  generalize w.alloc (.cells #[.int .i64 1, .int .i64 1, .int .i64 8, .int .i64 (n : Int), .int .i64 0, .int .i64 1] 31) = w1 at *
  have e0 := HB0.out.cell (i := 0) rfl
  have e1 := HB0.out.cell (i := 1) rfl
  have e2 := HB0.out.cell (i := 2) rfl
  have e3 := HB0.out.cell (i := 3) rfl
  have e4 := HB0.out.cell (i := 4) rfl
  have e5 := HB0.out.cell (i := 5) rfl
  go_upto_region 4 with (first
    | (go_at_call 22; refine (len_is (c := cfN n) HL.out _).mono ?_; rintro e w2 ⟨rfl, U2⟩; have HU2 := Lib.hid (HU0.out.trans U2); have HB2 := Lib.hid (HB0.out.up U2); clear U2)
    | (go_at_call 23; refine (new_is (n := L) rfl HLL.out.1 HLL.out.2.1 _).mono ?_; rintro e w3 ⟨rfl, M3, U3⟩; have HM3 := Lib.hid M3; have HU3 := Lib.hid (HU2.out.trans U3); have HB3 := Lib.hid (HB2.out.up U3); have HS3 := Lib.hid HU2.out.size; clear M3 U3))
  clear e0 e1 e2 e3 e4 e5
  obtain ⟨g, hg⟩ : ∃ g, w2.heap.size = g := ⟨_, rfl⟩
  obtain ⟨p, hp⟩ : ∃ p, g + 1 = p := ⟨_, rfl⟩
  rw [hg] at HM3 HS3
  rw [hp] at HM3
  rw [hg, hp]
  have HPG := Lib.hid (show w.heap.size ≤ p by have := HS3.out; omega)
  clear hg hp
  have e0 := HB3.out.cell (i := 0) rfl
  have e1 := HB3.out.cell (i := 1) rfl
  have e2 := HB3.out.cell (i := 2) rfl
  have e3 := HB3.out.cell (i := 3) rfl
  have e4 := HB3.out.cell (i := 4) rfl
  have e5 := HB3.out.cell (i := 5) rfl
  go_upto_region 7 with (first
    | (go_at_call 24; refine (rtNew (c := cfN n) (r0 := 4) (n := n) HM3.out (St.Ok.zero L) (by simp [St.zero]; exact HLL.out.2.1) HM.out rfl rfl (by rw [HL.out]; simp [St.zero])).mono ?_; rintro e w4 ⟨q, qs, rfl, R4, _, _, U4⟩; have HR4 := Lib.hid R4; have HU4 := Lib.hid (HU3.out.trans U4); have HB4 := Lib.hid (HB3.out.up U4); clear R4 U4))
  clear e0 e1 e2 e3 e4 e5
  go_upto_region 8 with (first
    | (go_at_call 34; refine (rtFill HR4.out).mono ?_; rintro e w5 ⟨rfl, R5, E5⟩; rw [← HZ.out] at R5; have HR5 := Lib.hid R5; have HB5 := Lib.hid (E5.whole HB4.out (by have h1 := HB4.out.ne_type HR4.out.env.mem.top (by decide); have h2 := HB4.out.ne_type HR4.out.env.mem.row (by decide); simp [h1, h2])); have HU5 := Lib.hid (Else.up_new HU4.out E5 (by intro j hj; simp at hj; have h1 := HPG.out; have h2 := HS3.out; omega)); clear R5 E5))
  have e0 := HB5.out.cell (i := 0) rfl
  have e1 := HB5.out.cell (i := 1) rfl
  have e2 := HB5.out.cell (i := 2) rfl
  have e3 := HB5.out.cell (i := 3) rfl
  have e4 := HB5.out.cell (i := 4) rfl
  have e5 := HB5.out.cell (i := 5) rfl
  have HGL := Lib.hid HR5.out.env.mem.row.lt
  go_upto_region 9 with (first
    | (go_at_call 35; refine (rnewW (cfN n) (r0 := 4) (n := n) (ch := 1) (L := L) HM.out rfl rfl rfl HL.out.symm _).mono ?_; rintro e w6 ⟨k, pr, gr, qp, qr, qe, rfl, R6, U6, _, b2, b3⟩; rw [HX0.out] at R6; have HMID := Lib.hid (show Mid w w6 b0 ⟨p, g, q, qs, k, pr, gr, qp, qr, qe⟩ n (m0 n) X0 from ⟨HB5.out.up U6, HR5.out.up U6, by rw [m0_c]; exact R6, by dsimp only; have := HGL.out; omega, HU5.out.trans U6, HPG.out, HS3.out, Nat.le_trans HU5.out.size b2, Nat.le_trans HU5.out.size b3⟩); clear R6 U6 b2 b3))
  clear e0 e1 e2 e3 e4 e5
  go_wp2_with fail
  go_loopw [10] (fun i wr => MadeRel w b0 ⟨p, g, q, qs, k, pr, gr, qp, qr, qe⟩ n (m0 n) X0 (X0.set lk 0) i wr) (fun i _ => 1 - (intOf i).toNat)
  case atStart => exact ⟨0, by decide, rfl, HMID.out⟩
  case round =>
    obtain ⟨j, hj, rfl, M⟩ := hrel
    rcases (show j = 0 ∨ j = 1 by omega) with rfl | rfl
    · rw [if_pos rfl] at M
      have HMj := Lib.hid M
      clear M
      have e1 := HMj.out.cf.cell (i := 1) (v := .int .i64 1) rfl
      go_upto_region 12 with fail
      clear e1
      have HC0 := Lib.hid (show wr.drew.cell? ⟨b0, 0, none⟩ = some (.int .i64 1) ∧ wr.drew.cell? ⟨b0, 1, none⟩ = some (.int .i64 1) ∧ wr.drew.cell? ⟨b0, 2, none⟩ = some (.int .i64 8) ∧ wr.drew.cell? ⟨b0, 3, none⟩ = some (.int .i64 (n : Int)) ∧ wr.drew.cell? ⟨b0, 4, none⟩ = some (.int .i64 0) ∧ wr.drew.cell? ⟨b0, 5, none⟩ = some (.int .i64 1) ∧ wr.drew.cell? ⟨k, 6, none⟩ = some (.pointer (some ⟨pr, 0, none⟩)) ∧ wr.drew.cell? ⟨pr, 0, none⟩ = some (.slice (some ⟨gr, 0, none⟩) L L) from HMj.out.cells rfl rfl rfl HXL.out (up_drew wr))
      go_region_held3 (fun w' => w'.cell? ⟨b0, 0, none⟩ = some (.int .i64 1) ∧ w'.cell? ⟨b0, 1, none⟩ = some (.int .i64 1) ∧ w'.cell? ⟨b0, 2, none⟩ = some (.int .i64 8) ∧ w'.cell? ⟨b0, 3, none⟩ = some (.int .i64 (n : Int)) ∧ w'.cell? ⟨b0, 4, none⟩ = some (.int .i64 0) ∧ w'.cell? ⟨b0, 5, none⟩ = some (.int .i64 1) ∧ w'.cell? ⟨k, 6, none⟩ = some (.pointer (some ⟨pr, 0, none⟩)) ∧ w'.cell? ⟨pr, 0, none⟩ = some (.slice (some ⟨gr, 0, none⟩) L L))
        ((first | with_reducible exact HC3.out | with_reducible exact HC2.out | with_reducible exact HC0.out))
        (first
          | (go_at_call 36; refine (rlinkat_to (cfN n) HK.out _).mono ?_; rintro e w7 ⟨rfl, U7⟩; have HM7 := Lib.hid (HMj.out.ups ((up_drew wr).trans U7)); have HM8 := Lib.hid (HM7.out.put lk); have HC2 := Lib.hid (show w7.cell? ⟨b0, 0, none⟩ = some (.int .i64 1) ∧ w7.cell? ⟨b0, 1, none⟩ = some (.int .i64 1) ∧ w7.cell? ⟨b0, 2, none⟩ = some (.int .i64 8) ∧ w7.cell? ⟨b0, 3, none⟩ = some (.int .i64 (n : Int)) ∧ w7.cell? ⟨b0, 4, none⟩ = some (.int .i64 0) ∧ w7.cell? ⟨b0, 5, none⟩ = some (.int .i64 1) ∧ w7.cell? ⟨k, 6, none⟩ = some (.pointer (some ⟨pr, 0, none⟩)) ∧ w7.cell? ⟨pr, 0, none⟩ = some (.slice (some ⟨gr, 0, none⟩) L L) from HM7.out.cells rfl rfl rfl HXL.out (Up.refl _)); have HC3 := Lib.hid (show (w7.setCell ⟨gr, lk, none⟩ (.int .u64 0)).cell? ⟨b0, 0, none⟩ = some (.int .i64 1) ∧ (w7.setCell ⟨gr, lk, none⟩ (.int .u64 0)).cell? ⟨b0, 1, none⟩ = some (.int .i64 1) ∧ (w7.setCell ⟨gr, lk, none⟩ (.int .u64 0)).cell? ⟨b0, 2, none⟩ = some (.int .i64 8) ∧ (w7.setCell ⟨gr, lk, none⟩ (.int .u64 0)).cell? ⟨b0, 3, none⟩ = some (.int .i64 (n : Int)) ∧ (w7.setCell ⟨gr, lk, none⟩ (.int .u64 0)).cell? ⟨b0, 4, none⟩ = some (.int .i64 0) ∧ (w7.setCell ⟨gr, lk, none⟩ (.int .u64 0)).cell? ⟨b0, 5, none⟩ = some (.int .i64 1) ∧ (w7.setCell ⟨gr, lk, none⟩ (.int .u64 0)).cell? ⟨k, 6, none⟩ = some (.pointer (some ⟨pr, 0, none⟩)) ∧ (w7.setCell ⟨gr, lk, none⟩ (.int .u64 0)).cell? ⟨pr, 0, none⟩ = some (.slice (some ⟨gr, 0, none⟩) L L) from HM8.out.cells rfl rfl rfl (by rw [List.length_set]; exact HXL.out) (Up.refl _)); have dk := HM7.out.rw_.env.mem.cell (i := lk) (by rw [HXL.out]; exact HLL.out.2.2); have fk := HM7.out.rw_.env.mem.row.frozen lk; clear U7))
      clear dk fk
      have HM9 := Lib.hid (show Mid w (w7.setCell ⟨gr, lk, none⟩ (.int .u64 0)) b0 ⟨p, g, q, qs, k, pr, gr, qp, qr, qe⟩ n (m0 n) (X0.set lk 0) from HM8.out)
      go_wp2_with fail
      go_roundw
      case rel => exact ⟨1, by decide, by go_num, HM9.out⟩
      case measure => simp [intOf]
    · rw [if_neg (by decide)] at M
      have HMj := Lib.hid M
      clear M
      have e1 := HMj.out.cf.cell (i := 1) (v := .int .i64 1) rfl
      obtain ⟨_, _, _, _, _, _, k6, p0⟩ := HMj.out.cells (k := k) (pr := pr) (gr := gr) (L := L) rfl rfl rfl (by rw [List.length_set]; exact HXL.out) (Up.refl _)
      have dk := HMj.out.rw_.env.mem.cell (i := 0) (by rw [List.length_set, HXL.out]; have := HLL.out.2.2; omega)
      have fk := HMj.out.rw_.env.mem.row.frozen 0
      have HM9 := Lib.hid (show Mid w (wr.setCell ⟨gr, 0, none⟩ (.int .u64 0)) b0 ⟨p, g, q, qs, k, pr, gr, qp, qr, qe⟩ n (m0 n) ((X0.set lk 0).set 0 0) from HMj.out.put 0)
      go_wp2_with fail
      go_ret3
      exact ⟨⟨p, g, q, qs, k, pr, gr, qp, qr, qe⟩, rfl, HM9.out.twin HT.out⟩
end
end Go.Proofs.YtalglhgngedjoaaGreat

/-
  Package roots: a course's step at each next access; each machine's Step and Done.
-/
namespace Go.Proofs.YtalglhgngedjoaaGreat
open Go.RowKit
open W64
set_option maxRecDepth 100000
section
variable {w w' : World} {b : Nat} {st : Int}
theorem tstep_end (c0 : w.cell? ⟨b, 0, none⟩ = some .nilFunc) : Calls Tryz.prog 59 #[.pointer (some ⟨b, 0, none⟩)] w fun e w' => e = .returned (.bool false) ∧ w = w' := by
  have h1 := run_eql_nilFunc
  go_enter Tryz.func59, Tryz.ntmps59
  go_wp2_with fail
  go_ret
  exact ⟨rfl, rfl⟩
theorem createStep_end (c0 : w.cell? ⟨b, 0, none⟩ = some .nilFunc) : Calls Tryz.prog 29 #[.pointer (some ⟨b, 0, none⟩)] w fun e w' => e = .returned (.bool false) ∧ w = w' := by
  have H := Lib.hid (tstep_end c0)
  clear c0
  go_enter Tryz.func29, Tryz.ntmps29
  go_wp2_with (go_at_call 59; refine H.out.mono ?_; rintro e w2 ⟨rfl, rfl⟩)
  go_ret
  exact ⟨rfl, rfl⟩
theorem createDone_yes (c0 : w.cell? ⟨b, 0, none⟩ = some .nilFunc) : Calls Tryz.prog 31 #[.pointer (some ⟨b, 0, none⟩)] w fun e w' => e = .returned (.bool true) ∧ w = w' := by
  have h1 := run_eql_nilFunc
  go_enter Tryz.func31, Tryz.ntmps31
  go_wp2_with fail
  go_ret
  exact ⟨rfl, rfl⟩
theorem createDone_no {f : FuncId} (c0 : w.cell? ⟨b, 0, none⟩ = some (meth f b)) : Calls Tryz.prog 31 #[.pointer (some ⟨b, 0, none⟩)] w fun e w' => e = .returned (.bool false) ∧ w = w' := by
  have h1 := run_eql_func
  unfold meth at c0
  go_enter Tryz.func31, Tryz.ntmps31
  go_wp2_with fail
  go_ret
  exact ⟨rfl, rfl⟩
theorem lookStep_end (c0 : w.cell? ⟨b, 0, none⟩ = some .nilFunc) : Calls Tryz.prog 18 #[.pointer (some ⟨b, 0, none⟩)] w fun e w' => e = .returned (.bool false) ∧ w = w' := by
  have H := Lib.hid (tstep_end c0)
  clear c0
  go_enter Tryz.func18, Tryz.ntmps18
  go_wp2_with (go_at_call 59; refine H.out.mono ?_; rintro e w2 ⟨rfl, rfl⟩)
  go_ret
  exact ⟨rfl, rfl⟩
theorem lookDone_yes (c0 : w.cell? ⟨b, 0, none⟩ = some .nilFunc) : Calls Tryz.prog 19 #[.pointer (some ⟨b, 0, none⟩)] w fun e w' => e = .returned (.bool true) ∧ w = w' := by
  have h1 := run_eql_nilFunc
  go_enter Tryz.func19, Tryz.ntmps19
  go_wp2_with fail
  go_ret
  exact ⟨rfl, rfl⟩
theorem lookDone_no {f : FuncId} (c0 : w.cell? ⟨b, 0, none⟩ = some (meth f b)) : Calls Tryz.prog 19 #[.pointer (some ⟨b, 0, none⟩)] w fun e w' => e = .returned (.bool false) ∧ w = w' := by
  have h1 := run_eql_func
  unfold meth at c0
  go_enter Tryz.func19, Tryz.ntmps19
  go_wp2_with fail
  go_ret
  exact ⟨rfl, rfl⟩
theorem endStep_end (c0 : w.cell? ⟨b, 0, none⟩ = some .nilFunc) : Calls Tryz.prog 38 #[.pointer (some ⟨b, 0, none⟩)] w fun e w' => e = .returned (.bool false) ∧ w = w' := by
  have H := Lib.hid (tstep_end c0)
  clear c0
  go_enter Tryz.func38, Tryz.ntmps38
  go_wp2_with (go_at_call 59; refine H.out.mono ?_; rintro e w2 ⟨rfl, rfl⟩)
  go_ret
  exact ⟨rfl, rfl⟩
theorem endDone_yes (c0 : w.cell? ⟨b, 0, none⟩ = some .nilFunc) : Calls Tryz.prog 40 #[.pointer (some ⟨b, 0, none⟩)] w fun e w' => e = .returned (.bool true) ∧ w = w' := by
  have h1 := run_eql_nilFunc
  go_enter Tryz.func40, Tryz.ntmps40
  go_wp2_with fail
  go_ret
  exact ⟨rfl, rfl⟩
theorem endDone_no {f : FuncId} (c0 : w.cell? ⟨b, 0, none⟩ = some (meth f b)) : Calls Tryz.prog 40 #[.pointer (some ⟨b, 0, none⟩)] w fun e w' => e = .returned (.bool false) ∧ w = w' := by
  have h1 := run_eql_func
  unfold meth at c0
  go_enter Tryz.func40, Tryz.ntmps40
  go_wp2_with fail
  go_ret
  exact ⟨rfl, rfl⟩
theorem tstep_create_popSlot {R : World → Prop} (c0 : w.cell? ⟨b, 0, none⟩ = some (meth 68 b)) (c1 : w.cell? ⟨b, 1, none⟩ = some (.int .i64 st)) (fz : w.frozen? ⟨b, 1, none⟩ = false) (h0 : 0 ≤ st) (h1 : st ≤ 1000000)
    (h : Calls Tryz.prog 68 #[.pointer (some ⟨b, 0, none⟩)] (w.setCell ⟨b, 1, none⟩ (.int .i64 (st + 1))) fun e w' => e = .returned (.tuple #[]) ∧ R w') :
    Calls Tryz.prog 59 #[.pointer (some ⟨b, 0, none⟩)] w fun e w' => e = .returned (.bool true) ∧ R w' := by
  have H := Lib.hid h
  have q1 := run_eql_func
  have c2 : (w.setCell ⟨b, 1, none⟩ (.int .i64 (st + 1))).cell? ⟨b, 0, none⟩ = some (meth 68 b) := kept_set (off_ne (by decide)) c0
  unfold meth at c0 c2
  clear h
  go_enter Tryz.func59, Tryz.ntmps59
  go_wp2_with (go_at_call 68; refine H.out.mono ?_; rintro e w2 ⟨rfl, r2⟩)
  go_ret
  exact ⟨rfl, r2⟩
theorem step_create_popSlot {R : World → Prop} (c0 : w.cell? ⟨b, 0, none⟩ = some (meth 68 b)) (c1 : w.cell? ⟨b, 1, none⟩ = some (.int .i64 st)) (fz : w.frozen? ⟨b, 1, none⟩ = false) (h0 : 0 ≤ st) (h1 : st ≤ 1000000)
    (h : Calls Tryz.prog 68 #[.pointer (some ⟨b, 0, none⟩)] (w.setCell ⟨b, 1, none⟩ (.int .i64 (st + 1))) fun e w' => e = .returned (.tuple #[]) ∧ R w') :
    Calls Tryz.prog 29 #[.pointer (some ⟨b, 0, none⟩)] w fun e w' => e = .returned (.bool true) ∧ R w' := by
  have H := Lib.hid (tstep_create_popSlot c0 c1 fz h0 h1 h)
  clear h c0 c1 fz
  go_enter Tryz.func29, Tryz.ntmps29
  go_wp2_with (go_at_call 59; refine H.out.mono ?_; rintro e w2 ⟨rfl, r2⟩)
  go_ret
  exact ⟨rfl, r2⟩
theorem tstep_create_loadRoot {R : World → Prop} (c0 : w.cell? ⟨b, 0, none⟩ = some (meth 114 b)) (c1 : w.cell? ⟨b, 1, none⟩ = some (.int .i64 st)) (fz : w.frozen? ⟨b, 1, none⟩ = false) (h0 : 0 ≤ st) (h1 : st ≤ 1000000)
    (h : Calls Tryz.prog 114 #[.pointer (some ⟨b, 0, none⟩)] (w.setCell ⟨b, 1, none⟩ (.int .i64 (st + 1))) fun e w' => e = .returned (.tuple #[]) ∧ R w') :
    Calls Tryz.prog 59 #[.pointer (some ⟨b, 0, none⟩)] w fun e w' => e = .returned (.bool true) ∧ R w' := by
  have H := Lib.hid h
  have q1 := run_eql_func
  have c2 : (w.setCell ⟨b, 1, none⟩ (.int .i64 (st + 1))).cell? ⟨b, 0, none⟩ = some (meth 114 b) := kept_set (off_ne (by decide)) c0
  unfold meth at c0 c2
  clear h
  go_enter Tryz.func59, Tryz.ntmps59
  go_wp2_with (go_at_call 114; refine H.out.mono ?_; rintro e w2 ⟨rfl, r2⟩)
  go_ret
  exact ⟨rfl, r2⟩
theorem step_create_loadRoot {R : World → Prop} (c0 : w.cell? ⟨b, 0, none⟩ = some (meth 114 b)) (c1 : w.cell? ⟨b, 1, none⟩ = some (.int .i64 st)) (fz : w.frozen? ⟨b, 1, none⟩ = false) (h0 : 0 ≤ st) (h1 : st ≤ 1000000)
    (h : Calls Tryz.prog 114 #[.pointer (some ⟨b, 0, none⟩)] (w.setCell ⟨b, 1, none⟩ (.int .i64 (st + 1))) fun e w' => e = .returned (.tuple #[]) ∧ R w') :
    Calls Tryz.prog 29 #[.pointer (some ⟨b, 0, none⟩)] w fun e w' => e = .returned (.bool true) ∧ R w' := by
  have H := Lib.hid (tstep_create_loadRoot c0 c1 fz h0 h1 h)
  clear h c0 c1 fz
  go_enter Tryz.func29, Tryz.ntmps29
  go_wp2_with (go_at_call 59; refine H.out.mono ?_; rintro e w2 ⟨rfl, r2⟩)
  go_ret
  exact ⟨rfl, r2⟩
theorem tstep_create_storeRoot {R : World → Prop} (c0 : w.cell? ⟨b, 0, none⟩ = some (meth 132 b)) (c1 : w.cell? ⟨b, 1, none⟩ = some (.int .i64 st)) (fz : w.frozen? ⟨b, 1, none⟩ = false) (h0 : 0 ≤ st) (h1 : st ≤ 1000000)
    (h : Calls Tryz.prog 132 #[.pointer (some ⟨b, 0, none⟩)] (w.setCell ⟨b, 1, none⟩ (.int .i64 (st + 1))) fun e w' => e = .returned (.tuple #[]) ∧ R w') :
    Calls Tryz.prog 59 #[.pointer (some ⟨b, 0, none⟩)] w fun e w' => e = .returned (.bool true) ∧ R w' := by
  have H := Lib.hid h
  have q1 := run_eql_func
  have c2 : (w.setCell ⟨b, 1, none⟩ (.int .i64 (st + 1))).cell? ⟨b, 0, none⟩ = some (meth 132 b) := kept_set (off_ne (by decide)) c0
  unfold meth at c0 c2
  clear h
  go_enter Tryz.func59, Tryz.ntmps59
  go_wp2_with (go_at_call 132; refine H.out.mono ?_; rintro e w2 ⟨rfl, r2⟩)
  go_ret
  exact ⟨rfl, r2⟩
theorem step_create_storeRoot {R : World → Prop} (c0 : w.cell? ⟨b, 0, none⟩ = some (meth 132 b)) (c1 : w.cell? ⟨b, 1, none⟩ = some (.int .i64 st)) (fz : w.frozen? ⟨b, 1, none⟩ = false) (h0 : 0 ≤ st) (h1 : st ≤ 1000000)
    (h : Calls Tryz.prog 132 #[.pointer (some ⟨b, 0, none⟩)] (w.setCell ⟨b, 1, none⟩ (.int .i64 (st + 1))) fun e w' => e = .returned (.tuple #[]) ∧ R w') :
    Calls Tryz.prog 29 #[.pointer (some ⟨b, 0, none⟩)] w fun e w' => e = .returned (.bool true) ∧ R w' := by
  have H := Lib.hid (tstep_create_storeRoot c0 c1 fz h0 h1 h)
  clear h c0 c1 fz
  go_enter Tryz.func29, Tryz.ntmps29
  go_wp2_with (go_at_call 59; refine H.out.mono ?_; rintro e w2 ⟨rfl, r2⟩)
  go_ret
  exact ⟨rfl, r2⟩
theorem tstep_look_loadRoot {R : World → Prop} (c0 : w.cell? ⟨b, 0, none⟩ = some (meth 58 b)) (c1 : w.cell? ⟨b, 1, none⟩ = some (.int .i64 st)) (fz : w.frozen? ⟨b, 1, none⟩ = false) (h0 : 0 ≤ st) (h1 : st ≤ 1000000)
    (h : Calls Tryz.prog 58 #[.pointer (some ⟨b, 0, none⟩)] (w.setCell ⟨b, 1, none⟩ (.int .i64 (st + 1))) fun e w' => e = .returned (.tuple #[]) ∧ R w') :
    Calls Tryz.prog 59 #[.pointer (some ⟨b, 0, none⟩)] w fun e w' => e = .returned (.bool true) ∧ R w' := by
  have H := Lib.hid h
  have q1 := run_eql_func
  have c2 : (w.setCell ⟨b, 1, none⟩ (.int .i64 (st + 1))).cell? ⟨b, 0, none⟩ = some (meth 58 b) := kept_set (off_ne (by decide)) c0
  unfold meth at c0 c2
  clear h
  go_enter Tryz.func59, Tryz.ntmps59
  go_wp2_with (go_at_call 58; refine H.out.mono ?_; rintro e w2 ⟨rfl, r2⟩)
  go_ret
  exact ⟨rfl, r2⟩
theorem step_look_loadRoot {R : World → Prop} (c0 : w.cell? ⟨b, 0, none⟩ = some (meth 58 b)) (c1 : w.cell? ⟨b, 1, none⟩ = some (.int .i64 st)) (fz : w.frozen? ⟨b, 1, none⟩ = false) (h0 : 0 ≤ st) (h1 : st ≤ 1000000)
    (h : Calls Tryz.prog 58 #[.pointer (some ⟨b, 0, none⟩)] (w.setCell ⟨b, 1, none⟩ (.int .i64 (st + 1))) fun e w' => e = .returned (.tuple #[]) ∧ R w') :
    Calls Tryz.prog 18 #[.pointer (some ⟨b, 0, none⟩)] w fun e w' => e = .returned (.bool true) ∧ R w' := by
  have H := Lib.hid (tstep_look_loadRoot c0 c1 fz h0 h1 h)
  clear h c0 c1 fz
  go_enter Tryz.func18, Tryz.ntmps18
  go_wp2_with (go_at_call 59; refine H.out.mono ?_; rintro e w2 ⟨rfl, r2⟩)
  go_ret
  exact ⟨rfl, r2⟩
theorem tstep_end_loadRoot {R : World → Prop} (c0 : w.cell? ⟨b, 0, none⟩ = some (meth 65 b)) (c1 : w.cell? ⟨b, 1, none⟩ = some (.int .i64 st)) (fz : w.frozen? ⟨b, 1, none⟩ = false) (h0 : 0 ≤ st) (h1 : st ≤ 1000000)
    (h : Calls Tryz.prog 65 #[.pointer (some ⟨b, 0, none⟩)] (w.setCell ⟨b, 1, none⟩ (.int .i64 (st + 1))) fun e w' => e = .returned (.tuple #[]) ∧ R w') :
    Calls Tryz.prog 59 #[.pointer (some ⟨b, 0, none⟩)] w fun e w' => e = .returned (.bool true) ∧ R w' := by
  have H := Lib.hid h
  have q1 := run_eql_func
  have c2 : (w.setCell ⟨b, 1, none⟩ (.int .i64 (st + 1))).cell? ⟨b, 0, none⟩ = some (meth 65 b) := kept_set (off_ne (by decide)) c0
  unfold meth at c0 c2
  clear h
  go_enter Tryz.func59, Tryz.ntmps59
  go_wp2_with (go_at_call 65; refine H.out.mono ?_; rintro e w2 ⟨rfl, r2⟩)
  go_ret
  exact ⟨rfl, r2⟩
theorem step_end_loadRoot {R : World → Prop} (c0 : w.cell? ⟨b, 0, none⟩ = some (meth 65 b)) (c1 : w.cell? ⟨b, 1, none⟩ = some (.int .i64 st)) (fz : w.frozen? ⟨b, 1, none⟩ = false) (h0 : 0 ≤ st) (h1 : st ≤ 1000000)
    (h : Calls Tryz.prog 65 #[.pointer (some ⟨b, 0, none⟩)] (w.setCell ⟨b, 1, none⟩ (.int .i64 (st + 1))) fun e w' => e = .returned (.tuple #[]) ∧ R w') :
    Calls Tryz.prog 38 #[.pointer (some ⟨b, 0, none⟩)] w fun e w' => e = .returned (.bool true) ∧ R w' := by
  have H := Lib.hid (tstep_end_loadRoot c0 c1 fz h0 h1 h)
  clear h c0 c1 fz
  go_enter Tryz.func38, Tryz.ntmps38
  go_wp2_with (go_at_call 59; refine H.out.mono ?_; rintro e w2 ⟨rfl, r2⟩)
  go_ret
  exact ⟨rfl, r2⟩
theorem tstep_end_turnRoot {R : World → Prop} (c0 : w.cell? ⟨b, 0, none⟩ = some (meth 106 b)) (c1 : w.cell? ⟨b, 1, none⟩ = some (.int .i64 st)) (fz : w.frozen? ⟨b, 1, none⟩ = false) (h0 : 0 ≤ st) (h1 : st ≤ 1000000)
    (h : Calls Tryz.prog 106 #[.pointer (some ⟨b, 0, none⟩)] (w.setCell ⟨b, 1, none⟩ (.int .i64 (st + 1))) fun e w' => e = .returned (.tuple #[]) ∧ R w') :
    Calls Tryz.prog 59 #[.pointer (some ⟨b, 0, none⟩)] w fun e w' => e = .returned (.bool true) ∧ R w' := by
  have H := Lib.hid h
  have q1 := run_eql_func
  have c2 : (w.setCell ⟨b, 1, none⟩ (.int .i64 (st + 1))).cell? ⟨b, 0, none⟩ = some (meth 106 b) := kept_set (off_ne (by decide)) c0
  unfold meth at c0 c2
  clear h
  go_enter Tryz.func59, Tryz.ntmps59
  go_wp2_with (go_at_call 106; refine H.out.mono ?_; rintro e w2 ⟨rfl, r2⟩)
  go_ret
  exact ⟨rfl, r2⟩
theorem step_end_turnRoot {R : World → Prop} (c0 : w.cell? ⟨b, 0, none⟩ = some (meth 106 b)) (c1 : w.cell? ⟨b, 1, none⟩ = some (.int .i64 st)) (fz : w.frozen? ⟨b, 1, none⟩ = false) (h0 : 0 ≤ st) (h1 : st ≤ 1000000)
    (h : Calls Tryz.prog 106 #[.pointer (some ⟨b, 0, none⟩)] (w.setCell ⟨b, 1, none⟩ (.int .i64 (st + 1))) fun e w' => e = .returned (.tuple #[]) ∧ R w') :
    Calls Tryz.prog 38 #[.pointer (some ⟨b, 0, none⟩)] w fun e w' => e = .returned (.bool true) ∧ R w' := by
  have H := Lib.hid (tstep_end_turnRoot c0 c1 fz h0 h1 h)
  clear h c0 c1 fz
  go_enter Tryz.func38, Tryz.ntmps38
  go_wp2_with (go_at_call 59; refine H.out.mono ?_; rintro e w2 ⟨rfl, r2⟩)
  go_ret
  exact ⟨rfl, r2⟩
end
end Go.Proofs.YtalglhgngedjoaaGreat
