/-
  Texts beneath RootsPlay, part 19: RefBegin, RefRest.
-/
import Derived.Test.YtalglhgngedjoaaGreatPart18
/-
  The reference's machines over slots begin (W.Create, W.End); W.Root.
-/
namespace Go.Proofs.YtalglhgngedjoaaGreat
open Go.RowKit
open W64
set_option maxRecDepth 100000
section
variable {w0 w w' : World} {k p g qp qs qe r0 n b rb d : Nat} {c : Cf} {xs xs' : List Int} {cnt cnt' : Int} {t : TypeId} {ra rw rk : Array Value} {M : World → Prop} {v : Value} {ys : List Int}
theorem Cr.new_ok (n : Nat) (a : Int) : (Cr.new (cutC a)).Ok n := ⟨(cutC_in a).1, (cutC_in a).2, by simp [Cr.new], by simp [Cr.new], by simp [Cr.new], by simp [Cr.new], by simp [Cr.new]⟩
theorem redNew (k slot : Nat) (gen : Int) (w : World) :
    Calls Tryz.prog 92 #[.pointer (some ⟨k, 0, none⟩), .int .i64 (slot : Int), .int .i64 gen] w fun e w' => ∃ b, e = .returned (.pointer (some ⟨b, 0, none⟩)) ∧ REdM w' b k (Ed.new slot gen) ∧ w.heap.size ≤ b ∧ Up w w' := by
  go_enter Tryz.func92, Tryz.ntmps92
  go_wp2_with fail
  go_ret
  exact ⟨_, rfl, ⟨Whole.new _ _ _, by simp [Ed.new], by simp [Ed.new]⟩, Nat.le_refl _, Up.alloc _ _⟩
set_option maxHeartbeats 1000000 in
theorem rcrNew (R : RW w k p g qp qs qe c r0 n xs cnt) (a : Int) :
    Calls Tryz.prog 90 #[.pointer (some ⟨k, 0, none⟩), .int .i64 a] w fun e w' => ∃ b rb, e = .returned (.pointer (some ⟨b, 0, none⟩)) ∧ RCrM w' b rb k qs n (.slice none 0 0) (Cr.new (cutC a)) ∧ w.heap.size ≤ b ∧ w.heap.size ≤ rb ∧ Up w w' := by
  have k8 := R.obj.cell (i := 8) (v := .pointer (some ⟨qs, 0, none⟩)) rfl
  have HO := Lib.hid (Cr.new_ok n a)
  have key : ∀ (w2 : World) (y : Int), y = cutC a → Up w w2 → RPoM w2 w.heap.size qs n (.slice none 0 0) ⟨1, 0, 0, 0, [], false⟩ → RCrM (w2.alloc (.cells #[.pointer (some ⟨k, 0, none⟩), .int .i64 y, .int .i64 0, .int .i64 0, .int .i64 0, .int .i64 0, .int .i64 0, .pointer (some ⟨w.heap.size, 0, none⟩), .int .i64 0, .int .i64 0, .int .i64 0, .int .i64 0, .int .i64 0, .bool false] 98)) w2.heap.size w.heap.size k qs n (.slice none 0 0) (Cr.new (cutC a)) := by
    intro w2 y hy U P
    subst hy
    exact ⟨Whole.new _ _ _, P.up (Up.alloc _ _), HO.out⟩
  have HK := Lib.hid key
  clear R key
  by_cases h0 : a < 0
  · have hc : (0 : Int) = cutC a := by unfold cutC; rw [if_pos h0]
    have HC := Lib.hid hc
    have h1 : ¬ (0 : Int) ≤ a := by omega
    clear hc
    go_enter Tryz.func90, Tryz.ntmps90
    go_wp2_with (go_at_call 121; refine (rpoNew (q := qs) 1 (most := 1) (by decide) n).mono ?_; rintro e w2 ⟨rfl, P2, U2⟩)
    go_ret
    exact ⟨_, _, rfl, HK.out w2 0 HC.out U2 P2, U2.size, Nat.le_refl _, U2.then_alloc _⟩
  · by_cases h1 : 3 < a
    · have hc : (3 : Int) = cutC a := by unfold cutC; rw [if_neg h0, if_pos h1]
      have HC := Lib.hid hc
      have h2 : (0 : Int) ≤ a := by omega
      clear hc
      go_enter Tryz.func90, Tryz.ntmps90
      go_wp2_with (go_at_call 121; refine (rpoNew (q := qs) 1 (most := 1) (by decide) n).mono ?_; rintro e w2 ⟨rfl, P2, U2⟩)
      go_ret
      exact ⟨_, _, rfl, HK.out w2 3 HC.out U2 P2, U2.size, Nat.le_refl _, U2.then_alloc _⟩
    · have hc : a = cutC a := by unfold cutC; rw [if_neg h0, if_neg h1]
      have HC := Lib.hid hc
      have h2 : (0 : Int) ≤ a := by omega
      have h3 : a ≤ 3 := by omega
      clear hc
      go_enter Tryz.func90, Tryz.ntmps90
      go_wp2_with (go_at_call 121; refine (rpoNew (q := qs) 1 (most := 1) (by decide) n).mono ?_; rintro e w2 ⟨rfl, P2, U2⟩)
      go_ret
      exact ⟨_, _, rfl, HK.out w2 a HC.out U2 P2, U2.size, Nat.le_refl _, U2.then_alloc _⟩
theorem RW.looks (R : RW w k p g qp qs qe c r0 n xs cnt) {slot N j : Nat} {x : Int} (hN : xs.length = N) (hj : r0 + slot = j) (hx : xs.getD j 0 = x) (hs : slot < n) (u : Up w w') :
    w'.cell? ⟨k, 0, none⟩ = some (.int .i64 c.wk) ∧ w'.cell? ⟨k, 1, none⟩ = some (.int .i64 c.ch) ∧ w'.cell? ⟨k, 2, none⟩ = some (.int .i64 c.wo) ∧ w'.cell? ⟨k, 3, none⟩ = some (.int .i64 c.sl) ∧ w'.cell? ⟨k, 4, none⟩ = some (.int .i64 c.ca) ∧ w'.cell? ⟨k, 5, none⟩ = some (.int .i64 c.ba) ∧ w'.cell? ⟨k, 6, none⟩ = some (.pointer (some ⟨p, 0, none⟩)) ∧ w'.cell? ⟨p, 0, none⟩ = some (.slice (some ⟨g, 0, none⟩) N N) ∧ w'.cell? ⟨g, j, none⟩ = some (.int .u64 x) := by
  have h1 := R.env.mem.cells.1
  rw [hN] at h1
  have h2 := R.env.mem.cell (R.at hs).2
  rw [hj, hx] at h2
  exact ⟨u.kept (R.obj.cell rfl), u.kept (R.obj.cell rfl), u.kept (R.obj.cell rfl), u.kept (R.obj.cell rfl), u.kept (R.obj.cell rfl), u.kept (R.obj.cell rfl), u.kept (R.obj.cell rfl), u.kept h1, u.kept h2⟩
set_option maxHeartbeats 2000000 in
theorem rrootW (R : RW w k p g qp qs qe c r0 n xs cnt) {slot : Nat} (hs : slot < n) :
    Calls Tryz.prog 89 #[.pointer (some ⟨k, 0, none⟩), .int .i64 (slot : Int)] w fun e w' => e = .returned (.agg #[.int .i64 (rtOf (xs.getD (r0 + slot) 0)).g, .int .i64 (rtOf (xs.getD (r0 + slot) 0)).m, .int .i64 (rtOf (xs.getD (r0 + slot) 0)).c, .int .i64 (rtOf (xs.getD (r0 + slot) 0)).o]) ∧ Up w w' := by
  obtain ⟨hra, hrl⟩ := R.at hs
  have hw := R.env.ok (r0 + slot)
  obtain ⟨j, hj⟩ : ∃ j, r0 + slot = j := ⟨_, rfl⟩
  rw [hj] at hra hrl hw ⊢
  obtain ⟨x, hx⟩ : ∃ x, xs.getD j 0 = x := ⟨_, rfl⟩
  obtain ⟨N, hN⟩ : ∃ N, xs.length = N := ⟨_, rfl⟩
  rw [hx] at hw ⊢
  obtain ⟨rg, hrg⟩ : ∃ y, (rtOf x).g = y := ⟨_, rfl⟩
  obtain ⟨rm, hrm⟩ : ∃ y, (rtOf x).m = y := ⟨_, rfl⟩
  obtain ⟨rc, hrc⟩ : ∃ y, (rtOf x).c = y := ⟨_, rfl⟩
  obtain ⟨ro, hro⟩ : ∃ y, (rtOf x).o = y := ⟨_, rfl⟩
  have H0 := Lib.hid hra
  have H3 := Lib.hid hw
  have H4 := Lib.hid (And.intro hrg (And.intro hrm (And.intro hrc hro)))
  have HR := Lib.hid R
  have HLK := Lib.hid (fun (w2 : World) (u : Up w w2) => R.looks hN hj hx hs u)
  rw [hrg, hrm, hrc, hro]
  have i0 : (0 : Int) ≤ (j : Int) := Int.natCast_nonneg _
  have i1 : (j : Int) < (N : Int) := by omega
  obtain ⟨d, hd⟩ : ∃ d, w.heap.size = d := ⟨_, rfl⟩
  have HD := Lib.hid hd
  have HV0 := Lib.hid (Whole.new w 96 #[.int .i64 0, .int .i64 0, .int .i64 0, .int .i64 0])
  rw [hd] at HV0
  have HU0 := Lib.hid (Up.alloc w (.cells #[.int .i64 0, .int .i64 0, .int .i64 0, .int .i64 0] 96))
  clear hra hrl hx hw hrg hrm hrc hro R hN hj
  go_enter Tryz.func89, Tryz.ntmps89
  go_upto_region 1 with fail
  clear hd
  generalize w.alloc (.cells #[.int .i64 0, .int .i64 0, .int .i64 0, .int .i64 0] 96) = w1 at *
  have HC0 := Lib.hid (show w1.drew.cell? ⟨k, 0, none⟩ = some (.int .i64 c.wk) ∧ w1.drew.cell? ⟨k, 1, none⟩ = some (.int .i64 c.ch) ∧ w1.drew.cell? ⟨k, 2, none⟩ = some (.int .i64 c.wo) ∧ w1.drew.cell? ⟨k, 3, none⟩ = some (.int .i64 c.sl) ∧ w1.drew.cell? ⟨k, 4, none⟩ = some (.int .i64 c.ca) ∧ w1.drew.cell? ⟨k, 5, none⟩ = some (.int .i64 c.ba) ∧ w1.drew.cell? ⟨k, 6, none⟩ = some (.pointer (some ⟨p, 0, none⟩)) ∧ w1.drew.cell? ⟨p, 0, none⟩ = some (.slice (some ⟨g, 0, none⟩) N N) ∧ w1.drew.cell? ⟨g, j, none⟩ = some (.int .u64 x) from HLK.out _ (HU0.out.trans (up_drew w1)))
  go_region_held3 (fun w' => w'.cell? ⟨k, 0, none⟩ = some (.int .i64 c.wk) ∧ w'.cell? ⟨k, 1, none⟩ = some (.int .i64 c.ch) ∧ w'.cell? ⟨k, 2, none⟩ = some (.int .i64 c.wo) ∧ w'.cell? ⟨k, 3, none⟩ = some (.int .i64 c.sl) ∧ w'.cell? ⟨k, 4, none⟩ = some (.int .i64 c.ca) ∧ w'.cell? ⟨k, 5, none⟩ = some (.int .i64 c.ba) ∧ w'.cell? ⟨k, 6, none⟩ = some (.pointer (some ⟨p, 0, none⟩)) ∧ w'.cell? ⟨p, 0, none⟩ = some (.slice (some ⟨g, 0, none⟩) N N) ∧ w'.cell? ⟨g, j, none⟩ = some (.int .u64 x))
    ((first
      | with_reducible exact HC5.out
      | with_reducible exact HC4.out
      | with_reducible exact HC2.out
      | with_reducible exact HC0.out))
    (first
      | (go_at_call 81; refine (rrootat_to c H0.out _).mono ?_; rintro e w2 ⟨rfl, U2⟩; have HU2 := Lib.hid ((HU0.out.trans (up_drew w1)).trans U2); have HV2 := Lib.hid (show Whole w2 d _ _ from Whole.up (w := w1.drew) HV0.out U2); have HC2 := Lib.hid (show w2.cell? ⟨k, 0, none⟩ = some (.int .i64 c.wk) ∧ w2.cell? ⟨k, 1, none⟩ = some (.int .i64 c.ch) ∧ w2.cell? ⟨k, 2, none⟩ = some (.int .i64 c.wo) ∧ w2.cell? ⟨k, 3, none⟩ = some (.int .i64 c.sl) ∧ w2.cell? ⟨k, 4, none⟩ = some (.int .i64 c.ca) ∧ w2.cell? ⟨k, 5, none⟩ = some (.int .i64 c.ba) ∧ w2.cell? ⟨k, 6, none⟩ = some (.pointer (some ⟨p, 0, none⟩)) ∧ w2.cell? ⟨p, 0, none⟩ = some (.slice (some ⟨g, 0, none⟩) N N) ∧ w2.cell? ⟨g, j, none⟩ = some (.int .u64 x) from HLK.out _ HU2.out); clear U2)
      | (go_at_call 79; refine (rgetRoot_to H3.out.1 H3.out.2 H4.out.1 H4.out.2.1 H4.out.2.2.1 H4.out.2.2.2 _).mono ?_; rintro e w4 ⟨rfl, U4⟩; have HU4 := Lib.hid (HU2.out.trans U4); have HV4 := Lib.hid (HV2.out.up U4); have HC4 := Lib.hid (show w4.cell? ⟨k, 0, none⟩ = some (.int .i64 c.wk) ∧ w4.cell? ⟨k, 1, none⟩ = some (.int .i64 c.ch) ∧ w4.cell? ⟨k, 2, none⟩ = some (.int .i64 c.wo) ∧ w4.cell? ⟨k, 3, none⟩ = some (.int .i64 c.sl) ∧ w4.cell? ⟨k, 4, none⟩ = some (.int .i64 c.ca) ∧ w4.cell? ⟨k, 5, none⟩ = some (.int .i64 c.ba) ∧ w4.cell? ⟨k, 6, none⟩ = some (.pointer (some ⟨p, 0, none⟩)) ∧ w4.cell? ⟨p, 0, none⟩ = some (.slice (some ⟨g, 0, none⟩) N N) ∧ w4.cell? ⟨g, j, none⟩ = some (.int .u64 x) from HLK.out _ HU4.out); have HU5 := Lib.hid ((((HU4.out.set (g := d) (i := 0) (Nat.le_of_eq HD.out) (.int .i64 rg)).set (g := d) (i := 1) (Nat.le_of_eq HD.out) (.int .i64 rm)).set (g := d) (i := 2) (Nat.le_of_eq HD.out) (.int .i64 rc)).set (g := d) (i := 3) (Nat.le_of_eq HD.out) (.int .i64 ro)); have HV5 := Lib.hid ((((HV4.out.set 0 (.int .i64 rg)).set 1 (.int .i64 rm)).set 2 (.int .i64 rc)).set 3 (.int .i64 ro)); have HC5 := Lib.hid (show ((((w4.setCell ⟨d, 0, none⟩ (.int .i64 rg)).setCell ⟨d, 1, none⟩ (.int .i64 rm)).setCell ⟨d, 2, none⟩ (.int .i64 rc)).setCell ⟨d, 3, none⟩ (.int .i64 ro)).cell? ⟨k, 0, none⟩ = some (.int .i64 c.wk) ∧ ((((w4.setCell ⟨d, 0, none⟩ (.int .i64 rg)).setCell ⟨d, 1, none⟩ (.int .i64 rm)).setCell ⟨d, 2, none⟩ (.int .i64 rc)).setCell ⟨d, 3, none⟩ (.int .i64 ro)).cell? ⟨k, 1, none⟩ = some (.int .i64 c.ch) ∧ ((((w4.setCell ⟨d, 0, none⟩ (.int .i64 rg)).setCell ⟨d, 1, none⟩ (.int .i64 rm)).setCell ⟨d, 2, none⟩ (.int .i64 rc)).setCell ⟨d, 3, none⟩ (.int .i64 ro)).cell? ⟨k, 2, none⟩ = some (.int .i64 c.wo) ∧ ((((w4.setCell ⟨d, 0, none⟩ (.int .i64 rg)).setCell ⟨d, 1, none⟩ (.int .i64 rm)).setCell ⟨d, 2, none⟩ (.int .i64 rc)).setCell ⟨d, 3, none⟩ (.int .i64 ro)).cell? ⟨k, 3, none⟩ = some (.int .i64 c.sl) ∧ ((((w4.setCell ⟨d, 0, none⟩ (.int .i64 rg)).setCell ⟨d, 1, none⟩ (.int .i64 rm)).setCell ⟨d, 2, none⟩ (.int .i64 rc)).setCell ⟨d, 3, none⟩ (.int .i64 ro)).cell? ⟨k, 4, none⟩ = some (.int .i64 c.ca) ∧ ((((w4.setCell ⟨d, 0, none⟩ (.int .i64 rg)).setCell ⟨d, 1, none⟩ (.int .i64 rm)).setCell ⟨d, 2, none⟩ (.int .i64 rc)).setCell ⟨d, 3, none⟩ (.int .i64 ro)).cell? ⟨k, 5, none⟩ = some (.int .i64 c.ba) ∧ ((((w4.setCell ⟨d, 0, none⟩ (.int .i64 rg)).setCell ⟨d, 1, none⟩ (.int .i64 rm)).setCell ⟨d, 2, none⟩ (.int .i64 rc)).setCell ⟨d, 3, none⟩ (.int .i64 ro)).cell? ⟨k, 6, none⟩ = some (.pointer (some ⟨p, 0, none⟩)) ∧ ((((w4.setCell ⟨d, 0, none⟩ (.int .i64 rg)).setCell ⟨d, 1, none⟩ (.int .i64 rm)).setCell ⟨d, 2, none⟩ (.int .i64 rc)).setCell ⟨d, 3, none⟩ (.int .i64 ro)).cell? ⟨p, 0, none⟩ = some (.slice (some ⟨g, 0, none⟩) N N) ∧ ((((w4.setCell ⟨d, 0, none⟩ (.int .i64 rg)).setCell ⟨d, 1, none⟩ (.int .i64 rm)).setCell ⟨d, 2, none⟩ (.int .i64 rc)).setCell ⟨d, 3, none⟩ (.int .i64 ro)).cell? ⟨g, j, none⟩ = some (.int .u64 x) from HLK.out _ HU5.out); have q0 := HV4.out.cell (i := 0) rfl; have q1 := HV4.out.cell (i := 1) rfl; have q2 := HV4.out.cell (i := 2) rfl; have q3 := HV4.out.cell (i := 3) rfl; have h0 := HV4.out.frozen 0; have h1 := HV4.out.frozen 1; have h2 := HV4.out.frozen 2; have h3 := HV4.out.frozen 3; clear U4))
  clear q0 q1 q2 q3 h0 h1 h2 h3
  generalize ((((w4.setCell ⟨d, 0, none⟩ (.int .i64 rg)).setCell ⟨d, 1, none⟩ (.int .i64 rm)).setCell ⟨d, 2, none⟩ (.int .i64 rc)).setCell ⟨d, 3, none⟩ (.int .i64 ro)) = w5 at *
  have q0 := HV5.out.cell (i := 0) rfl
  have q1 := HV5.out.cell (i := 1) rfl
  have q2 := HV5.out.cell (i := 2) rfl
  have q3 := HV5.out.cell (i := 3) rfl
  go_wp2_with fail
  exact bodyPost_ret (v := .agg #[.int .i64 rg, .int .i64 rm, .int .i64 rc, .int .i64 ro]) (by simp [results, Tryz.results89, go_sem, q0, q1, q2, q3]) rfl ⟨rfl, HU5.out⟩
end
end Go.Proofs.YtalglhgngedjoaaGreat

/-
  The reference's stack: Fill, List; the statement's own same.
-/
namespace Go.Proofs.YtalglhgngedjoaaGreat
open Go.RowKit
open W64
set_option maxRecDepth 100000

/-- The links that Fill lays, up to k. -/
def fillR (xs : List Int) (ln n : Nat) : Nat → List Int
  | 0 => xs
  | k + 1 => (fillR xs ln n k).set (ln + k) (if k + 1 = n then 0 else (k : Int) + 2)
theorem fillR_len (xs : List Int) (ln n : Nat) : ∀ k, (fillR xs ln n k).length = xs.length
  | 0 => rfl
  | k + 1 => by unfold fillR; rw [List.length_set, fillR_len]
theorem fillR_ok {xs : List Int} (h : ∀ i, 0 ≤ xs.getD i 0 ∧ xs.getD i 0 < 18446744073709551616) (ln n : Nat) : ∀ k, k ≤ 8192 → ∀ i, 0 ≤ (fillR xs ln n k).getD i 0 ∧ (fillR xs ln n k).getD i 0 < 18446744073709551616
  | 0, _ => h
  | k + 1, hk => by
    unfold fillR
    refine ok_set (fillR_ok h ln n k (by omega)) ?_ ?_ <;> split <;> omega
theorem fillR_hd {xs : List Int} {ln n : Nat} {v : Int} (hln : 1 ≤ ln) : ∀ k, fillR (xs.set 0 v) ln n k = (fillR xs ln n k).set 0 v
  | 0 => rfl
  | k + 1 => by
    unfold fillR
    rw [fillR_hd hln k, List.set_comm _ _ (by omega)]
theorem fillR_K (s : St) (n : Nat) : ∀ k, k < n → fillR s.xs 2 n k = (fillK s 2 k).xs
  | 0, _ => rfl
  | k + 1, h => by
    unfold fillR fillK St.lay
    dsimp only
    rw [fillR_K s n k (by omega), if_neg (by omega), show (((2 : Nat) : Int) + k).toNat = 2 + k by omega]
theorem fillR_is (s : St) (n : Nat) (h : 1 ≤ n) : fillR (s.xs.set 0 1) 2 n n = (fillS s 0 2 n).xs := by
  obtain ⟨k, rfl⟩ : ∃ k, n = k + 1 := ⟨n - 1, by omega⟩
  rw [fillR_hd (by omega)]
  unfold fillS St.lay
  dsimp only
  unfold fillR
  rw [fillR_K s (k + 1) k (by omega), if_pos rfl, show (((2 : Nat) : Int) + ((k + 1 : Nat) : Int) - 1).toNat = 2 + k by omega, show k + 1 - 1 = k by omega]
  rfl
section
variable {w w' : World} {p g q hd ln n : Nat} {xs : List Int} {c : Int} {s : St} {S : List Nat}
theorem REnv.put (E : REnv w p g q hd ln n xs c) (i : Nat) {v : Int} (h0 : 0 ≤ v) (h1 : v < 18446744073709551616) : REnv (w.setCell ⟨g, i, none⟩ (.int .u64 v)) p g q hd ln n (xs.set i v) c := by
  have u : Else [p, g] w (w.setCell ⟨g, i, none⟩ (.int .u64 v)) := (Else.refl _ w).set (.inl (by simp)) _
  exact E.turn (E.mem.set i v) u (by simp [E.np, E.ng]) (ok_set E.ok h0 h1) (by simp)
theorem head_one : headB 0 0 = true ∧ headN 0 0 = 1 := by decide
def RFill (w : World) (p g q hd ln n : Nat) (xs : List Int) (c : Int) (i : Value) (wr : World) : Prop := ∃ k : Nat, k ≤ n ∧ i = .int .i64 k ∧ REnv wr p g q hd ln n (fillR xs ln n k) c ∧ Else [p, g] w wr
theorem tmod_fill {k n : Nat} (h : k + 1 < n) : ((k : Int) + 2).tmod ((n : Int) + 1) = (k : Int) + 2 := by
  rw [Int.tmod_eq_emod_of_nonneg (by omega)]; exact Int.emod_eq_of_lt (by omega) (by omega)
theorem tmod_last {k n : Nat} (h : k + 1 = n) : ((k : Int) + 2).tmod ((n : Int) + 1) = 0 := by
  have : (k : Int) + 2 = (n : Int) + 1 := by omega
  rw [this]; exact Int.tmod_self
set_option maxHeartbeats 4000000 in
theorem rfill_in (E : REnv w p g q hd ln n xs c) :
    Calls Tryz.prog 75 #[.pointer (some ⟨q, 0, none⟩)] w fun e w' => e = .returned (.tuple #[]) ∧ REnv w' p g q hd ln n (fillR (xs.set hd 1) ln n n) c ∧ Else [p, g] w w' := by
  have H1 := Lib.hid head_one
  have n0 := E.n0
  have n1 := E.n1
  have hhx := E.hh
  have hlx := E.hl
  have htx := E.top
  have hq : q ∉ [p, g] := by simp [E.np, E.ng]
  have i8 : (0 : Int) ≤ (hd : Int) := Int.natCast_nonneg _
  have i9 : (hd : Int) < (xs.length : Int) := by omega
  have HE := Lib.hid E
  clear E
  go_enter Tryz.func75, Tryz.ntmps75
  go_upto_region 1 with (first
    | (go_at_call 118; refine (rputHead_yes 0 0 _ H1.out.1).mono ?_; rintro e w1 ⟨rfl, U1⟩; rw [H1.out.2]))
  have HE1 := Lib.hid (HE.out.up U1)
  obtain ⟨k0, k1, k2, k3⟩ := HE1.out.cells
  have r0 := HE1.out.mem.cells.1
  have rh := HE1.out.mem.cell hhx
  have rf := HE1.out.mem.row.frozen hd
  go_still_tail 13, (by kernel_rfl)
  go_wp2_with fail
  have HE2 := Lib.hid ((HE1.out.put hd (v := 1) (by omega) (by omega)).up (Up.drewN _ 1))
  have HX2 := Lib.hid (((Else.of_up (s := [p, g]) U1).set (p := ⟨g, hd, none⟩) (.inl (by simp)) (.int .u64 1)).up (Up.drewN _ 1))
  clear k0 k1 k2 k3 r0 rh rf U1
  go_loopw [4] (fun i wr => RFill w p g q hd ln n (xs.set hd 1) c i wr) (fun i _ => n - (intOf i).toNat)
  case atStart => exact ⟨0, Nat.zero_le _, rfl, HE2.out, HX2.out⟩
  case round =>
    obtain ⟨k, hk, rfl, ER, XR⟩ := hrel
    have HER := Lib.hid ER
    have HXR := Lib.hid XR
    clear ER XR
    obtain ⟨k0, k1, k2, k3⟩ := HER.out.cells
    have r0 := HER.out.mem.cells.1
    rw [fillR_len, List.length_set] at r0
    have i0 : (0 : Int) ≤ (k : Int) := Int.natCast_nonneg _
    by_cases hlt : k < n
    · have i1 : (k : Int) < (n : Int) := by omega
      have hkl : ln + k < (fillR (xs.set hd 1) ln n k).length := by rw [fillR_len, List.length_set]; omega
      have rh := HER.out.mem.cell hkl
      have rf := HER.out.mem.row.frozen (ln + k)
      have i2 : (ln : Int) + (k : Int) < (xs.length : Int) := by omega
      have i3 : (0 : Int) ≤ (ln : Int) + (k : Int) := by omega
      have e1 : ((ln : Int) + (k : Int)).toNat = ln + k := by omega
      have HK := Lib.hid hkl
      clear hkl
      have s9 : (-9223372036854775808 ≤ (k : Int) + 2 ∧ (k : Int) + 2 ≤ 9223372036854775807) ∧ (-9223372036854775808 ≤ (n : Int) + 1 ∧ (n : Int) + 1 ≤ 9223372036854775807) ∧ (0 ≤ (k : Int) + 2 ∧ (k : Int) + 2 ≤ 18446744073709551615) ∧ ln + k ≤ 8400000 ∧ (-9223372036854775808 ≤ (n : Int) - 1 ∧ (n : Int) - 1 ≤ 9223372036854775807) := by omega
      obtain ⟨z1, z2, z3, z4, z5⟩ := s9
      have HZ := Lib.hid (And.intro (IntWalk.i64_in ((k : Int) + 2) z1) (And.intro (IntWalk.i64_in ((n : Int) + 1) z2) (And.intro (IntWalk.u64_in ((k : Int) + 2) z3) (And.intro (wrapS (a := ln) (b := k) z4) (IntWalk.i64_in ((n : Int) - 1) z5)))))
      clear z1 z2 z3 z4 z5
      by_cases hlast : k + 1 = n
      · have I4 := Lib.hid (show ((k : Int) == (n : Int) - 1) = true by simp; omega)
        have HS := Lib.hid (show fillR (xs.set hd 1) ln n (k + 1) = ((fillR (xs.set hd 1) ln n k).set (ln + k) 0).set (ln + k) 0 by
          rw [List.set_set]; show (fillR (xs.set hd 1) ln n k).set (ln + k) (if k + 1 = n then 0 else (k : Int) + 2) = _
          rw [if_pos hlast])
        have t1 := tmod_last hlast
        have HLA := Lib.hid hlast
        clear hlast
        go_upto_region 5 with fail
        obtain ⟨y1, y2, y3, ⟨y4, y5⟩, y6⟩ := HZ.out
        have y7 : ¬ ((n : Int) + 1 = 0) := by clear y1 y2 y3 y4 y5 y6; omega
        have y8 : ((n : Int) + 1 == 0) = false := by simpa using y7
        go_still_tail 23, (by kernel_rfl)
        have HE5 := Lib.hid ((HER.out.put (ln + k) (v := 0) (by omega) (by omega)).up (up_drew _))
        have HX5 := Lib.hid ((HXR.out.set (p := ⟨g, ln + k, none⟩) (.inl (by simp)) (.int .u64 0)).up (up_drew _))
        go_upto_region 6 with fail
        clear k0 k1 k2 k3 r0 rh rf t1
        generalize (wr.setCell ⟨g, ln + k, none⟩ (.int .u64 0)).drew = w5 at *
        obtain ⟨k0, k1, k2, k3⟩ := HE5.out.cells
        have r0 := HE5.out.mem.cells.1
        rw [List.length_set, fillR_len, List.length_set] at r0
        have rh := HE5.out.mem.cell (i := ln + k) (by rw [List.length_set]; exact HK.out)
        have rf := HE5.out.mem.row.frozen (ln + k)
        have i4 := I4.out
        go_upto_region 7 with fail
        clear i4
        go_still_tail 14, (by kernel_rfl)
        go_wp2_with fail
        go_roundw
        case rel =>
          refine ⟨k + 1, by omega, by go_num, ?_, (HX5.out.set (p := ⟨g, ln + k, none⟩) (.inl (by simp)) (.int .u64 0)).up (up_drew _)⟩
          rw [HS.out]; exact (HE5.out.put (ln + k) (v := 0) (by omega) (by omega)).up (up_drew _)
        case measure => simp [intOf]; omega
      · have i4 : ((k : Int) == (n : Int) - 1) = false := by simp; omega
        have HS := Lib.hid (show fillR (xs.set hd 1) ln n (k + 1) = (fillR (xs.set hd 1) ln n k).set (ln + k) ((k : Int) + 2) by
          show (fillR (xs.set hd 1) ln n k).set (ln + k) (if k + 1 = n then 0 else (k : Int) + 2) = _
          rw [if_neg hlast])
        have t1 := tmod_fill (k := k) (n := n) (by omega)
        go_upto_region 5 with fail
        obtain ⟨y1, y2, y3, ⟨y4, y5⟩, y6⟩ := HZ.out
        have y7 : ¬ ((n : Int) + 1 = 0) := by clear y1 y2 y3 y4 y5 y6; omega
        have y8 : ((n : Int) + 1 == 0) = false := by simpa using y7
        go_still_tail 23, (by kernel_rfl)
        have HE5 := Lib.hid ((HER.out.put (ln + k) (v := (k : Int) + 2) (by omega) (by omega)).up (up_drew _))
        have HX5 := Lib.hid ((HXR.out.set (p := ⟨g, ln + k, none⟩) (.inl (by simp)) (.int .u64 ((k : Int) + 2))).up (up_drew _))
        go_upto_region 6 with fail
        clear k0 k1 k2 k3 r0 rh rf t1
        generalize (wr.setCell ⟨g, ln + k, none⟩ (.int .u64 ((k : Int) + 2))).drew = w5 at *
        obtain ⟨k0, k1, k2, k3⟩ := HE5.out.cells
        go_wp2_with fail
        go_roundw
        case rel => exact ⟨k + 1, by omega, by go_num, by rw [HS.out]; exact HE5.out, HX5.out⟩
        case measure => simp [intOf]; omega
    · have i1 : ¬ (k : Int) < (n : Int) := by omega
      have ek : k = n := by omega
      subst ek
      go_wp2_with fail
      go_end0
      exact ⟨rfl, HER.out, HXR.out⟩
end
end Go.Proofs.YtalglhgngedjoaaGreat
