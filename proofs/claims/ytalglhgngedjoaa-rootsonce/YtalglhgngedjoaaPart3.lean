/-
  Texts beneath RootsOnce, part 3: Word, QuietUp, CellsMore, IntRow, Put.
-/
import Derived.Test.YtalglhgngedjoaaPart2
import Derived.BigQuiet
import Derived.Deep.RegionHeld3
import Derived.Deep.DrawnRows
import Derived.StillTailTactics
import Derived.Deep.DeepCutAuto
import Derived.Laws.EntriesVeiled
import Derived.OwnWalk
import Derived.Deep.AppendLies
import Derived.Lib.SliceRun
import Derived.WalkKit
/-
  The contracts of package word: heads, roots, pins as plain numbers.
-/
namespace Go.Proofs.Ytalglhgngedjoaa
open W64

theorem put_at_yes' {x v : Int} (X V : BitVec 64) (hx : x = U X) (hv : v = U V) (a n : Int) (w : World) {r : Int} (h : putB a n V = true) (hr : U (putV X a n V) = r) :
    Calls Try.prog 87 #[.int .u64 x, .int .i64 a, .int .i64 n, .int .u64 v] w fun e w' => e = .returned (.tuple #[.int .u64 r, .bool true]) ∧ ∃ m, w' = w.drewN m := by
  subst hx hv hr; exact put_yes X a n V w h
theorem get_at' {x : Int} (X : BitVec 64) (hx : x = U X) (a n : Int) (w : World) {r : Int} (hr : U (getW X a n) = r) :
    Calls Try.prog 72 #[.int .u64 x, .int .i64 a, .int .i64 n] w fun e w' => e = .returned (.int .u64 r) ∧ ∃ m, w' = w.drewN m := by
  subst hx hr; exact get_any X a n w

set_option maxHeartbeats 400000 in
theorem within_any (n a b : Int) (w : World) :
    Calls Try.prog 78 #[.int .i64 n, .int .i64 a, .int .i64 b] w fun e w' => e = .returned (.bool (inB n a b)) ∧ w = w' := by
  go_enter Try.func78, Try.ntmps78
  go_wp2
  all_goals
    go_ret
    refine ⟨ret_bool ?_, rfl⟩
    unfold inB
    simp [*]
  all_goals omega

set_option maxHeartbeats 400000 in
theorem wput_any {x v : Int} (a n : Int) (P Q : Nat) (w : World) (hf : fieldB a n = true) (hP : 2 ^ a.toNat = P) (hQ : 2 ^ n.toNat = Q) (hPQ : P * Q ≤ 18446744073709551616)
    (hx0 : 0 ≤ x) (hx : x < P) (hv0 : 0 ≤ v) (hv : v < Q) :
    Calls Try.prog 79 #[.int .u64 x, .int .i64 a, .int .i64 n, .int .i64 v] w fun e w' => e = .returned (.int .u64 (x + v * P)) ∧ ∃ m, w' = w.drewN m := by
  have b1 : x < 18446744073709551616 ∧ v < 18446744073709551616 := by
    have p1 : 0 < P := by omega
    have q1 : 0 < Q := by omega
    have := Nat.le_mul_of_pos_right P q1
    have := Nat.le_mul_of_pos_left Q p1
    omega
  have ux := Lib.hid (U_mk hx0 b1.1).symm
  have uv := Lib.hid (U_mk hv0 b1.2).symm
  have hw := Lib.hid (show IntKind.u64.wrap v = v by rw [IntKind.wrap_u64]; omega)
  have hr := Lib.hid (put_num (BitVec.ofNat 64 x.toNat) (BitVec.ofNat 64 v.toNat) hf hP hQ (by rw [← ux.out]; exact hx) (by rw [← uv.out]; exact hv) hPQ)
  have hb := Lib.hid (show putB a n (BitVec.ofNat 64 v.toNat) = true by
    obtain ⟨h0, h1, _, _⟩ := fieldB_iff.1 hf
    unfold putB; rw [hf, fits_num h0 h1 hQ (by rw [← uv.out]; exact hv)]; rfl)
  have F := Lib.hid hf
  clear hf hP hQ
  go_enter Try.func79, Try.ntmps79
  go_wp2_with (go_at_call 87; refine (put_at_yes' (BitVec.ofNat 64 x.toNat) (BitVec.ofNat 64 v.toNat) ux.out ?_ _ _ _ hb.out hr.out).mono ?_)
  · first | exact uv.out | (rw [hw.out]; exact uv.out)
  · rintro e w' ⟨rfl, m, rfl⟩
    go_wp2
    go_ret
    refine ⟨ret_int ?_, m, rfl⟩
    rw [← ux.out, ← uv.out]

set_option maxHeartbeats 400000 in
theorem wget_any {x : Int} (a n : Int) (P Q : Nat) (w : World) (hf : fieldB a n = true) (hP : 2 ^ a.toNat = P) (hQ : 2 ^ n.toNat = Q) (hQ2 : Q ≤ 9223372036854775808)
    (hx0 : 0 ≤ x) (hx : x < 18446744073709551616) :
    Calls Try.prog 53 #[.int .u64 x, .int .i64 a, .int .i64 n] w fun e w' => e = .returned (.int .i64 (x / P % Q)) ∧ ∃ m, w' = w.drewN m := by
  have q1 : 0 < Q := by have := Nat.two_pow_pos n.toNat; omega
  have ux := Lib.hid (U_mk hx0 hx).symm
  have hr := Lib.hid (get_num (BitVec.ofNat 64 x.toNat) hf hP hQ)
  have hw := Lib.hid (show RowKit.wrap64 (x / P % Q) = x / P % Q by
    have := Int.emod_nonneg (x / P) (show (Q : Int) ≠ 0 by omega)
    have := Int.emod_lt_of_pos (x / P) (show (0 : Int) < Q by omega)
    exact wrap64_in (by omega) (by omega))
  have hr' := Lib.hid (show U (getW (BitVec.ofNat 64 x.toNat) a n) = x / P % Q by rw [hr.out, ← ux.out])
  clear hf hP hQ hr
  go_enter Try.func53, Try.ntmps53
  go_wp2_with (go_at_call 72; refine (get_at' _ ux.out _ _ _ hr'.out).mono ?_; rintro e w' ⟨rfl, m, rfl⟩)
  go_ret
  exact ⟨ret_int hw.out, m, rfl⟩

/-! ### Heads -/
theorem up_box (w : World) (o : Obj) (m : Nat) : Up w ((w.alloc o).drewN m) := (Up.alloc _ _).then_drewN m
theorem up_box2 (w : World) (o p : Obj) : Up w ((w.alloc o).alloc p) := (Up.alloc _ _).then_alloc _

set_option maxHeartbeats 400000 in
theorem putHead_yes (i t : Int) (w : World) (h : headB i t = true) :
    Calls Try.prog 65 #[.agg #[.int .i64 i, .int .i64 t]] w fun e w' => e = .returned (.tuple #[.int .u64 (headN i t), .bool true]) ∧ Up w w' := by
  obtain ⟨⟨i0, i1⟩, t0, t1⟩ := headB_iff.1 h
  have c1 := inB_iff.2 ⟨i0, i1⟩
  have c2 := inB_iff.2 ⟨t0, t1⟩
  clear h
  go_enter Try.func65, Try.ntmps65
  go_wp2_with (first
    | (go_at_call 78; refine (within_any _ _ _ _).mono ?_; rintro e w' ⟨rfl, rfl⟩)
    | (go_at_call 79; (with_reducible refine (wput_any 0 32 1 4294967296 _ (by decide) (by decide) (by decide) (by decide) (by omega) (by omega) (by omega) (by omega)).mono ?_); rintro e w' ⟨rfl, m1, rfl⟩)
    | (go_at_call 79; (with_reducible refine (wput_any 32 32 4294967296 4294967296 _ (by decide) (by decide) (by decide) (by decide) (by omega) (by omega) (by omega) (by omega)).mono ?_); rintro e w' ⟨rfl, m2, rfl⟩))
  go_ret2
  exact ⟨rfl, up_box _ _ _⟩

set_option maxHeartbeats 400000 in
theorem putHead_no (i t : Int) (w : World) (h : headB i t = false) :
    Calls Try.prog 65 #[.agg #[.int .i64 i, .int .i64 t]] w fun e w' => e = .returned (.tuple #[.int .u64 0, .bool false]) ∧ Up w w' := by
  unfold headB at h
  cases c1 : inB i (-1) 4294967294
  · clear h
    go_enter Try.func65, Try.ntmps65
    go_wp2_with (go_at_call 78; refine (within_any _ _ _ _).mono ?_; rintro e w' ⟨rfl, rfl⟩)
    go_ret2
    exact ⟨rfl, up_box _ _ 0⟩
  · rw [c1, Bool.true_and] at h
    go_enter Try.func65, Try.ntmps65
    go_wp2_with (go_at_call 78; refine (within_any _ _ _ _).mono ?_; rintro e w' ⟨rfl, rfl⟩)
    go_ret2
    exact ⟨rfl, up_box _ _ 0⟩

set_option maxHeartbeats 400000 in
theorem getHead_any (x : Int) (w : World) (h0 : 0 ≤ x) (h1 : x < 18446744073709551616) :
    Calls Try.prog 83 #[.int .u64 x] w fun e w' => e = .returned (.agg #[.int .i64 (x % 4294967296 - 1), .int .i64 (x / 4294967296)]) ∧ Up w w' := by
  have hq := Lib.hid (show x / 4294967296 % 4294967296 = x / 4294967296 by omega)
  go_enter Try.func83, Try.ntmps83
  go_wp2_with (first
    | (go_at_call 53; (with_reducible refine (wget_any 0 32 1 4294967296 _ (by decide) (by decide) (by decide) (by decide) (by omega) (by omega)).mono ?_); rintro e w' ⟨rfl, m1, rfl⟩)
    | (go_at_call 53; (with_reducible refine (wget_any 32 32 4294967296 4294967296 _ (by decide) (by decide) (by decide) (by decide) (by omega) (by omega)).mono ?_); rintro e w' ⟨rfl, m2, rfl⟩))
  refine bodyPost_ret (v := .agg #[.int .i64 (x % 4294967296 - 1), .int .i64 (x / 4294967296)]) (by simp [results, Try.results83, go_sem, hq.out]) rfl ⟨rfl, ?_⟩
  exact ((up_box _ _ _).setCell (Nat.le_refl _) _).setCell (Nat.le_refl _) _

set_option maxHeartbeats 400000 in
theorem next_exact (i t index : Int) (w : World) :
    Calls Try.prog 90 #[.agg #[.int .i64 i, .int .i64 t], .int .i64 index] w fun e w' => e = .returned (.agg #[.int .i64 index, .int .i64 (nextT t)]) ∧ (w.alloc (.cells #[.int .i64 i, .int .i64 t] 108)).alloc (.cells #[.int .i64 index, .int .i64 (nextT t)] 108) = w' := by
  cases c1 : inB t 0 4294967294
  · have e1 : nextT t = 0 := by unfold nextT; rw [c1]; rfl
    rw [e1]; clear e1
    go_enter Try.func90, Try.ntmps90
    go_wp2_with (go_at_call 78; refine (within_any _ _ _ _).mono ?_; rintro e w' ⟨rfl, rfl⟩)
    refine bodyPost_ret (v := .agg #[.int .i64 index, .int .i64 0]) (by simp [results, Try.results90, go_sem]) rfl ⟨rfl, rfl⟩
  · have e1 : nextT t = t + 1 := by unfold nextT; rw [c1]; rfl
    obtain ⟨t0, t1⟩ := inB_iff.1 c1
    rw [e1]; clear e1
    go_enter Try.func90, Try.ntmps90
    go_wp2_with (go_at_call 78; refine (within_any _ _ _ _).mono ?_; rintro e w' ⟨rfl, rfl⟩)
    refine bodyPost_ret (v := .agg #[.int .i64 index, .int .i64 (t + 1)]) (by simp [results, Try.results90, go_sem]) rfl ⟨rfl, rfl⟩
theorem next_any (i t index : Int) (w : World) :
    Calls Try.prog 90 #[.agg #[.int .i64 i, .int .i64 t], .int .i64 index] w fun e w' => e = .returned (.agg #[.int .i64 index, .int .i64 (nextT t)]) ∧ Up w w' :=
  (next_exact i t index w).mono fun _ _ ⟨he, hw⟩ => ⟨he, hw ▸ up_box2 _ _ _⟩

/-! ### Roots -/
set_option maxHeartbeats 400000 in
theorem putRoot_yes (g k c o : Int) (w : World) (h : rootB g k c o = true) :
    Calls Try.prog 69 #[.agg #[.int .i64 g, .int .i64 k, .int .i64 c, .int .i64 o]] w fun e w' => e = .returned (.tuple #[.int .u64 (rootN g k c o), .bool true]) ∧ Up w w' := by
  obtain ⟨⟨g0, g1⟩, ⟨k0, k1⟩, ⟨c0, c1⟩, o0, o1⟩ := rootB_iff.1 h
  have d1 := inB_iff.2 ⟨g0, g1⟩
  have d2 := inB_iff.2 ⟨k0, k1⟩
  have d3 := inB_iff.2 ⟨c0, c1⟩
  have d4 := inB_iff.2 ⟨o0, o1⟩
  clear h
  go_enter Try.func69, Try.ntmps69
  go_wp2_with (first
    | (go_at_call 78; refine (within_any _ _ _ _).mono ?_; rintro e w' ⟨rfl, rfl⟩)
    | (go_at_call 79; (with_reducible refine (wput_any 0 12 1 4096 _ (by decide) (by decide) (by decide) (by decide) (by omega) (by omega) (by omega) (by omega)).mono ?_); rintro e w' ⟨rfl, m1, rfl⟩)
    | (go_at_call 79; (with_reducible refine (wput_any 12 4 4096 16 _ (by decide) (by decide) (by decide) (by decide) (by omega) (by omega) (by omega) (by omega)).mono ?_); rintro e w' ⟨rfl, m2, rfl⟩)
    | (go_at_call 79; (with_reducible refine (wput_any 16 16 65536 65536 _ (by decide) (by decide) (by decide) (by decide) (by omega) (by omega) (by omega) (by omega)).mono ?_); rintro e w' ⟨rfl, m3, rfl⟩)
    | (go_at_call 79; (with_reducible refine (wput_any 32 32 4294967296 4294967296 _ (by decide) (by decide) (by decide) (by decide) (by omega) (by omega) (by omega) (by omega)).mono ?_); rintro e w' ⟨rfl, m4, rfl⟩))
  go_ret2
  exact ⟨rfl, up_box _ _ _⟩

set_option maxHeartbeats 800000 in
theorem putRoot_no (g k c o : Int) (w : World) (h : rootB g k c o = false) :
    Calls Try.prog 69 #[.agg #[.int .i64 g, .int .i64 k, .int .i64 c, .int .i64 o]] w fun e w' => e = .returned (.tuple #[.int .u64 0, .bool false]) ∧ Up w w' := by
  unfold rootB at h
  cases d1 : inB g 0 4294967295
  case' true =>
    rw [d1, Bool.true_and] at h
    cases d2 : inB k 0 4097
    case' true =>
      rw [d2, Bool.true_and] at h
      cases d3 : inB c 0 3
      case' true => rw [d3, Bool.true_and] at h
  all_goals
    go_enter Try.func69, Try.ntmps69
    go_wp2_with (go_at_call 78; refine (within_any _ _ _ _).mono ?_; rintro e w' ⟨rfl, rfl⟩)
    go_ret2
    exact ⟨rfl, up_box _ _ 0⟩

set_option maxHeartbeats 400000 in
theorem getRoot_any (x : Int) (w : World) (h0 : 0 ≤ x) (h1 : x < 18446744073709551616) :
    Calls Try.prog 31 #[.int .u64 x] w fun e w' =>
      e = .returned (.agg #[.int .i64 (x / 4294967296), .int .i64 (x / 65536 % 65536), .int .i64 (x / 4096 % 16), .int .i64 (x % 4096)]) ∧ Up w w' := by
  have hq := Lib.hid (show x / 4294967296 % 4294967296 = x / 4294967296 by omega)
  go_enter Try.func31, Try.ntmps31
  go_wp2_with (first
    | (go_at_call 53; (with_reducible refine (wget_any 0 12 1 4096 _ (by decide) (by decide) (by decide) (by decide) (by omega) (by omega)).mono ?_); rintro e w' ⟨rfl, m1, rfl⟩)
    | (go_at_call 53; (with_reducible refine (wget_any 12 4 4096 16 _ (by decide) (by decide) (by decide) (by decide) (by omega) (by omega)).mono ?_); rintro e w' ⟨rfl, m2, rfl⟩)
    | (go_at_call 53; (with_reducible refine (wget_any 16 16 65536 65536 _ (by decide) (by decide) (by decide) (by decide) (by omega) (by omega)).mono ?_); rintro e w' ⟨rfl, m3, rfl⟩)
    | (go_at_call 53; (with_reducible refine (wget_any 32 32 4294967296 4294967296 _ (by decide) (by decide) (by decide) (by decide) (by omega) (by omega)).mono ?_); rintro e w' ⟨rfl, m4, rfl⟩))
  refine bodyPost_ret (v := .agg #[.int .i64 (x / 4294967296), .int .i64 (x / 65536 % 65536), .int .i64 (x / 4096 % 16), .int .i64 (x % 4096)]) (by simp [results, Try.results31, go_sem, hq.out]) rfl ⟨rfl, ?_⟩
  exact ((((up_box _ _ _).setCell (Nat.le_refl _) _).setCell (Nat.le_refl _) _).setCell (Nat.le_refl _) _).setCell (Nat.le_refl _) _

set_option maxHeartbeats 400000 in
theorem live_any (g k c o gen : Int) (w : World) :
    Calls Try.prog 51 #[.agg #[.int .i64 g, .int .i64 k, .int .i64 c, .int .i64 o], .int .i64 gen] w fun e w' => e = .returned (.bool (liveB g k gen)) ∧ Up w w' := by
  by_cases h : 1 ≤ k
  · go_enter Try.func51, Try.ntmps51
    go_wp2
    go_ret
    refine ⟨ret_bool ?_, up_box _ _ 0⟩
    unfold liveB; simp [h]
  · go_enter Try.func51, Try.ntmps51
    go_wp2
    go_ret
    refine ⟨ret_bool ?_, up_box _ _ 0⟩
    unfold liveB; rw [decide_eq_false (by omega)]; rfl

set_option maxHeartbeats 400000 in
theorem chunk_any (g k c o : Int) (w : World) (k0 : k < 9223372036854775808) :
    Calls Try.prog 71 #[.agg #[.int .i64 g, .int .i64 k, .int .i64 c, .int .i64 o]] w fun e w' => e = .returned (.int .i64 (chunkN k)) ∧ Up w w' := by
  by_cases h : k < 2
  · go_enter Try.func71, Try.ntmps71
    go_wp2
    go_ret
    refine ⟨ret_int ?_, up_box _ _ 0⟩
    unfold chunkN; rw [if_pos h]
  · go_enter Try.func71, Try.ntmps71
    go_wp2
    go_ret
    refine ⟨ret_int ?_, up_box _ _ 0⟩
    unfold chunkN; rw [if_neg (by omega)]

/-! ### Pins -/
theorem putHead_any (i t : Int) (w : World) :
    Calls Try.prog 65 #[.agg #[.int .i64 i, .int .i64 t]] w fun e w' => e = .returned (.tuple #[.int .u64 (headV i t), .bool (headB i t)]) ∧ Up w w' := by
  unfold headV
  cases h : headB i t
  · exact putHead_no i t w h
  · exact putHead_yes i t w h
theorem putRoot_any (g k c o : Int) (w : World) :
    Calls Try.prog 69 #[.agg #[.int .i64 g, .int .i64 k, .int .i64 c, .int .i64 o]] w fun e w' => e = .returned (.tuple #[.int .u64 (rootV g k c o), .bool (rootB g k c o)]) ∧ Up w w' := by
  unfold rootV
  cases h : rootB g k c o
  · exact putRoot_no g k c o w h
  · exact putRoot_yes g k c o w h
end Go.Proofs.Ytalglhgngedjoaa

/-
  A region that draws its order, whose operations only read and whose callees may make memory of their own: one walk in the order of the text, at the class of the worlds in which of W nothing has turned. No program is named here.
-/
namespace Go.Proofs.Ytalglhgngedjoaa
open Go.RowKit

/-- The worlds in which of W nothing has turned. -/
structure UpOf (W : World) where
  w : World
  up : Up W w
instance (W : World) : Nonempty (UpOf W) := ⟨⟨W, Up.refl W⟩⟩
theorem up_drew (w : World) : Up w w.drew := Up.drewN w 1
theorem calls_up {P : Program} {f : FuncId} {args : Array Value} {v : Ending} {W w : World} (u : Up W w) (h : Calls P f args w fun e w' => e = v ∧ Up w w') : Calls P f args w fun e w' => e = v ∧ Up W w' :=
  h.mono fun _ _ ⟨he, hu⟩ => ⟨he, u.trans hu⟩
/-- The beginning. -/
theorem wp_region_up {P : Program} {id : Nat} {Q : Exit → Act → World → Prop} {a : Act} {W w : World} {l : List Oper} (u : Up W w) (hm : P.follows .mixedOrders = true) (hB : Region.lexB .any l.toArray = true)
    (h : wpQuiet P l.toArray (fun w' => ∃ x : UpOf W, w' = x.w) (fun a' => ∀ w', (∃ x : UpOf W, w' = x.w) → Q .normal a' w') l a) : (Code.region id l.toArray true).wp P Q a w :=
  wp_region_quiet (C := fun w' => ∃ x : UpOf W, w' = x.w) hm hB ⟨⟨w.drew, u.trans (up_drew _)⟩, rfl⟩ (by simpa using h)
/-- A region that only reads, its world written out. -/
theorem wp_region_one {P : Program} {id : Nat} {Q : Exit → Act → World → Prop} {a : Act} {w : World} {l : List Oper} (hm : P.follows .mixedOrders = true) (hB : Region.lexB .any l.toArray = true)
    (h : wpQuiet P l.toArray (fun w' => w' = w.drew) (fun a' => ∀ w', w' = w.drew → Q .normal a' w') l a) : (Code.region id l.toArray true).wp P Q a w :=
  wp_region_quiet (C := fun w' => w' = w.drew) hm hB rfl (by simpa using h)
/-- A contract, at the class. -/
theorem up_class {P : Program} {f : FuncId} {args : Array Value} {v : Value} {W : World} {x : UpOf W} (h : Calls P f args x.w fun e w' => e = .returned v ∧ Up x.w w') :
    Calls P f args x.w fun e w' => e = .returned v ∧ ∃ y : UpOf W, w' = y.w :=
  h.mono fun _ w' ⟨he, hu⟩ => ⟨he, ⟨w', x.up.trans hu⟩, rfl⟩
theorem same_class {P : Program} {f : FuncId} {args : Array Value} {v : Value} {W : World} {x : UpOf W} (h : Calls P f args x.w fun e w' => e = .returned v ∧ x.w = w') :
    Calls P f args x.w fun e w' => e = .returned v ∧ ∃ y : UpOf W, w' = y.w :=
  h.mono fun _ _ ⟨he, hu⟩ => ⟨he, x, hu.symm⟩
theorem class_first {P : Program} {f : FuncId} {args : Array Value} {v : Value} {W : World} (h : Calls P f args W fun e w' => e = .returned v ∧ Up W w') :
    Calls P f args W fun e w' => e = .returned v ∧ ∃ y : UpOf W, w' = y.w :=
  h.mono fun _ w' ⟨he, hu⟩ => ⟨he, ⟨w', hu⟩, rfl⟩
theorem cell_class {W : World} {p : Addr} {v : Value} (h : W.cell? p = some v) (x : UpOf W) : x.w.cell? p = some v := x.up.kept h
end Go.Proofs.Ytalglhgngedjoaa

/-
  What every package over cells uses: words in each cell (St.Ok), method values, stores elsewhere.
-/
namespace Go.Proofs.Ytalglhgngedjoaa
open Go.RowKit
open W64
set_option maxRecDepth 100000

/-- Each cell holds a word. -/
def St.Ok (s : St) : Prop := ∀ i, 0 ≤ s.get i ∧ s.get i < 18446744073709551616
theorem getD_set {xs : List Int} {i j : Nat} {v : Int} : (xs.set i v).getD j 0 = if i = j ∧ j < xs.length then v else xs.getD j 0 := by
  unfold List.getD
  by_cases e : i = j
  · subst e
    by_cases h : i < xs.length
    · simp [h]
    · simp [h]
  · simp [e]
theorem St.Ok.lay {s : St} (h : s.Ok) (i : Int) {v : Int} (h0 : 0 ≤ v) (h1 : v < 18446744073709551616) : (s.lay i v).Ok := by
  intro j
  unfold St.lay St.get
  dsimp only
  rw [getD_set]
  split
  · exact ⟨h0, h1⟩
  · exact h j
theorem St.Ok.hit {s : St} (h : s.Ok) (k i : Int) {v : Int} (y : Bool) (h0 : 0 ≤ v) (h1 : v < 18446744073709551616) : (s.hit k i v y).Ok := by
  have := h.lay i h0 h1
  exact this
theorem St.Ok.zero (n : Nat) : (St.zero n).Ok := by
  intro i
  unfold St.get St.zero
  dsimp only
  have : (List.replicate n (0 : Int)).getD i.toNat 0 = 0 := by
    unfold List.getD
    by_cases h : i.toNat < n <;> simp [h]
  rw [this]; decide
instance (s : St) (i : Int) : Decidable (s.has i) := inferInstanceAs (Decidable (_ ∧ _))
theorem hit_len (s : St) (k i v : Int) (y : Bool) : (s.hit k i v y).xs.length = s.xs.length := by simp [St.hit]
theorem lay_len (s : St) (i v : Int) : (s.lay i v).xs.length = s.xs.length := by simp [St.lay]
/-- A method value of the machine at b. -/
def meth (f : FuncId) (b : Nat) : Value := .func (.func f) #[.pointer (some ⟨b, 0, none⟩)] #[]
theorem run_func (fn : Fn) (first cap : Array Value) (w : World) : (Instr.makeFunc fn first cap).run Try.prog w = .ok (.func fn first cap) w := rfl
theorem run_eql_func (f : Fn) (x y : Array Value) (w : World) : (binOp .eql 1 (.func f x y) .nilFunc).run Try.prog w = .ok (.bool false) w := by rfl
theorem run_eql_nilFunc (w : World) : (binOp .eql 1 .nilFunc .nilFunc).run Try.prog w = .ok (.bool true) w := by rfl
theorem kept_set {w : World} {p a : Addr} {v x : Value} (h : p ≠ a) (hc : w.cell? a = some x) : (w.setCell p v).cell? a = some x := by rw [World.cell?_setCell_other (h := h)]; exact hc
theorem ad_ne {a b i j : Nat} (h : a ≠ b) : (⟨a, i, none⟩ : Addr) ≠ ⟨b, j, none⟩ := fun e => h (congrArg Addr.block e)
theorem off_ne {a i j : Nat} (h : i ≠ j) : (⟨a, i, none⟩ : Addr) ≠ ⟨a, j, none⟩ := fun e => h (congrArg Addr.off e)
theorem not_three {a b c d : Nat} (h1 : a ≠ b) (h2 : a ≠ c) (h3 : a ≠ d) : a ∉ [b, c, d] := by simp [h1, h2, h3]
theorem else_self {w a : World} {t : List Nat} {b o : Nat} {u : Value} (h : Else t w a) (hb : b ∈ t) : Else t w (a.setCell ⟨b, o, none⟩ u) := h.set (.inl hb) u
theorem Else.wide {p g : Nat} {a c : World} (h : Else [p, g] a c) (b : Nat) : Else [b, p, g] a c := h.more (by intro k hk; simp at hk ⊢; exact .inr hk)
theorem Else.wide1 {b : Nat} {a c : World} (h : Else [b] a c) (p g : Nat) : Else [b, p, g] a c := h.more (by intro k hk; simp at hk ⊢; exact .inl hk)
theorem read_xs (s : St) (k i : Int) (y : Bool) : (s.hit k i (s.get i) y).xs = s.xs := by
  unfold St.hit St.get
  dsimp only
  refine List.ext_getElem? fun j => ?_
  rw [List.getElem?_set]
  split
  · rename_i e; subst e
    split
    · rename_i h; simp [List.getD, h]
    · rename_i h; simp at h; simp [h]
  · rfl
end Go.Proofs.Ytalglhgngedjoaa

/-
  Slices of ints: one that is read (Rd), one that is the beginning of a block of its own, or nil (Ints); append, slices.Clone, the reference's SameInts. (Layers without a stack; the stack's texts have the same in Ints, Stack1, App, Lists.)
-/
namespace Go.Proofs.Ytalglhgngedjoaa
open Go.RowKit
set_option maxRecDepth 100000

/-- The slice v reads as xs. -/
def Rd (w : World) (v : Value) (xs : List Int) : Prop :=
  ∃ A cap, v = .slice A xs.length cap ∧ xs.length ≤ maxLen ∧ ∀ j, j < xs.length → ∃ g off, A = some ⟨g, off, none⟩ ∧ w.cell? ⟨g, off + j, none⟩ = some (.int .i64 (xs.getD j 0))
/-- The slice v is the beginning of a block of its own, or nil, and reads as xs. -/
def Ints (w : World) (v : Value) (xs : List Int) : Prop := w.ownsRow 0 3 1 v xs.length (xs.map (Value.int .i64))
/-- None of the blocks l is the slice's. -/
def Away (v : Value) (l : List Nat) : Prop := ∀ k, k ∈ l → v.ownBlock ≠ some k
theorem Rd.else {w w' : World} {v : Value} {xs : List Int} {l : List Nat} (h : Rd w v xs) (u : Else l w w') (a : Away v l) : Rd w' v xs := by
  obtain ⟨A, cap, rfl, hm, hc⟩ := h
  refine ⟨A, cap, rfl, hm, fun j hj => ?_⟩
  obtain ⟨g, off, rfl, h1⟩ := hc j hj
  exact ⟨g, off, rfl, u.kept h1 (fun hk => a _ hk rfl)⟩
theorem Rd.up {w w' : World} {v : Value} {xs : List Int} (h : Rd w v xs) (u : Up w w') : Rd w' v xs := by
  obtain ⟨A, cap, rfl, hm, hc⟩ := h
  refine ⟨A, cap, rfl, hm, fun j hj => ?_⟩
  obtain ⟨g, off, rfl, h1⟩ := hc j hj
  exact ⟨g, off, rfl, u.kept h1⟩
theorem Rd.nil (w : World) : Rd w (.slice none 0 0) [] := ⟨none, 0, rfl, Nat.zero_le _, fun j hj => absurd hj (by simp)⟩
theorem Ints.nil (w : World) : Ints w (.slice none 0 0) [] := ⟨rfl, .inl ⟨rfl, rfl⟩⟩
theorem Ints.up {w w' : World} {v : Value} {xs : List Int} (h : Ints w v xs) (u : Up w w') : Ints w' v xs := own_up h u
theorem Ints.else {w w' : World} {v : Value} {xs : List Int} {l : List Nat} (h : Ints w v xs) (u : Else l w w') (a : Away v l) : Ints w' v xs := by
  refine ⟨h.1, ?_⟩
  rcases h.2 with h | ⟨g, cap, cur, rfl, hb, hh, r⟩
  · exact .inl h
  · exact .inr ⟨g, cap, cur, rfl, hb, u.heap hh (fun hk => a _ hk rfl), r⟩
theorem Ints.grown {w w' : World} {v : Value} {xs : List Int} {row : Option Nat} (h : Ints w v xs) (u : w.grownBy w' row) (a : row ≠ v.ownBlock ∨ v.ownBlock = none) : Ints w' v xs := by
  refine ⟨h.1, ?_⟩
  rcases h.2 with h | ⟨g, cap, cur, rfl, hb, hh, r⟩
  · exact .inl h
  · refine .inr ⟨g, cap, cur, rfl, hb, (u.block g (some_lt hh) ?_).trans hh, r⟩
    rcases a with a | a
    · intro e; exact a (by rw [← e]; rfl)
    · simp [Value.ownBlock] at a
theorem Ints.rd {w : World} {v : Value} {xs : List Int} (h : Ints w v xs) : Rd w v xs := by
  rcases h.2 with ⟨rfl, h0⟩ | ⟨g, cap, cur, rfl, hb, hh, hn, hm, hs, ht⟩
  · have : xs = [] := List.length_eq_zero_iff.1 h0
    subst this; exact Rd.nil w
  · refine ⟨_, _, rfl, Nat.le_trans hn hm, fun j hj => ⟨g, 0, rfl, ?_⟩⟩
    obtain ⟨g', e, hc⟩ := own_cell h hj
    injection e with e; injection e with e; subst e
    rw [Nat.zero_add, hc]
    simp [List.getD, hj]
theorem Ints.lt {w : World} {v : Value} {xs : List Int} (h : Ints w v xs) {k : Nat} (hk : v.ownBlock = some k) : k < w.heap.size := by
  rcases h.2 with ⟨rfl, _⟩ | ⟨g, cap, cur, rfl, _, hh, _⟩
  · simp [Value.ownBlock] at hk
  · simp [Value.ownBlock] at hk; subst hk; exact some_lt hh
theorem Ints.slice {w : World} {v : Value} {xs : List Int} (h : Ints w v xs) : ∃ A cap, v = .slice A xs.length cap := own_slice h
theorem Rd.slice {w : World} {v : Value} {xs : List Int} (h : Rd w v xs) : ∃ A cap, v = .slice A xs.length cap := by
  obtain ⟨A, cap, e, _⟩ := h; exact ⟨A, cap, e⟩
theorem Rd.len {w : World} {v : Value} {xs : List Int} (h : Rd w v xs) : xs.length ≤ maxLen := by
  obtain ⟨A, cap, _, e, _⟩ := h; exact e
theorem Rd.cell {w : World} {A : Option Addr} {cap n : Nat} {xs : List Int} (h : Rd w (.slice A n cap) xs) {j : Nat} (hj : j < xs.length) : ∃ g off, A = some ⟨g, off, none⟩ ∧ w.cell? ⟨g, off + j, none⟩ = some (.int .i64 (xs.getD j 0)) := by
  obtain ⟨A', cap', e, _, hc⟩ := h
  injection e with e1; subst e1; exact hc j hj

theorem take_get {xs : List Int} {k : Nat} (h : k < xs.length) : xs.take (k + 1) = xs.take k ++ [xs.getD k 0] := by
  rw [List.take_add_one]; simp [List.getD, h]
theorem get_mem {xs : List Int} {k : Nat} (h : k < xs.length) : xs.getD k 0 ∈ xs := by simp [List.getD, h]
theorem info_int : (Try.prog.info? 3).map (fun i => (i.zero, i.size, i.bytes)) = some (some (.int .i64 0), 1, 8) := by kernel_rfl
theorem one_ints (xs : List Int) : ∀ u ∈ xs.map (Value.int .i64), u.oneCell' = true := by
  intro u hu; obtain ⟨x, _, rfl⟩ := List.mem_map.1 hu; rfl
theorem Rd.news {w w' : World} {b off n cap : Nat} {xs : List Int} (h : Rd w (.slice (some ⟨b, off, none⟩) n cap) xs) (u : Up w w') : ∀ j x, (xs.map (Value.int .i64))[j]? = some x → w'.cell? ((⟨b, off, none⟩ : Addr).add j) = some x := by
  intro j x hx
  have hj : j < xs.length := by
    rcases Nat.lt_or_ge j xs.length with h | h
    · exact h
    · rw [List.getElem?_eq_none (by simpa using h)] at hx; cases hx
  obtain ⟨g, o, e, hc⟩ := h.cell hj
  injection e with e; injection e with e1 e2; subst e1 e2
  have hadd : (⟨b, off, none⟩ : Addr).add j = ⟨b, off + j, none⟩ := by
    unfold Addr.add; split
    · subst_vars; rfl
    · rfl
  rw [hadd, u.kept hc]
  simp [hj] at hx
  rw [← hx]
  simp [List.getD, hj]
theorem own_empty (w : World) : (w.alloc (.cells #[] 3)).ownsRow w.heap.size 3 1 (.slice (some ⟨w.heap.size, 0, none⟩) 0 0) 0 [] :=
  ⟨rfl, .inr ⟨w.heap.size, 0, #[], rfl, Nat.le_refl _, heap_alloc_new w _, Nat.le_refl _, Nat.zero_le _, rfl, rfl⟩⟩
theorem ints_of_own {w : World} {base n : Nat} {v : Value} {vs : List Value} {xs : List Int} (h : w.ownsRow base 3 1 v n vs) (hn : n = xs.length) (hv : vs = xs.map (Value.int .i64)) : Ints w v xs := by
  subst hn hv
  refine ⟨h.1, h.2.imp id fun ⟨g, cap, cur, hv, hb, r⟩ => ⟨g, cap, cur, hv, Nat.zero_le _, r⟩⟩
set_option maxHeartbeats 1000000 in
theorem clone_nil (w : World) : Calls Try.prog 75 #[.slice none 0 0] w fun e w' => e = .returned (.slice none 0 0) ∧ w = w' := by
  have q1 : ∀ (w : World) (a : Option Addr) (n c n' c' : Nat), (binOp .eql 22 (.slice a n c) (.slice none n' c')).run Try.prog w = .ok (.bool a.isNone) w := fun w a n c n' c' => Lib.run_eql_slice_nil w _ _ a n c n' c' Try.underlying22
  go_enter Try.func75, Try.ntmps75
  go_wp2_with fail
  go_ret
  exact ⟨rfl, rfl⟩
set_option maxHeartbeats 1000000 in
theorem clone_in {w : World} {v : Value} {xs : List Int} (R : Rd w v xs) (h : xs ≠ []) (hl : xs.length ≤ 8192) :
    Calls Try.prog 75 #[v] w fun e w' => ∃ b cap, e = .returned (.slice (some ⟨b, 0, none⟩) xs.length cap) ∧ Ints w' (.slice (some ⟨b, 0, none⟩) xs.length cap) xs ∧ w.heap.size ≤ b ∧ b < w'.heap.size ∧ Up w w' := by
  have hp := List.length_pos_iff.2 h
  obtain ⟨A, cap, rfl⟩ := R.slice
  obtain ⟨b, off, rfl, _⟩ := R.cell hp
  have HN := Lib.hid (R.news (Up.alloc w (.cells #[] 3)))
  have q1 : ∀ (w : World) (a : Option Addr) (n c n' c' : Nat), (binOp .eql 22 (.slice a n c) (.slice none n' c')).run Try.prog w = .ok (.bool a.isNone) w := fun w a n c n' c' => Lib.run_eql_slice_nil w _ _ a n c n' c' Try.underlying22
  obtain ⟨i9, hi, hz0, hz1, hz2⟩ := info_parts info_int
  have g63 : 0 + xs.length ≤ maxLen := by unfold maxLen; omega
  have gby : (0 + xs.length) * 8 ≤ 140737488355328 := by omega
  have gba : w.heap.size ≤ (w.alloc (.cells #[] 3)).heap.size := by simp
  have hb0 : (w.alloc (.cells #[] 3)).heap.size = w.heap.size + 1 := by simp
  clear R h
  go_enter Try.func75, Try.ntmps75
  go_wp2_with (at_builtin; refine wpList_append_lies _ rfl _ _ 22 rfl w.heap.size 3 i9 (.int .i64 0) 1 8 Try.underlying22 hi hz0 hz1 hz2 rfl (by decide) (.slice (some ⟨w.heap.size, 0, none⟩) 0 0) 0 [] rfl (own_empty w) ⟨b, off, none⟩ xs.length cap (xs.map (Value.int .i64)) rfl (by simp) HN.out (one_ints xs) hp g63 gby gba _ hb0 ?_; intro gg cap2 wD hownD hgrow hat hltD; have HO := Lib.hid hownD; have HG := Lib.hid hgrow; clear hownD hgrow)
  go_ret
  refine ⟨gg, cap2, by simp, by simpa using ints_of_own HO.out (by simp) (by simp), ?_, hltD, ((Up.refl _).then_alloc _).grown HG.out (fun k hk => by simp [Value.ownBlock] at hk; omega)⟩
  rcases hat with h | h
  · simp [Value.ownBlock] at h; omega
  · omega
/-- A slice in a new block, or nil. -/
def Fresh (w : World) (v : Value) : Prop := ∀ k, v.ownBlock = some k → w.heap.size ≤ k
theorem fresh_nil (w : World) : Fresh w (.slice none 0 0) := fun k hk => by simp [Value.ownBlock] at hk
section
variable {w w1 w' : World} {v v2 : Value} {xs ys : List Int}
theorem run_app (ty : TypeId) (J : Ints w v xs) (R : Rd w v2 ys) (hl : xs.length + ys.length ≤ 8192) :
    ∃ v' w', (Builtin.append_ #[22, 22] ty #[v, v2]).run Try.prog w = .ok v' w' ∧ Ints w' v' (xs ++ ys) ∧ w.grownBy w' v.ownBlock ∧ (v'.ownBlock = v.ownBlock ∨ v'.ownBlock = some w.heap.size) := by
  obtain ⟨i9, hi, hz0, hz1, hz2⟩ := info_parts info_int
  by_cases h0 : ys = []
  · subst h0
    obtain ⟨A, cap, rfl⟩ := R.slice
    refine ⟨v, w, ?_, by simpa using J, ⟨rfl, rfl, rfl, Nat.le_refl _, fun _ _ _ => rfl⟩, .inl rfl⟩
    have hf : (Builtin.firstCells i9.size 0 (.slice A 0 cap)).run Try.prog w = .ok #[] w := by
      cases A with
      | none => exact run_firstCells_none _ _ _ _ _
      | some a => exact run_firstCells_some (P := Try.prog) w i9.size 0 a 0 cap [] (by simp) (by simp)
    rcases J.2 with ⟨rfl, _⟩ | ⟨g, c, cur, rfl, _, hg, hc, _⟩
    · simp [Builtin.append_, run_underlying Try.underlying22, sizeOf, typeInfo, hi, Builtin.lenOf, hf]
    · have hc2 : xs.length ≤ c := hc
      simp [Builtin.append_, run_underlying Try.underlying22, sizeOf, typeInfo, hi, Builtin.lenOf, hf, hc2, storeCells]
  · have hp := List.length_pos_iff.2 h0
    obtain ⟨A, cap, rfl⟩ := R.slice
    obtain ⟨b, off, rfl, _⟩ := R.cell hp
    obtain ⟨g, c, w', hr, h2, h3, h4, h5⟩ := run_append_lies (P := Try.prog) w 22 ty 0 3 i9 (.int .i64 0) 1 8 Try.underlying22 hi hz0 hz1 hz2 rfl (by decide) v xs.length (xs.map (Value.int .i64)) J ⟨b, off, none⟩ ys.length cap (ys.map (Value.int .i64)) (by simp) (R.news (Up.refl _)) (one_ints ys) hp (by unfold maxLen; omega) (by omega) (Nat.zero_le _) _ rfl
    refine ⟨_, w', hr, ints_of_own h2 (by simp) (by simp), h3, ?_⟩
    rcases h4 with h | h
    · exact .inl h.symm
    · exact .inr (by rw [h]; rfl)
theorem wp_app {o : Oper} {a : Act} {K : Act → World → Prop} {Q : Exit → Act → World → Prop} (s x : Operand)
    (ho : o.op = .call { callee := .builtin .append, args := #[s, x], argTypes := #[22, 22] }) (hs : a.eval s = v) (hx : a.eval x = v2) (J : Ints w v xs) (R : Rd w v2 ys) (hl : xs.length + ys.length ≤ 8192)
    (h : ∀ v' w', Ints w' v' (xs ++ ys) → w.grownBy w' v.ownBlock → (v'.ownBlock = v.ownBlock ∨ v'.ownBlock = some w.heap.size) → K (a.put o.dst v') w') : o.wp Try.prog a w K Q := by
  obtain ⟨v', w', hr, h2, h3, h4⟩ := run_app o.type J R hl
  unfold Oper.wp execOp
  simp only [ho, resolve, invoke, builtin, Sem.run_bind, Sem.run_pure, Result.andThen_ok, List.map_toArray, List.map_cons, List.map_nil, hs, hx, hr]
  exact h v' w' h2 h3 h4
theorem wpList_app {ops : Array Oper} {rest : List Oper} {o : Oper} {a : Act} {Q : Exit → Act → World → Prop} (hgd : o.guard = none) (s x : Operand)
    (ho : o.op = .call { callee := .builtin .append, args := #[s, x], argTypes := #[22, 22] }) (hs : a.eval s = v) (hx : a.eval x = v2) (J : Ints w v xs) (R : Rd w v2 ys) (hl : xs.length + ys.length ≤ 8192)
    (h : ∀ v' w', Ints w' v' (xs ++ ys) → w.grownBy w' v.ownBlock → (v'.ownBlock = v.ownBlock ∨ v'.ownBlock = some w.heap.size) → wpList Try.prog ops Q rest (a.put o.dst v') w') : wpList Try.prog ops Q (o :: rest) a w :=
  wpList_plain hgd fun _ hK => wp_app s x ho hs hx J R hl fun v' w' h2 h3 h4 => hK _ _ (h v' w' h2 h3 h4)
/-- The same where the operation stands behind a guard that is met. -/
theorem wpList_appG {ops : Array Oper} {rest : List Oper} {o : Oper} {a : Act} {Q : Exit → Act → World → Prop} (hgd : Region.wanted o (yielded ops a.tmps) = true) (s x : Operand)
    (ho : o.op = .call { callee := .builtin .append, args := #[s, x], argTypes := #[22, 22] }) (hs : a.eval s = v) (hx : a.eval x = v2) (J : Ints w v xs) (R : Rd w v2 ys) (hl : xs.length + ys.length ≤ 8192)
    (h : ∀ v' w', Ints w' v' (xs ++ ys) → w.grownBy w' v.ownBlock → (v'.ownBlock = v.ownBlock ∨ v'.ownBlock = some w.heap.size) → wpList Try.prog ops Q rest (a.put o.dst v') w') : wpList Try.prog ops Q (o :: rest) a w :=
  wpList_step fun K hK => by
    rw [hgd, if_pos rfl]
    exact wp_app s x ho hs hx J R hl fun v' w' h2 h3 h4 => hK _ _ (h v' w' h2 h3 h4)
theorem ints_new (w : World) (a : Int) : Ints (w.alloc (.cells #[.int .i64 a] 3)) (.slice (some ⟨w.heap.size, 0, none⟩) 1 1) [a] :=
  ⟨rfl, .inr ⟨w.heap.size, 1, _, rfl, Nat.zero_le _, heap_alloc_new w _, Nat.le_refl _, by unfold maxLen; omega, rfl, rfl⟩⟩
/-- Whatever it was appended to: what was there is there, but for the row itself. -/
theorem up_app {a : World} (u : Up a w) (hg : w.grownBy w' v.ownBlock) (F : Fresh a v) : Up a w' := u.grown hg fun k hk => F k hk
theorem fresh_app {a : World} {v' : Value} (F : Fresh a v) (u : a.heap.size ≤ w.heap.size) (h : v'.ownBlock = v.ownBlock ∨ v'.ownBlock = some w.heap.size) : Fresh a v' := by
  intro k hk
  rcases h with h | h
  · exact F k (h ▸ hk)
  · rw [hk] at h; injection h with h; omega

theorem rd_one (w : World) (a : Int) : Rd (w.alloc (.cells #[.int .i64 a] 3)) (.slice (some ⟨w.heap.size, 0, none⟩) 1 1) [a] := by
  refine ⟨_, _, rfl, by unfold maxLen; simp, fun j hj => ⟨_, _, rfl, ?_⟩⟩
  simp at hj; subst hj
  exact cell_new rfl rfl
theorem rd_two (w : World) (a b : Int) : Rd (w.alloc (.cells #[.int .i64 a, .int .i64 b] 3)) (.slice (some ⟨w.heap.size, 0, none⟩) 2 2) [a, b] := by
  refine ⟨_, _, rfl, by unfold maxLen; simp, fun j hj => ⟨_, _, rfl, ?_⟩⟩
  have : j = 0 ∨ j = 1 := by simp at hj; omega
  rcases this with rfl | rfl
  · exact cell_new rfl rfl
  · exact cell_new rfl rfl
end
end Go.Proofs.Ytalglhgngedjoaa

/-
  A function turned at one place. No program is named here.
-/
namespace Go.Proofs.Ytalglhgngedjoaa
def put {α : Type} (f : Nat → α) (k : Nat) (x : α) : Nat → α := fun j => if j = k then x else f j
@[simp] theorem put_same {α : Type} (f : Nat → α) (k : Nat) (x : α) : put f k x k = x := by simp [put]
theorem put_other {α : Type} (f : Nat → α) {j k : Nat} (x : α) (h : j ≠ k) : put f k x j = f j := by simp [put, h]
theorem put_put {α : Type} (f : Nat → α) (k : Nat) (a b : α) : put (put f k a) k b = put f k b := by funext j; unfold put; split <;> rfl
theorem three {P : Nat → Prop} (h0 : P 0) (h1 : P 1) (h2 : P 2) : ∀ k, k < 3 → P k := by
  intro k hk
  have : k = 0 ∨ k = 1 ∨ k = 2 := by omega
  rcases this with rfl | rfl | rfl <;> assumption
end Go.Proofs.Ytalglhgngedjoaa
