/-
  Texts beneath RootsPlay, part 3: Word, QuietUp, CellsMore.
-/
import Derived.Test.YtalglhgngedjoaaGreatPart2
import Derived.BigQuiet
import Derived.Deep.RegionHeld3
import Derived.Deep.DrawnRows
import Derived.StillTailTactics
import Derived.Deep.DeepCutAuto
import Derived.Laws.EntriesVeiled
/-
  The contracts of package word: heads, roots, pins as plain numbers.
-/
namespace Go.Proofs.YtalglhgngedjoaaGreat
open W64

theorem put_at_yes' {x v : Int} (X V : BitVec 64) (hx : x = U X) (hv : v = U V) (a n : Int) (w : World) {r : Int} (h : putB a n V = true) (hr : U (putV X a n V) = r) :
    Calls Tryz.prog 141 #[.int .u64 x, .int .i64 a, .int .i64 n, .int .u64 v] w fun e w' => e = .returned (.tuple #[.int .u64 r, .bool true]) ∧ ∃ m, w' = w.drewN m := by
  subst hx hv hr; exact put_yes X a n V w h
theorem get_at' {x : Int} (X : BitVec 64) (hx : x = U X) (a n : Int) (w : World) {r : Int} (hr : U (getW X a n) = r) :
    Calls Tryz.prog 123 #[.int .u64 x, .int .i64 a, .int .i64 n] w fun e w' => e = .returned (.int .u64 r) ∧ ∃ m, w' = w.drewN m := by
  subst hx hr; exact get_any X a n w

set_option maxHeartbeats 400000 in
theorem within_any (n a b : Int) (w : World) :
    Calls Tryz.prog 133 #[.int .i64 n, .int .i64 a, .int .i64 b] w fun e w' => e = .returned (.bool (inB n a b)) ∧ w = w' := by
  go_enter Tryz.func133, Tryz.ntmps133
  go_wp2
  all_goals
    go_ret
    refine ⟨ret_bool ?_, rfl⟩
    unfold inB
    simp [*]
  all_goals omega

set_option maxHeartbeats 400000 in
theorem wput_any {x v : Int} (a n : Int) (P Q : Nat) (w : World) (hf : fieldB a n = true) (hP : 2 ^ a.toNat = P) (hQ : 2 ^ n.toNat = Q) (hPQ : P * Q ≤ 18446744073709551616)
    (hx0 : 0 ≤ x) (hx : x < P) (hv0 : 0 ≤ v) (hv : v < Q) :
    Calls Tryz.prog 134 #[.int .u64 x, .int .i64 a, .int .i64 n, .int .i64 v] w fun e w' => e = .returned (.int .u64 (x + v * P)) ∧ ∃ m, w' = w.drewN m := by
  have b1 : x < 18446744073709551616 ∧ v < 18446744073709551616 := by
    have p1 : 0 < P := by omega
    have q1 : 0 < Q := by omega
    have := Nat.le_mul_of_pos_right P q1
    have := Nat.le_mul_of_pos_left Q p1
    omega
  have ux := Lib.hid (U_mk hx0 b1.1).symm
  have uv := Lib.hid (U_mk hv0 b1.2).symm
  have hw := Lib.hid (show IntKind.u64.wrap v = v by rw [IntKind.wrap_u64]; omega)
  have hr := Lib.hid (put_num (BitVec.ofNat 64 x.toNat) (BitVec.ofNat 64 v.toNat) hf hP hQ (by rw [← ux.out]; exact hx) (by rw [← uv.out]; exact hv) hPQ)
  have hb := Lib.hid (show putB a n (BitVec.ofNat 64 v.toNat) = true by
    obtain ⟨h0, h1, _, _⟩ := fieldB_iff.1 hf
    unfold putB; rw [hf, fits_num h0 h1 hQ (by rw [← uv.out]; exact hv)]; rfl)
  have F := Lib.hid hf
  clear hf hP hQ
  go_enter Tryz.func134, Tryz.ntmps134
  go_wp2_with (go_at_call 141; refine (put_at_yes' (BitVec.ofNat 64 x.toNat) (BitVec.ofNat 64 v.toNat) ux.out ?_ _ _ _ hb.out hr.out).mono ?_)
  · first | exact uv.out | (rw [hw.out]; exact uv.out)
  · rintro e w' ⟨rfl, m, rfl⟩
    go_wp2
    go_ret
    refine ⟨ret_int ?_, m, rfl⟩
    rw [← ux.out, ← uv.out]

set_option maxHeartbeats 400000 in
theorem wget_any {x : Int} (a n : Int) (P Q : Nat) (w : World) (hf : fieldB a n = true) (hP : 2 ^ a.toNat = P) (hQ : 2 ^ n.toNat = Q) (hQ2 : Q ≤ 9223372036854775808)
    (hx0 : 0 ≤ x) (hx : x < 18446744073709551616) :
    Calls Tryz.prog 97 #[.int .u64 x, .int .i64 a, .int .i64 n] w fun e w' => e = .returned (.int .i64 (x / P % Q)) ∧ ∃ m, w' = w.drewN m := by
  have q1 : 0 < Q := by have := Nat.two_pow_pos n.toNat; omega
  have ux := Lib.hid (U_mk hx0 hx).symm
  have hr := Lib.hid (get_num (BitVec.ofNat 64 x.toNat) hf hP hQ)
  have hw := Lib.hid (show RowKit.wrap64 (x / P % Q) = x / P % Q by
    have := Int.emod_nonneg (x / P) (show (Q : Int) ≠ 0 by omega)
    have := Int.emod_lt_of_pos (x / P) (show (0 : Int) < Q by omega)
    exact wrap64_in (by omega) (by omega))
  have hr' := Lib.hid (show U (getW (BitVec.ofNat 64 x.toNat) a n) = x / P % Q by rw [hr.out, ← ux.out])
  clear hf hP hQ hr
  go_enter Tryz.func97, Tryz.ntmps97
  go_wp2_with (go_at_call 123; refine (get_at' _ ux.out _ _ _ hr'.out).mono ?_; rintro e w' ⟨rfl, m, rfl⟩)
  go_ret
  exact ⟨ret_int hw.out, m, rfl⟩

/-! ### Heads -/
theorem up_box (w : World) (o : Obj) (m : Nat) : Up w ((w.alloc o).drewN m) := (Up.alloc _ _).then_drewN m
theorem up_box2 (w : World) (o p : Obj) : Up w ((w.alloc o).alloc p) := (Up.alloc _ _).then_alloc _

set_option maxHeartbeats 400000 in
theorem putHead_yes (i t : Int) (w : World) (h : headB i t = true) :
    Calls Tryz.prog 116 #[.agg #[.int .i64 i, .int .i64 t]] w fun e w' => e = .returned (.tuple #[.int .u64 (headN i t), .bool true]) ∧ Up w w' := by
  obtain ⟨⟨i0, i1⟩, t0, t1⟩ := headB_iff.1 h
  have c1 := inB_iff.2 ⟨i0, i1⟩
  have c2 := inB_iff.2 ⟨t0, t1⟩
  clear h
  go_enter Tryz.func116, Tryz.ntmps116
  go_wp2_with (first
    | (go_at_call 133; refine (within_any _ _ _ _).mono ?_; rintro e w' ⟨rfl, rfl⟩)
    | (go_at_call 134; (with_reducible refine (wput_any 0 32 1 4294967296 _ (by decide) (by decide) (by decide) (by decide) (by omega) (by omega) (by omega) (by omega)).mono ?_); rintro e w' ⟨rfl, m1, rfl⟩)
    | (go_at_call 134; (with_reducible refine (wput_any 32 32 4294967296 4294967296 _ (by decide) (by decide) (by decide) (by decide) (by omega) (by omega) (by omega) (by omega)).mono ?_); rintro e w' ⟨rfl, m2, rfl⟩))
  go_ret2
  exact ⟨rfl, up_box _ _ _⟩

set_option maxHeartbeats 400000 in
theorem putHead_no (i t : Int) (w : World) (h : headB i t = false) :
    Calls Tryz.prog 116 #[.agg #[.int .i64 i, .int .i64 t]] w fun e w' => e = .returned (.tuple #[.int .u64 0, .bool false]) ∧ Up w w' := by
  unfold headB at h
  cases c1 : inB i (-1) 4294967294
  · clear h
    go_enter Tryz.func116, Tryz.ntmps116
    go_wp2_with (go_at_call 133; refine (within_any _ _ _ _).mono ?_; rintro e w' ⟨rfl, rfl⟩)
    go_ret2
    exact ⟨rfl, up_box _ _ 0⟩
  · rw [c1, Bool.true_and] at h
    go_enter Tryz.func116, Tryz.ntmps116
    go_wp2_with (go_at_call 133; refine (within_any _ _ _ _).mono ?_; rintro e w' ⟨rfl, rfl⟩)
    go_ret2
    exact ⟨rfl, up_box _ _ 0⟩

set_option maxHeartbeats 400000 in
theorem getHead_any (x : Int) (w : World) (h0 : 0 ≤ x) (h1 : x < 18446744073709551616) :
    Calls Tryz.prog 122 #[.int .u64 x] w fun e w' => e = .returned (.agg #[.int .i64 (x % 4294967296 - 1), .int .i64 (x / 4294967296)]) ∧ Up w w' := by
  have hq := Lib.hid (show x / 4294967296 % 4294967296 = x / 4294967296 by omega)
  go_enter Tryz.func122, Tryz.ntmps122
  go_wp2_with (first
    | (go_at_call 97; (with_reducible refine (wget_any 0 32 1 4294967296 _ (by decide) (by decide) (by decide) (by decide) (by omega) (by omega)).mono ?_); rintro e w' ⟨rfl, m1, rfl⟩)
    | (go_at_call 97; (with_reducible refine (wget_any 32 32 4294967296 4294967296 _ (by decide) (by decide) (by decide) (by decide) (by omega) (by omega)).mono ?_); rintro e w' ⟨rfl, m2, rfl⟩))
  refine bodyPost_ret (v := .agg #[.int .i64 (x % 4294967296 - 1), .int .i64 (x / 4294967296)]) (by simp [results, Tryz.results122, go_sem, hq.out]) rfl ⟨rfl, ?_⟩
  exact ((up_box _ _ _).setCell (Nat.le_refl _) _).setCell (Nat.le_refl _) _

set_option maxHeartbeats 400000 in
theorem next_exact (i t index : Int) (w : World) :
    Calls Tryz.prog 145 #[.agg #[.int .i64 i, .int .i64 t], .int .i64 index] w fun e w' => e = .returned (.agg #[.int .i64 index, .int .i64 (nextT t)]) ∧ (w.alloc (.cells #[.int .i64 i, .int .i64 t] 173)).alloc (.cells #[.int .i64 index, .int .i64 (nextT t)] 173) = w' := by
  cases c1 : inB t 0 4294967294
  · have e1 : nextT t = 0 := by unfold nextT; rw [c1]; rfl
    rw [e1]; clear e1
    go_enter Tryz.func145, Tryz.ntmps145
    go_wp2_with (go_at_call 133; refine (within_any _ _ _ _).mono ?_; rintro e w' ⟨rfl, rfl⟩)
    refine bodyPost_ret (v := .agg #[.int .i64 index, .int .i64 0]) (by simp [results, Tryz.results145, go_sem]) rfl ⟨rfl, rfl⟩
  · have e1 : nextT t = t + 1 := by unfold nextT; rw [c1]; rfl
    obtain ⟨t0, t1⟩ := inB_iff.1 c1
    rw [e1]; clear e1
    go_enter Tryz.func145, Tryz.ntmps145
    go_wp2_with (go_at_call 133; refine (within_any _ _ _ _).mono ?_; rintro e w' ⟨rfl, rfl⟩)
    refine bodyPost_ret (v := .agg #[.int .i64 index, .int .i64 (t + 1)]) (by simp [results, Tryz.results145, go_sem]) rfl ⟨rfl, rfl⟩
theorem next_any (i t index : Int) (w : World) :
    Calls Tryz.prog 145 #[.agg #[.int .i64 i, .int .i64 t], .int .i64 index] w fun e w' => e = .returned (.agg #[.int .i64 index, .int .i64 (nextT t)]) ∧ Up w w' :=
  (next_exact i t index w).mono fun _ _ ⟨he, hw⟩ => ⟨he, hw ▸ up_box2 _ _ _⟩

/-! ### Roots -/
set_option maxHeartbeats 400000 in
theorem putRoot_yes (g k c o : Int) (w : World) (h : rootB g k c o = true) :
    Calls Tryz.prog 125 #[.agg #[.int .i64 g, .int .i64 k, .int .i64 c, .int .i64 o]] w fun e w' => e = .returned (.tuple #[.int .u64 (rootN g k c o), .bool true]) ∧ Up w w' := by
  obtain ⟨⟨g0, g1⟩, ⟨k0, k1⟩, ⟨c0, c1⟩, o0, o1⟩ := rootB_iff.1 h
  have d1 := inB_iff.2 ⟨g0, g1⟩
  have d2 := inB_iff.2 ⟨k0, k1⟩
  have d3 := inB_iff.2 ⟨c0, c1⟩
  have d4 := inB_iff.2 ⟨o0, o1⟩
  clear h
  go_enter Tryz.func125, Tryz.ntmps125
  go_wp2_with (first
    | (go_at_call 133; refine (within_any _ _ _ _).mono ?_; rintro e w' ⟨rfl, rfl⟩)
    | (go_at_call 134; (with_reducible refine (wput_any 0 12 1 4096 _ (by decide) (by decide) (by decide) (by decide) (by omega) (by omega) (by omega) (by omega)).mono ?_); rintro e w' ⟨rfl, m1, rfl⟩)
    | (go_at_call 134; (with_reducible refine (wput_any 12 4 4096 16 _ (by decide) (by decide) (by decide) (by decide) (by omega) (by omega) (by omega) (by omega)).mono ?_); rintro e w' ⟨rfl, m2, rfl⟩)
    | (go_at_call 134; (with_reducible refine (wput_any 16 16 65536 65536 _ (by decide) (by decide) (by decide) (by decide) (by omega) (by omega) (by omega) (by omega)).mono ?_); rintro e w' ⟨rfl, m3, rfl⟩)
    | (go_at_call 134; (with_reducible refine (wput_any 32 32 4294967296 4294967296 _ (by decide) (by decide) (by decide) (by decide) (by omega) (by omega) (by omega) (by omega)).mono ?_); rintro e w' ⟨rfl, m4, rfl⟩))
  go_ret2
  exact ⟨rfl, up_box _ _ _⟩

set_option maxHeartbeats 800000 in
theorem putRoot_no (g k c o : Int) (w : World) (h : rootB g k c o = false) :
    Calls Tryz.prog 125 #[.agg #[.int .i64 g, .int .i64 k, .int .i64 c, .int .i64 o]] w fun e w' => e = .returned (.tuple #[.int .u64 0, .bool false]) ∧ Up w w' := by
  unfold rootB at h
  cases d1 : inB g 0 4294967295
  case' true =>
    rw [d1, Bool.true_and] at h
    cases d2 : inB k 0 4097
    case' true =>
      rw [d2, Bool.true_and] at h
      cases d3 : inB c 0 3
      case' true => rw [d3, Bool.true_and] at h
  all_goals
    go_enter Tryz.func125, Tryz.ntmps125
    go_wp2_with (go_at_call 133; refine (within_any _ _ _ _).mono ?_; rintro e w' ⟨rfl, rfl⟩)
    go_ret2
    exact ⟨rfl, up_box _ _ 0⟩

set_option maxHeartbeats 400000 in
theorem getRoot_any (x : Int) (w : World) (h0 : 0 ≤ x) (h1 : x < 18446744073709551616) :
    Calls Tryz.prog 55 #[.int .u64 x] w fun e w' =>
      e = .returned (.agg #[.int .i64 (x / 4294967296), .int .i64 (x / 65536 % 65536), .int .i64 (x / 4096 % 16), .int .i64 (x % 4096)]) ∧ Up w w' := by
  have hq := Lib.hid (show x / 4294967296 % 4294967296 = x / 4294967296 by omega)
  go_enter Tryz.func55, Tryz.ntmps55
  go_wp2_with (first
    | (go_at_call 97; (with_reducible refine (wget_any 0 12 1 4096 _ (by decide) (by decide) (by decide) (by decide) (by omega) (by omega)).mono ?_); rintro e w' ⟨rfl, m1, rfl⟩)
    | (go_at_call 97; (with_reducible refine (wget_any 12 4 4096 16 _ (by decide) (by decide) (by decide) (by decide) (by omega) (by omega)).mono ?_); rintro e w' ⟨rfl, m2, rfl⟩)
    | (go_at_call 97; (with_reducible refine (wget_any 16 16 65536 65536 _ (by decide) (by decide) (by decide) (by decide) (by omega) (by omega)).mono ?_); rintro e w' ⟨rfl, m3, rfl⟩)
    | (go_at_call 97; (with_reducible refine (wget_any 32 32 4294967296 4294967296 _ (by decide) (by decide) (by decide) (by decide) (by omega) (by omega)).mono ?_); rintro e w' ⟨rfl, m4, rfl⟩))
  refine bodyPost_ret (v := .agg #[.int .i64 (x / 4294967296), .int .i64 (x / 65536 % 65536), .int .i64 (x / 4096 % 16), .int .i64 (x % 4096)]) (by simp [results, Tryz.results55, go_sem, hq.out]) rfl ⟨rfl, ?_⟩
  exact ((((up_box _ _ _).setCell (Nat.le_refl _) _).setCell (Nat.le_refl _) _).setCell (Nat.le_refl _) _).setCell (Nat.le_refl _) _

set_option maxHeartbeats 400000 in
theorem live_any (g k c o gen : Int) (w : World) :
    Calls Tryz.prog 101 #[.agg #[.int .i64 g, .int .i64 k, .int .i64 c, .int .i64 o], .int .i64 gen] w fun e w' => e = .returned (.bool (liveB g k gen)) ∧ Up w w' := by
  by_cases h : 1 ≤ k
  · go_enter Tryz.func101, Tryz.ntmps101
    go_wp2
    go_ret
    refine ⟨ret_bool ?_, up_box _ _ 0⟩
    unfold liveB; simp [h]
  · go_enter Tryz.func101, Tryz.ntmps101
    go_wp2
    go_ret
    refine ⟨ret_bool ?_, up_box _ _ 0⟩
    unfold liveB; rw [decide_eq_false (by omega)]; rfl

set_option maxHeartbeats 400000 in
theorem chunk_any (g k c o : Int) (w : World) (k0 : k < 9223372036854775808) :
    Calls Tryz.prog 127 #[.agg #[.int .i64 g, .int .i64 k, .int .i64 c, .int .i64 o]] w fun e w' => e = .returned (.int .i64 (chunkN k)) ∧ Up w w' := by
  by_cases h : k < 2
  · go_enter Tryz.func127, Tryz.ntmps127
    go_wp2
    go_ret
    refine ⟨ret_int ?_, up_box _ _ 0⟩
    unfold chunkN; rw [if_pos h]
  · go_enter Tryz.func127, Tryz.ntmps127
    go_wp2
    go_ret
    refine ⟨ret_int ?_, up_box _ _ 0⟩
    unfold chunkN; rw [if_neg (by omega)]

/-! ### Pins -/
theorem putHead_any (i t : Int) (w : World) :
    Calls Tryz.prog 116 #[.agg #[.int .i64 i, .int .i64 t]] w fun e w' => e = .returned (.tuple #[.int .u64 (headV i t), .bool (headB i t)]) ∧ Up w w' := by
  unfold headV
  cases h : headB i t
  · exact putHead_no i t w h
  · exact putHead_yes i t w h
theorem putRoot_any (g k c o : Int) (w : World) :
    Calls Tryz.prog 125 #[.agg #[.int .i64 g, .int .i64 k, .int .i64 c, .int .i64 o]] w fun e w' => e = .returned (.tuple #[.int .u64 (rootV g k c o), .bool (rootB g k c o)]) ∧ Up w w' := by
  unfold rootV
  cases h : rootB g k c o
  · exact putRoot_no g k c o w h
  · exact putRoot_yes g k c o w h
end Go.Proofs.YtalglhgngedjoaaGreat

/-
  A region that draws its order, whose operations only read and whose callees may make memory of their own: one walk in the order of the text, at the class of the worlds in which of W nothing has turned. No program is named here.
-/
namespace Go.Proofs.YtalglhgngedjoaaGreat
open Go.RowKit

/-- The worlds in which of W nothing has turned. -/
structure UpOf (W : World) where
  w : World
  up : Up W w
instance (W : World) : Nonempty (UpOf W) := ⟨⟨W, Up.refl W⟩⟩
theorem up_drew (w : World) : Up w w.drew := Up.drewN w 1
theorem calls_up {P : Program} {f : FuncId} {args : Array Value} {v : Ending} {W w : World} (u : Up W w) (h : Calls P f args w fun e w' => e = v ∧ Up w w') : Calls P f args w fun e w' => e = v ∧ Up W w' :=
  h.mono fun _ _ ⟨he, hu⟩ => ⟨he, u.trans hu⟩
/-- The beginning. -/
theorem wp_region_up {P : Program} {id : Nat} {Q : Exit → Act → World → Prop} {a : Act} {W w : World} {l : List Oper} (u : Up W w) (hm : P.follows .mixedOrders = true) (hB : Region.lexB .any l.toArray = true)
    (h : wpQuiet P l.toArray (fun w' => ∃ x : UpOf W, w' = x.w) (fun a' => ∀ w', (∃ x : UpOf W, w' = x.w) → Q .normal a' w') l a) : (Code.region id l.toArray true).wp P Q a w :=
  wp_region_quiet (C := fun w' => ∃ x : UpOf W, w' = x.w) hm hB ⟨⟨w.drew, u.trans (up_drew _)⟩, rfl⟩ (by simpa using h)
/-- A region that only reads, its world written out. -/
theorem wp_region_one {P : Program} {id : Nat} {Q : Exit → Act → World → Prop} {a : Act} {w : World} {l : List Oper} (hm : P.follows .mixedOrders = true) (hB : Region.lexB .any l.toArray = true)
    (h : wpQuiet P l.toArray (fun w' => w' = w.drew) (fun a' => ∀ w', w' = w.drew → Q .normal a' w') l a) : (Code.region id l.toArray true).wp P Q a w :=
  wp_region_quiet (C := fun w' => w' = w.drew) hm hB rfl (by simpa using h)
/-- A contract, at the class. -/
theorem up_class {P : Program} {f : FuncId} {args : Array Value} {v : Value} {W : World} {x : UpOf W} (h : Calls P f args x.w fun e w' => e = .returned v ∧ Up x.w w') :
    Calls P f args x.w fun e w' => e = .returned v ∧ ∃ y : UpOf W, w' = y.w :=
  h.mono fun _ w' ⟨he, hu⟩ => ⟨he, ⟨w', x.up.trans hu⟩, rfl⟩
theorem same_class {P : Program} {f : FuncId} {args : Array Value} {v : Value} {W : World} {x : UpOf W} (h : Calls P f args x.w fun e w' => e = .returned v ∧ x.w = w') :
    Calls P f args x.w fun e w' => e = .returned v ∧ ∃ y : UpOf W, w' = y.w :=
  h.mono fun _ _ ⟨he, hu⟩ => ⟨he, x, hu.symm⟩
theorem class_first {P : Program} {f : FuncId} {args : Array Value} {v : Value} {W : World} (h : Calls P f args W fun e w' => e = .returned v ∧ Up W w') :
    Calls P f args W fun e w' => e = .returned v ∧ ∃ y : UpOf W, w' = y.w :=
  h.mono fun _ w' ⟨he, hu⟩ => ⟨he, ⟨w', hu⟩, rfl⟩
theorem cell_class {W : World} {p : Addr} {v : Value} (h : W.cell? p = some v) (x : UpOf W) : x.w.cell? p = some v := x.up.kept h
end Go.Proofs.YtalglhgngedjoaaGreat

/-
  What every package over cells uses: words in each cell (St.Ok), method values, stores elsewhere.
-/
namespace Go.Proofs.YtalglhgngedjoaaGreat
open Go.RowKit
open W64
set_option maxRecDepth 100000

/-- Each cell holds a word. -/
def St.Ok (s : St) : Prop := ∀ i, 0 ≤ s.get i ∧ s.get i < 18446744073709551616
theorem getD_set {xs : List Int} {i j : Nat} {v : Int} : (xs.set i v).getD j 0 = if i = j ∧ j < xs.length then v else xs.getD j 0 := by
  unfold List.getD
  by_cases e : i = j
  · subst e
    by_cases h : i < xs.length
    · simp [h]
    · simp [h]
  · simp [e]
theorem St.Ok.lay {s : St} (h : s.Ok) (i : Int) {v : Int} (h0 : 0 ≤ v) (h1 : v < 18446744073709551616) : (s.lay i v).Ok := by
  intro j
  unfold St.lay St.get
  dsimp only
  rw [getD_set]
  split
  · exact ⟨h0, h1⟩
  · exact h j
theorem St.Ok.hit {s : St} (h : s.Ok) (k i : Int) {v : Int} (y : Bool) (h0 : 0 ≤ v) (h1 : v < 18446744073709551616) : (s.hit k i v y).Ok := by
  have := h.lay i h0 h1
  exact this
theorem St.Ok.zero (n : Nat) : (St.zero n).Ok := by
  intro i
  unfold St.get St.zero
  dsimp only
  have : (List.replicate n (0 : Int)).getD i.toNat 0 = 0 := by
    unfold List.getD
    by_cases h : i.toNat < n <;> simp [h]
  rw [this]; decide
instance (s : St) (i : Int) : Decidable (s.has i) := inferInstanceAs (Decidable (_ ∧ _))
theorem hit_len (s : St) (k i v : Int) (y : Bool) : (s.hit k i v y).xs.length = s.xs.length := by simp [St.hit]
theorem lay_len (s : St) (i v : Int) : (s.lay i v).xs.length = s.xs.length := by simp [St.lay]
/-- A method value of the machine at b. -/
def meth (f : FuncId) (b : Nat) : Value := .func (.func f) #[.pointer (some ⟨b, 0, none⟩)] #[]
theorem run_func (fn : Fn) (first cap : Array Value) (w : World) : (Instr.makeFunc fn first cap).run Tryz.prog w = .ok (.func fn first cap) w := rfl
theorem run_eql_func (f : Fn) (x y : Array Value) (w : World) : (binOp .eql 1 (.func f x y) .nilFunc).run Tryz.prog w = .ok (.bool false) w := by rfl
theorem run_eql_nilFunc (w : World) : (binOp .eql 1 .nilFunc .nilFunc).run Tryz.prog w = .ok (.bool true) w := by rfl
theorem kept_set {w : World} {p a : Addr} {v x : Value} (h : p ≠ a) (hc : w.cell? a = some x) : (w.setCell p v).cell? a = some x := by rw [World.cell?_setCell_other (h := h)]; exact hc
theorem ad_ne {a b i j : Nat} (h : a ≠ b) : (⟨a, i, none⟩ : Addr) ≠ ⟨b, j, none⟩ := fun e => h (congrArg Addr.block e)
theorem off_ne {a i j : Nat} (h : i ≠ j) : (⟨a, i, none⟩ : Addr) ≠ ⟨a, j, none⟩ := fun e => h (congrArg Addr.off e)
theorem not_three {a b c d : Nat} (h1 : a ≠ b) (h2 : a ≠ c) (h3 : a ≠ d) : a ∉ [b, c, d] := by simp [h1, h2, h3]
theorem else_self {w a : World} {t : List Nat} {b o : Nat} {u : Value} (h : Else t w a) (hb : b ∈ t) : Else t w (a.setCell ⟨b, o, none⟩ u) := h.set (.inl hb) u
theorem Else.wide {p g : Nat} {a c : World} (h : Else [p, g] a c) (b : Nat) : Else [b, p, g] a c := h.more (by intro k hk; simp at hk ⊢; exact .inr hk)
theorem Else.wide1 {b : Nat} {a c : World} (h : Else [b] a c) (p g : Nat) : Else [b, p, g] a c := h.more (by intro k hk; simp at hk ⊢; exact .inl hk)
theorem read_xs (s : St) (k i : Int) (y : Bool) : (s.hit k i (s.get i) y).xs = s.xs := by
  unfold St.hit St.get
  dsimp only
  refine List.ext_getElem? fun j => ?_
  rw [List.getElem?_set]
  split
  · rename_i e; subst e
    split
    · rename_i h; simp [List.getD, h]
    · rename_i h; simp at h; simp [h]
  · rfl
end Go.Proofs.YtalglhgngedjoaaGreat
