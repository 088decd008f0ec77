/-
  Package limbo: the contracts of Bucket and Len.
-/
import Derived.Test.YthajdabdiaogiaaLimbo4
namespace Go.Proofs.Ythajdabdiaogiaa
open Go.RowKit
set_option maxRecDepth 100000
section
variable {w w' : World} {q : Nat} {F : List Nat} {S : Lb} {V : Nat → Value} {v : Value}
theorem fresh_of_le {a b : World} (Fr : Fresh b v) (h : a.heap.size ≤ b.heap.size) : Fresh a v := fun k hk => Nat.le_trans h (Fr k hk)
set_option maxHeartbeats 2000000 in
theorem bucket_0 (E : Lim w q F S) (hl : (S.L 0).length ≤ 8192) : Calls Try.prog 18 #[.pointer (some ⟨q, 0, none⟩), .int .i64 0] w fun e w' => ∃ v, e = .returned (.tuple #[.int .i64 (S.T 0), v]) ∧ Ints w' v (S.L 0) ∧ Fresh w v ∧ Up w w' := by
  obtain ⟨V, E⟩ := E
  obtain ⟨c0, c1, c2, c3, c4, c5, c6⟩ := E.cells
  obtain ⟨A0, d0, A1, d1, A2, d2, v0, v1, v2⟩ := E.slices
  have HR := Lib.hid (E.ints 0 (by decide)).rd
  rw [v0] at c1
  rw [v1] at c3
  rw [v2] at c5
  rw [v0] at HR
  clear E v0 v1 v2
  go_enter Try.func18, Try.ntmps18
  go_upto_region 4 with fail
  obtain ⟨w1, hw1⟩ : ∃ w1, w.alloc (.cells #[.int .i64 (S.T 0), .slice A0 (S.L 0).length d0] 49) = w1 := ⟨_, rfl⟩
  have x0 : w1.cell? ⟨w.heap.size, 0, none⟩ = some (.int .i64 (S.T 0)) := by rw [← hw1]; exact cell_new rfl rfl
  have x1 : w1.cell? ⟨w.heap.size, 1, none⟩ = some (.slice A0 (S.L 0).length d0) := by rw [← hw1]; exact cell_new rfl rfl
  have HU := Lib.hid (show Up w w1 by rw [← hw1]; exact Up.alloc _ _)
  rw [hw1]
  clear hw1 c0 c1 c2 c3 c4 c5 c6
  have HR1 := Lib.hid (HR.out.up HU.out)
  clear HR
  go_region_held3 (fun w' => w'.cell? ⟨w.heap.size, 0, none⟩ = some (.int .i64 (S.T 0)) ∧ w'.cell? ⟨w.heap.size, 1, none⟩ = some (.slice A0 (S.L 0).length d0))
    ((first | exact ⟨x0, x1⟩ | exact ⟨U9.kept x0, U9.kept x1⟩))
    (first | (go_at_call 25; refine (clone_any (HR1.out.up (up_drew _)) hl).mono ?_; rintro e w9 ⟨v9, rfl, J9, F9, U9⟩))
  all_goals
    go_wp2_with fail
    go_ret2
    exact ⟨_, rfl, J9, fresh_of_le F9 HU.out.size, HU.out.trans ((up_drew _).trans U9)⟩
set_option maxHeartbeats 2000000 in
theorem bucket_1 (E : Lim w q F S) (hl : (S.L 1).length ≤ 8192) : Calls Try.prog 18 #[.pointer (some ⟨q, 0, none⟩), .int .i64 1] w fun e w' => ∃ v, e = .returned (.tuple #[.int .i64 (S.T 1), v]) ∧ Ints w' v (S.L 1) ∧ Fresh w v ∧ Up w w' := by
  obtain ⟨V, E⟩ := E
  obtain ⟨c0, c1, c2, c3, c4, c5, c6⟩ := E.cells
  obtain ⟨A0, d0, A1, d1, A2, d2, v0, v1, v2⟩ := E.slices
  have HR := Lib.hid (E.ints 1 (by decide)).rd
  rw [v0] at c1
  rw [v1] at c3
  rw [v2] at c5
  rw [v1] at HR
  clear E v0 v1 v2
  go_enter Try.func18, Try.ntmps18
  go_upto_region 4 with fail
  obtain ⟨w1, hw1⟩ : ∃ w1, w.alloc (.cells #[.int .i64 (S.T 1), .slice A1 (S.L 1).length d1] 49) = w1 := ⟨_, rfl⟩
  have x0 : w1.cell? ⟨w.heap.size, 0, none⟩ = some (.int .i64 (S.T 1)) := by rw [← hw1]; exact cell_new rfl rfl
  have x1 : w1.cell? ⟨w.heap.size, 1, none⟩ = some (.slice A1 (S.L 1).length d1) := by rw [← hw1]; exact cell_new rfl rfl
  have HU := Lib.hid (show Up w w1 by rw [← hw1]; exact Up.alloc _ _)
  rw [hw1]
  clear hw1 c0 c1 c2 c3 c4 c5 c6
  have HR1 := Lib.hid (HR.out.up HU.out)
  clear HR
  go_region_held3 (fun w' => w'.cell? ⟨w.heap.size, 0, none⟩ = some (.int .i64 (S.T 1)) ∧ w'.cell? ⟨w.heap.size, 1, none⟩ = some (.slice A1 (S.L 1).length d1))
    ((first | exact ⟨x0, x1⟩ | exact ⟨U9.kept x0, U9.kept x1⟩))
    (first | (go_at_call 25; refine (clone_any (HR1.out.up (up_drew _)) hl).mono ?_; rintro e w9 ⟨v9, rfl, J9, F9, U9⟩))
  all_goals
    go_wp2_with fail
    go_ret2
    exact ⟨_, rfl, J9, fresh_of_le F9 HU.out.size, HU.out.trans ((up_drew _).trans U9)⟩
set_option maxHeartbeats 2000000 in
theorem bucket_2 (E : Lim w q F S) (hl : (S.L 2).length ≤ 8192) : Calls Try.prog 18 #[.pointer (some ⟨q, 0, none⟩), .int .i64 2] w fun e w' => ∃ v, e = .returned (.tuple #[.int .i64 (S.T 2), v]) ∧ Ints w' v (S.L 2) ∧ Fresh w v ∧ Up w w' := by
  obtain ⟨V, E⟩ := E
  obtain ⟨c0, c1, c2, c3, c4, c5, c6⟩ := E.cells
  obtain ⟨A0, d0, A1, d1, A2, d2, v0, v1, v2⟩ := E.slices
  have HR := Lib.hid (E.ints 2 (by decide)).rd
  rw [v0] at c1
  rw [v1] at c3
  rw [v2] at c5
  rw [v2] at HR
  clear E v0 v1 v2
  go_enter Try.func18, Try.ntmps18
  go_upto_region 4 with fail
  obtain ⟨w1, hw1⟩ : ∃ w1, w.alloc (.cells #[.int .i64 (S.T 2), .slice A2 (S.L 2).length d2] 49) = w1 := ⟨_, rfl⟩
  have x0 : w1.cell? ⟨w.heap.size, 0, none⟩ = some (.int .i64 (S.T 2)) := by rw [← hw1]; exact cell_new rfl rfl
  have x1 : w1.cell? ⟨w.heap.size, 1, none⟩ = some (.slice A2 (S.L 2).length d2) := by rw [← hw1]; exact cell_new rfl rfl
  have HU := Lib.hid (show Up w w1 by rw [← hw1]; exact Up.alloc _ _)
  rw [hw1]
  clear hw1 c0 c1 c2 c3 c4 c5 c6
  have HR1 := Lib.hid (HR.out.up HU.out)
  clear HR
  go_region_held3 (fun w' => w'.cell? ⟨w.heap.size, 0, none⟩ = some (.int .i64 (S.T 2)) ∧ w'.cell? ⟨w.heap.size, 1, none⟩ = some (.slice A2 (S.L 2).length d2))
    ((first | exact ⟨x0, x1⟩ | exact ⟨U9.kept x0, U9.kept x1⟩))
    (first | (go_at_call 25; refine (clone_any (HR1.out.up (up_drew _)) hl).mono ?_; rintro e w9 ⟨v9, rfl, J9, F9, U9⟩))
  all_goals
    go_wp2_with fail
    go_ret2
    exact ⟨_, rfl, J9, fresh_of_le F9 HU.out.size, HU.out.trans ((up_drew _).trans U9)⟩
theorem bucket_in (E : Lim w q F S) {k : Nat} (hk : k < 3) (hl : (S.L k).length ≤ 8192) : Calls Try.prog 18 #[.pointer (some ⟨q, 0, none⟩), .int .i64 k] w fun e w' => ∃ v, e = .returned (.tuple #[.int .i64 (S.T k), v]) ∧ Ints w' v (S.L k) ∧ Fresh w v ∧ Up w w' := by
  have : k = 0 ∨ k = 1 ∨ k = 2 := by omega
  rcases this with rfl | rfl | rfl
  · exact bucket_0 E hl
  · exact bucket_1 E hl
  · exact bucket_2 E hl
end
end Go.Proofs.Ythajdabdiaogiaa
