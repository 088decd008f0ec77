/-
  Texts beneath SupplyAll, part 3: Limbo4, Limbo5, Limbo6.
-/
import Derived.Test.YtkopplnjomkleaaGreatPart2
/-
  Package limbo: the contracts of empty, Bucket, Len; slices.Clone of whatever list.
-/
namespace Go.Proofs.YtkopplnjomkleaaGreat
open Go.RowKit
set_option maxRecDepth 100000
section
variable {w w' : World} {q : Nat} {F : List Nat} {S : Lb} {V : Nat → Value} {v : Value}
theorem LimV.cleared (E : LimV w q F S V) {k : Nat} (hk : k < 3) (u : Else [q] w w')
    (top : Whole w' q 174 #[.int .i64 ((S.clear k).T 0), put V k (.slice none 0 0) 0, .int .i64 ((S.clear k).T 1), put V k (.slice none 0 0) 1, .int .i64 ((S.clear k).T 2), put V k (.slice none 0 0) 2, .int .i64 S.last]) :
    LimV w' q (less F (V k)) (S.clear k) (put V k (.slice none 0 0)) ∧ Ints w' (V k) (S.L k) ∧ Away (V k) (less F (V k)) := by
  refine ⟨⟨top, fun j hj => ?_, mem_less.2 ⟨E.mem, E.nq k hk⟩, fun j hj b hb => ?_, fun j hj hb => ?_, fun i j hi hj hij b hb hb2 => ?_, fun b hb => Nat.lt_of_lt_of_le (E.lt b (mem_less.1 hb).1) u.size, E.ok.clear k⟩, ?_, fun b hb e => ?_⟩
  · unfold Lb.clear put; dsimp only
    split
    · exact Ints.nil _
    · exact (E.ints j hj).else u (fun b hb e => by simp at hb; subst hb; exact E.nq j hj e)
  · unfold put at hb; split at hb
    · simp [Value.ownBlock] at hb
    · exact mem_less.2 ⟨E.inF j hj b hb, fun e => E.dis j k hj hk (by assumption) b hb e⟩
  · unfold put at hb; split at hb
    · simp [Value.ownBlock] at hb
    · exact E.nq j hj hb
  · unfold put at hb hb2; split at hb
    · simp [Value.ownBlock] at hb
    · split at hb2
      · simp [Value.ownBlock] at hb2
      · exact E.dis i j hi hj hij b hb hb2
  · exact (E.ints k hk).else u (fun b hb e => by simp at hb; subst hb; exact E.nq k hk e)
  · exact (mem_less.1 hb).2 e
set_option maxHeartbeats 2000000 in
theorem empty_in (E : Lim w q F S) {k : Nat} (hk : k < 3) : Calls Tryz.prog 128 #[.pointer (some ⟨q, 2 * k, none⟩)] w fun e w' => ∃ v F', e = .returned v ∧ Ints w' v (S.L k) ∧ Away v F' ∧ Lim w' q F' (S.clear k) ∧ (∀ b, b ∈ F' → b ∈ F) ∧ (∀ b, v.ownBlock = some b → b ∈ F) ∧ Else [q] w w' := by
  obtain ⟨V, E⟩ := E
  obtain ⟨c0, c1, c2, c3, c4, c5, c6⟩ := E.cells
  have f := E.top.frozen
  have HE := Lib.hid E
  clear E
  have : k = 0 ∨ k = 1 ∨ k = 2 := by omega
  rcases this with rfl | rfl | rfl
  · go_enter Tryz.func128, Tryz.ntmps128
    go_wp2_with fail
    go_ret
    obtain ⟨a, b, c⟩ := HE.out.cleared (k := 0) (by omega) (((Else.refl [q] w).set (.inl (by simp)) _).set (.inl (by simp)) _) ((HE.out.top.set 0 (.int .i64 0)).set 1 (.slice none 0 0))
    exact ⟨_, _, rfl, b, c, ⟨_, a⟩, fun b hb => (mem_less.1 hb).1, HE.out.inF 0 (by omega), (((Else.refl [q] w).set (.inl (by simp)) _).set (.inl (by simp)) _)⟩
  · go_enter Tryz.func128, Tryz.ntmps128
    go_wp2_with fail
    go_ret
    obtain ⟨a, b, c⟩ := HE.out.cleared (k := 1) (by omega) (((Else.refl [q] w).set (.inl (by simp)) _).set (.inl (by simp)) _) ((HE.out.top.set 2 (.int .i64 0)).set 3 (.slice none 0 0))
    exact ⟨_, _, rfl, b, c, ⟨_, a⟩, fun b hb => (mem_less.1 hb).1, HE.out.inF 1 (by omega), (((Else.refl [q] w).set (.inl (by simp)) _).set (.inl (by simp)) _)⟩
  · go_enter Tryz.func128, Tryz.ntmps128
    go_wp2_with fail
    go_ret
    obtain ⟨a, b, c⟩ := HE.out.cleared (k := 2) (by omega) (((Else.refl [q] w).set (.inl (by simp)) _).set (.inl (by simp)) _) ((HE.out.top.set 4 (.int .i64 0)).set 5 (.slice none 0 0))
    exact ⟨_, _, rfl, b, c, ⟨_, a⟩, fun b hb => (mem_less.1 hb).1, HE.out.inF 2 (by omega), (((Else.refl [q] w).set (.inl (by simp)) _).set (.inl (by simp)) _)⟩
set_option maxHeartbeats 1000000 in
theorem bucket_out {i : Int} (h : ¬ (0 ≤ i ∧ i < 3)) : Calls Tryz.prog 103 #[.pointer (some ⟨q, 0, none⟩), .int .i64 i] w fun e w' => e = .returned (.tuple #[.int .i64 0, .slice none 0 0]) ∧ w = w' := by
  by_cases h0 : i < 0
  · go_enter Tryz.func103, Tryz.ntmps103
    go_wp2_with fail
    go_ret2
    exact ⟨rfl, rfl⟩
  · have h1 : 3 ≤ i := by omega
    go_enter Tryz.func103, Tryz.ntmps103
    go_wp2_with fail
    go_ret2
    exact ⟨rfl, rfl⟩
end
end Go.Proofs.YtkopplnjomkleaaGreat

/-
  Package limbo: the contracts of Bucket and Len.
-/
namespace Go.Proofs.YtkopplnjomkleaaGreat
open Go.RowKit
set_option maxRecDepth 100000
section
variable {w w' : World} {q : Nat} {F : List Nat} {S : Lb} {V : Nat → Value} {v : Value}
set_option maxHeartbeats 2000000 in
theorem bucket_0 (E : Lim w q F S) (hl : (S.L 0).length ≤ 8192) : Calls Tryz.prog 103 #[.pointer (some ⟨q, 0, none⟩), .int .i64 0] w fun e w' => ∃ v, e = .returned (.tuple #[.int .i64 (S.T 0), v]) ∧ Ints w' v (S.L 0) ∧ Fresh w v ∧ Up w w' := by
  obtain ⟨V, E⟩ := E
  obtain ⟨c0, c1, c2, c3, c4, c5, c6⟩ := E.cells
  obtain ⟨A0, d0, A1, d1, A2, d2, v0, v1, v2⟩ := E.slices
  have HR := Lib.hid (E.ints 0 (by decide)).rd
  rw [v0] at c1
  rw [v1] at c3
  rw [v2] at c5
  rw [v0] at HR
  clear E v0 v1 v2
  go_enter Tryz.func103, Tryz.ntmps103
  go_upto_region 4 with fail
  obtain ⟨w1, hw1⟩ : ∃ w1, w.alloc (.cells #[.int .i64 (S.T 0), .slice A0 (S.L 0).length d0] 171) = w1 := ⟨_, rfl⟩
  have x0 : w1.cell? ⟨w.heap.size, 0, none⟩ = some (.int .i64 (S.T 0)) := by rw [← hw1]; exact cell_new rfl rfl
  have x1 : w1.cell? ⟨w.heap.size, 1, none⟩ = some (.slice A0 (S.L 0).length d0) := by rw [← hw1]; exact cell_new rfl rfl
  have HU := Lib.hid (show Up w w1 by rw [← hw1]; exact Up.alloc _ _)
  rw [hw1]
  clear hw1 c0 c1 c2 c3 c4 c5 c6
  have HR1 := Lib.hid (HR.out.up HU.out)
  clear HR
  go_region_held3 (fun w' => w'.cell? ⟨w.heap.size, 0, none⟩ = some (.int .i64 (S.T 0)) ∧ w'.cell? ⟨w.heap.size, 1, none⟩ = some (.slice A0 (S.L 0).length d0))
    ((first | exact ⟨x0, x1⟩ | exact ⟨U9.kept x0, U9.kept x1⟩))
    (first | (go_at_call 106; refine (clone_any (HR1.out.up (up_drew _)) hl).mono ?_; rintro e w9 ⟨v9, rfl, J9, F9, U9⟩))
  all_goals
    go_wp2_with fail
    go_ret2
    exact ⟨_, rfl, J9, fresh_of_le F9 HU.out.size, HU.out.trans ((up_drew _).trans U9)⟩
set_option maxHeartbeats 2000000 in
theorem bucket_1 (E : Lim w q F S) (hl : (S.L 1).length ≤ 8192) : Calls Tryz.prog 103 #[.pointer (some ⟨q, 0, none⟩), .int .i64 1] w fun e w' => ∃ v, e = .returned (.tuple #[.int .i64 (S.T 1), v]) ∧ Ints w' v (S.L 1) ∧ Fresh w v ∧ Up w w' := by
  obtain ⟨V, E⟩ := E
  obtain ⟨c0, c1, c2, c3, c4, c5, c6⟩ := E.cells
  obtain ⟨A0, d0, A1, d1, A2, d2, v0, v1, v2⟩ := E.slices
  have HR := Lib.hid (E.ints 1 (by decide)).rd
  rw [v0] at c1
  rw [v1] at c3
  rw [v2] at c5
  rw [v1] at HR
  clear E v0 v1 v2
  go_enter Tryz.func103, Tryz.ntmps103
  go_upto_region 4 with fail
  obtain ⟨w1, hw1⟩ : ∃ w1, w.alloc (.cells #[.int .i64 (S.T 1), .slice A1 (S.L 1).length d1] 171) = w1 := ⟨_, rfl⟩
  have x0 : w1.cell? ⟨w.heap.size, 0, none⟩ = some (.int .i64 (S.T 1)) := by rw [← hw1]; exact cell_new rfl rfl
  have x1 : w1.cell? ⟨w.heap.size, 1, none⟩ = some (.slice A1 (S.L 1).length d1) := by rw [← hw1]; exact cell_new rfl rfl
  have HU := Lib.hid (show Up w w1 by rw [← hw1]; exact Up.alloc _ _)
  rw [hw1]
  clear hw1 c0 c1 c2 c3 c4 c5 c6
  have HR1 := Lib.hid (HR.out.up HU.out)
  clear HR
  go_region_held3 (fun w' => w'.cell? ⟨w.heap.size, 0, none⟩ = some (.int .i64 (S.T 1)) ∧ w'.cell? ⟨w.heap.size, 1, none⟩ = some (.slice A1 (S.L 1).length d1))
    ((first | exact ⟨x0, x1⟩ | exact ⟨U9.kept x0, U9.kept x1⟩))
    (first | (go_at_call 106; refine (clone_any (HR1.out.up (up_drew _)) hl).mono ?_; rintro e w9 ⟨v9, rfl, J9, F9, U9⟩))
  all_goals
    go_wp2_with fail
    go_ret2
    exact ⟨_, rfl, J9, fresh_of_le F9 HU.out.size, HU.out.trans ((up_drew _).trans U9)⟩
set_option maxHeartbeats 2000000 in
theorem bucket_2 (E : Lim w q F S) (hl : (S.L 2).length ≤ 8192) : Calls Tryz.prog 103 #[.pointer (some ⟨q, 0, none⟩), .int .i64 2] w fun e w' => ∃ v, e = .returned (.tuple #[.int .i64 (S.T 2), v]) ∧ Ints w' v (S.L 2) ∧ Fresh w v ∧ Up w w' := by
  obtain ⟨V, E⟩ := E
  obtain ⟨c0, c1, c2, c3, c4, c5, c6⟩ := E.cells
  obtain ⟨A0, d0, A1, d1, A2, d2, v0, v1, v2⟩ := E.slices
  have HR := Lib.hid (E.ints 2 (by decide)).rd
  rw [v0] at c1
  rw [v1] at c3
  rw [v2] at c5
  rw [v2] at HR
  clear E v0 v1 v2
  go_enter Tryz.func103, Tryz.ntmps103
  go_upto_region 4 with fail
  obtain ⟨w1, hw1⟩ : ∃ w1, w.alloc (.cells #[.int .i64 (S.T 2), .slice A2 (S.L 2).length d2] 171) = w1 := ⟨_, rfl⟩
  have x0 : w1.cell? ⟨w.heap.size, 0, none⟩ = some (.int .i64 (S.T 2)) := by rw [← hw1]; exact cell_new rfl rfl
  have x1 : w1.cell? ⟨w.heap.size, 1, none⟩ = some (.slice A2 (S.L 2).length d2) := by rw [← hw1]; exact cell_new rfl rfl
  have HU := Lib.hid (show Up w w1 by rw [← hw1]; exact Up.alloc _ _)
  rw [hw1]
  clear hw1 c0 c1 c2 c3 c4 c5 c6
  have HR1 := Lib.hid (HR.out.up HU.out)
  clear HR
  go_region_held3 (fun w' => w'.cell? ⟨w.heap.size, 0, none⟩ = some (.int .i64 (S.T 2)) ∧ w'.cell? ⟨w.heap.size, 1, none⟩ = some (.slice A2 (S.L 2).length d2))
    ((first | exact ⟨x0, x1⟩ | exact ⟨U9.kept x0, U9.kept x1⟩))
    (first | (go_at_call 106; refine (clone_any (HR1.out.up (up_drew _)) hl).mono ?_; rintro e w9 ⟨v9, rfl, J9, F9, U9⟩))
  all_goals
    go_wp2_with fail
    go_ret2
    exact ⟨_, rfl, J9, fresh_of_le F9 HU.out.size, HU.out.trans ((up_drew _).trans U9)⟩
theorem bucket_in (E : Lim w q F S) {k : Nat} (hk : k < 3) (hl : (S.L k).length ≤ 8192) : Calls Tryz.prog 103 #[.pointer (some ⟨q, 0, none⟩), .int .i64 k] w fun e w' => ∃ v, e = .returned (.tuple #[.int .i64 (S.T k), v]) ∧ Ints w' v (S.L k) ∧ Fresh w v ∧ Up w w' := by
  have : k = 0 ∨ k = 1 ∨ k = 2 := by omega
  rcases this with rfl | rfl | rfl
  · exact bucket_0 E hl
  · exact bucket_1 E hl
  · exact bucket_2 E hl
end
end Go.Proofs.YtkopplnjomkleaaGreat

/-
  Package limbo: the contracts of Len and Ready.
-/
namespace Go.Proofs.YtkopplnjomkleaaGreat
open Go.RowKit
set_option maxRecDepth 100000
section
variable {w w' : World} {q : Nat} {F : List Nat} {S : Lb} {V : Nat → Value} {v : Value}
def Lb.upTo (S : Lb) : Nat → Nat
  | 0 => 0
  | k + 1 => S.upTo k + (S.L k).length
def LenRel (w : World) (S : Lb) (v i : Value) (wr : World) : Prop := ∃ k : Nat, k ≤ 3 ∧ i = .int .i64 k ∧ v = .int .i64 (S.upTo k : Nat) ∧ Up w wr
theorem run_ix0 (a b c d e f : Value) (w : World) : (Instr.index 172 (.agg #[a, b, c, d, e, f]) (.int .i64 0)).run Tryz.prog w = .ok (.agg #[a, b]) w := by rfl
theorem run_ix1 (a b c d e f : Value) (w : World) : (Instr.index 172 (.agg #[a, b, c, d, e, f]) (.int .i64 1)).run Tryz.prog w = .ok (.agg #[c, d]) w := by rfl
theorem run_ix2 (a b c d e f : Value) (w : World) : (Instr.index 172 (.agg #[a, b, c, d, e, f]) (.int .i64 2)).run Tryz.prog w = .ok (.agg #[e, f]) w := by rfl
set_option maxHeartbeats 4000000 in
theorem llen_any (E : Lim w q F S) (hs : S.size ≤ 1000000) : Calls Tryz.prog 66 #[.pointer (some ⟨q, 0, none⟩)] w fun e w' => e = .returned (.int .i64 (S.size : Nat)) ∧ Up w w' := by
  obtain ⟨V, E⟩ := E
  obtain ⟨A0, d0, A1, d1, A2, d2, v0, v1, v2⟩ := E.slices
  obtain ⟨c0, c1, c2, c3, c4, c5, c6⟩ := E.cells
  rw [v0] at c1
  rw [v1] at c3
  rw [v2] at c5
  have e3 : S.size = S.upTo 3 := by simp [Lb.size, Lb.upTo]
  have s1 : S.upTo 1 = 0 + (S.L 0).length := rfl
  have s2 : S.upTo 2 = S.upTo 1 + (S.L 1).length := rfl
  have s3 : S.upTo 3 = S.upTo 2 + (S.L 2).length := rfl
  rw [e3] at hs ⊢
  clear v0 v1 v2 E e3
  obtain ⟨n0, h0⟩ : ∃ n, (S.L 0).length = n := ⟨_, rfl⟩
  obtain ⟨n1, h1⟩ : ∃ n, (S.L 1).length = n := ⟨_, rfl⟩
  obtain ⟨n2, h2⟩ : ∃ n, (S.L 2).length = n := ⟨_, rfl⟩
  rw [h0] at c1 s1
  rw [h1] at c3 s2
  rw [h2] at c5 s3
  have b0 : n0 ≤ 1000000 := by omega
  have b1 : n1 ≤ 1000000 := by omega
  have b2 : n2 ≤ 1000000 := by omega
  have b3 : n0 + n1 + n2 ≤ 1000000 := by omega
  have t1 := Lib.hid (show S.upTo 1 = n0 by omega)
  have t2 := Lib.hid (show S.upTo 2 = n0 + n1 by omega)
  have t3 := Lib.hid (show S.upTo 3 = n0 + n1 + n2 by omega)
  rw [t3.out]
  clear h0 h1 h2 s1 s2 s3 hs
  have x0 := run_ix0
  have x1 := run_ix1
  have x2 := run_ix2
  go_enter Tryz.func66, Tryz.ntmps66
  go_wp2_with fail
  go_loopw [3, 10] (fun v i wr => LenRel w S v i wr) (fun _ i _ => 3 - (intOf i).toNat)
  case atStart => exact ⟨0, Nat.zero_le _, rfl, rfl, Up.refl _⟩
  case round =>
    obtain ⟨k, hk, rfl, rfl, hu⟩ := hrel
    have HU := Lib.hid hu
    clear hu
    have : k = 0 ∨ k = 1 ∨ k = 2 ∨ k = 3 := by omega
    rcases this with rfl | rfl | rfl | rfl
    · rw [show S.upTo 0 = 0 from rfl]
      go_wp2_with fail
      go_roundw
      case rel => exact ⟨1, by omega, by go_num, by rw [t1.out], HU.out.then_alloc _⟩
      case measure => simp [intOf]
    · rw [t1.out]
      go_wp2_with fail
      go_roundw
      case rel => exact ⟨2, by omega, by go_num, by rw [t2.out]; go_num, HU.out.then_alloc _⟩
      case measure => simp [intOf]
    · rw [t2.out]
      go_wp2_with fail
      go_roundw
      case rel => exact ⟨3, by omega, by go_num, by rw [t3.out]; go_num, HU.out.then_alloc _⟩
      case measure => simp [intOf]
    · rw [t3.out]
      go_wp2_with fail
      go_ret
      exact ⟨rfl, HU.out⟩
end
end Go.Proofs.YtkopplnjomkleaaGreat
