/-
  Package limbo: the contracts of empty, Bucket, Len; slices.Clone of whatever list.
-/
import Derived.Test.YthajdabdiaogiaaLimbo3
namespace Go.Proofs.Ythajdabdiaogiaa
open Go.RowKit
set_option maxRecDepth 100000
section
variable {w w' : World} {q : Nat} {F : List Nat} {S : Lb} {V : Nat → Value} {v : Value}
set_option maxHeartbeats 1000000 in
theorem clone_any {xs : List Int} (R : Rd w v xs) (hl : xs.length ≤ 8192) :
    Calls Try.prog 25 #[v] w fun e w' => ∃ v', e = .returned v' ∧ Ints w' v' xs ∧ Fresh w v' ∧ Up w w' := by
  obtain ⟨A, cap, rfl⟩ := R.slice
  have q1 : ∀ (w : World) (a : Option Addr) (n c n' c' : Nat), (binOp .eql 28 (.slice a n c) (.slice none n' c')).run Try.prog w = .ok (.bool a.isNone) w := fun w a n c n' c' => Lib.run_eql_slice_nil w _ _ a n c n' c' Try.underlying28
  cases A with
  | none =>
    have e : xs = [] := by
      rcases xs with _ | ⟨x, xs⟩
      · rfl
      · obtain ⟨g, off, h, _⟩ := R.cell (j := 0) (by simp); cases h
    subst e
    clear R
    go_enter Try.func25, Try.ntmps25
    go_wp2_with fail
    go_ret
    exact ⟨_, rfl, Ints.nil _, fresh_nil _, Up.refl _⟩
  | some a =>
    have HR := Lib.hid R
    clear R
    have HO := Lib.hid (ints_of_own (xs := []) (own_empty w) rfl rfl)
    go_enter Try.func25, Try.ntmps25
    go_wp2_with (at_builtin; refine wpList_app rfl _ _ rfl rfl rfl HO.out (HR.out.up (Up.alloc _ _)) (by simpa using hl) ?_; intro v5 w5 J5 G5 A5; have HJ5 := Lib.hid J5; have HG5 := Lib.hid G5; have HA5 := Lib.hid A5; clear J5 G5 A5)
    go_ret
    have f0 : Fresh w (.slice (some ⟨w.heap.size, 0, none⟩) 0 0) := fun k hk => by simp [Value.ownBlock] at hk; omega
    exact ⟨_, rfl, by simpa using HJ5.out, fresh_app f0 (by simp) HA5.out, up_app (Up.alloc _ _) HG5.out f0⟩
/-- The blocks without one slice's. -/
def less (F : List Nat) (v : Value) : List Nat := F.filter (fun b => decide (v.ownBlock ≠ some b))
theorem mem_less {b : Nat} : b ∈ less F v ↔ b ∈ F ∧ v.ownBlock ≠ some b := by simp [less]
theorem LimV.cleared (E : LimV w q F S V) {k : Nat} (hk : k < 3) (u : Else [q] w w')
    (top : Whole w' q 52 #[.int .i64 ((S.clear k).T 0), put V k (.slice none 0 0) 0, .int .i64 ((S.clear k).T 1), put V k (.slice none 0 0) 1, .int .i64 ((S.clear k).T 2), put V k (.slice none 0 0) 2, .int .i64 S.last]) :
    LimV w' q (less F (V k)) (S.clear k) (put V k (.slice none 0 0)) ∧ Ints w' (V k) (S.L k) ∧ Away (V k) (less F (V k)) := by
  refine ⟨⟨top, fun j hj => ?_, mem_less.2 ⟨E.mem, E.nq k hk⟩, fun j hj b hb => ?_, fun j hj hb => ?_, fun i j hi hj hij b hb hb2 => ?_, fun b hb => Nat.lt_of_lt_of_le (E.lt b (mem_less.1 hb).1) u.size, E.ok.clear k⟩, ?_, fun b hb e => ?_⟩
  · unfold Lb.clear put; dsimp only
    split
    · exact Ints.nil _
    · exact (E.ints j hj).else u (fun b hb e => by simp at hb; subst hb; exact E.nq j hj e)
  · unfold put at hb; split at hb
    · simp [Value.ownBlock] at hb
    · exact mem_less.2 ⟨E.inF j hj b hb, fun e => E.dis j k hj hk (by assumption) b hb e⟩
  · unfold put at hb; split at hb
    · simp [Value.ownBlock] at hb
    · exact E.nq j hj hb
  · unfold put at hb hb2; split at hb
    · simp [Value.ownBlock] at hb
    · split at hb2
      · simp [Value.ownBlock] at hb2
      · exact E.dis i j hi hj hij b hb hb2
  · exact (E.ints k hk).else u (fun b hb e => by simp at hb; subst hb; exact E.nq k hk e)
  · exact (mem_less.1 hb).2 e
set_option maxHeartbeats 2000000 in
theorem empty_in (E : Lim w q F S) {k : Nat} (hk : k < 3) : Calls Try.prog 24 #[.pointer (some ⟨q, 2 * k, none⟩)] w fun e w' => ∃ v F', e = .returned v ∧ Ints w' v (S.L k) ∧ Away v F' ∧ Lim w' q F' (S.clear k) ∧ (∀ b, b ∈ F' → b ∈ F) ∧ (∀ b, v.ownBlock = some b → b ∈ F) ∧ Else [q] w w' := by
  obtain ⟨V, E⟩ := E
  obtain ⟨c0, c1, c2, c3, c4, c5, c6⟩ := E.cells
  have f := E.top.frozen
  have HE := Lib.hid E
  clear E
  have : k = 0 ∨ k = 1 ∨ k = 2 := by omega
  rcases this with rfl | rfl | rfl
  · go_enter Try.func24, Try.ntmps24
    go_wp2_with fail
    go_ret
    obtain ⟨a, b, c⟩ := HE.out.cleared (k := 0) (by omega) (((Else.refl [q] w).set (.inl (by simp)) _).set (.inl (by simp)) _) ((HE.out.top.set 0 (.int .i64 0)).set 1 (.slice none 0 0))
    exact ⟨_, _, rfl, b, c, ⟨_, a⟩, fun b hb => (mem_less.1 hb).1, HE.out.inF 0 (by omega), (((Else.refl [q] w).set (.inl (by simp)) _).set (.inl (by simp)) _)⟩
  · go_enter Try.func24, Try.ntmps24
    go_wp2_with fail
    go_ret
    obtain ⟨a, b, c⟩ := HE.out.cleared (k := 1) (by omega) (((Else.refl [q] w).set (.inl (by simp)) _).set (.inl (by simp)) _) ((HE.out.top.set 2 (.int .i64 0)).set 3 (.slice none 0 0))
    exact ⟨_, _, rfl, b, c, ⟨_, a⟩, fun b hb => (mem_less.1 hb).1, HE.out.inF 1 (by omega), (((Else.refl [q] w).set (.inl (by simp)) _).set (.inl (by simp)) _)⟩
  · go_enter Try.func24, Try.ntmps24
    go_wp2_with fail
    go_ret
    obtain ⟨a, b, c⟩ := HE.out.cleared (k := 2) (by omega) (((Else.refl [q] w).set (.inl (by simp)) _).set (.inl (by simp)) _) ((HE.out.top.set 4 (.int .i64 0)).set 5 (.slice none 0 0))
    exact ⟨_, _, rfl, b, c, ⟨_, a⟩, fun b hb => (mem_less.1 hb).1, HE.out.inF 2 (by omega), (((Else.refl [q] w).set (.inl (by simp)) _).set (.inl (by simp)) _)⟩
set_option maxHeartbeats 1000000 in
theorem bucket_out {i : Int} (h : ¬ (0 ≤ i ∧ i < 3)) : Calls Try.prog 18 #[.pointer (some ⟨q, 0, none⟩), .int .i64 i] w fun e w' => e = .returned (.tuple #[.int .i64 0, .slice none 0 0]) ∧ w = w' := by
  by_cases h0 : i < 0
  · go_enter Try.func18, Try.ntmps18
    go_wp2_with fail
    go_ret2
    exact ⟨rfl, rfl⟩
  · have h1 : 3 ≤ i := by omega
    go_enter Try.func18, Try.ntmps18
    go_wp2_with fail
    go_ret2
    exact ⟨rfl, rfl⟩
end
end Go.Proofs.Ythajdabdiaogiaa
