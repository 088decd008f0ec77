/-
  Package limbo: the limbo in memory (Lim), the contracts of New, oldest, Open, empty, Bucket, Len.
-/
import Derived.Test.YthajdabdiaogiaaLimMath
import Derived.Test.YthajdabdiaogiaaIntRow
namespace Go.Proofs.Ythajdabdiaogiaa
open Go.RowKit
set_option maxRecDepth 100000

/-- The limbo S lies at q; its buckets' slices are V; all its blocks are among F. -/
structure LimV (w : World) (q : Nat) (F : List Nat) (S : Lb) (V : Nat → Value) : Prop where
  top : Whole w q 52 #[.int .i64 (S.T 0), V 0, .int .i64 (S.T 1), V 1, .int .i64 (S.T 2), V 2, .int .i64 S.last]
  ints : ∀ k, k < 3 → Ints w (V k) (S.L k)
  mem : q ∈ F
  inF : ∀ k, k < 3 → ∀ b, (V k).ownBlock = some b → b ∈ F
  nq : ∀ k, k < 3 → (V k).ownBlock ≠ some q
  dis : ∀ j k, j < 3 → k < 3 → j ≠ k → ∀ b, (V j).ownBlock = some b → (V k).ownBlock ≠ some b
  lt : ∀ b, b ∈ F → b < w.heap.size
  ok : S.Ok
def Lim (w : World) (q : Nat) (F : List Nat) (S : Lb) : Prop := ∃ V, LimV w q F S V
/-- Blocks of before, or new ones. -/
def Next (w : World) (F F' : List Nat) : Prop := ∀ b, b ∈ F' → b ∈ F ∨ w.heap.size ≤ b
section
variable {w w' : World} {q : Nat} {F : List Nat} {S : Lb} {V : Nat → Value} {v : Value}
theorem Next.refl (w : World) (F : List Nat) : Next w F F := fun _ h => .inl h
theorem Next.trans {F' F'' : List Nat} (h : Next w F F') (k : Next w' F' F'') (u : w.heap.size ≤ w'.heap.size) : Next w F F'' := fun b hb => (k b hb).elim (h b) (fun h => .inr (by omega))
theorem LimV.up (E : LimV w q F S V) (u : Up w w') : LimV w' q F S V :=
  ⟨E.top.up u, fun k hk => (E.ints k hk).up u, E.mem, E.inF, E.nq, E.dis, fun b hb => Nat.lt_of_lt_of_le (E.lt b hb) u.size, E.ok⟩
theorem LimV.else (E : LimV w q F S V) {l : List Nat} (u : Else l w w') (h : ∀ b, b ∈ F → b ∉ l) : LimV w' q F S V :=
  ⟨u.whole E.top (h _ E.mem), fun k hk => (E.ints k hk).else u (fun b hb e => h b (E.inF k hk b e) hb), E.mem, E.inF, E.nq, E.dis, fun b hb => Nat.lt_of_lt_of_le (E.lt b hb) u.size, E.ok⟩
theorem Lim.up (E : Lim w q F S) (u : Up w w') : Lim w' q F S := E.imp fun _ E => E.up u
theorem Lim.else (E : Lim w q F S) {l : List Nat} (u : Else l w w') (h : ∀ b, b ∈ F → b ∉ l) : Lim w' q F S := E.imp fun _ E => E.else u h
theorem Lim.ok (E : Lim w q F S) : S.Ok := E.elim fun _ E => E.ok
theorem Lim.lt (E : Lim w q F S) : ∀ b, b ∈ F → b < w.heap.size := E.elim fun _ E => E.lt
theorem Lim.mem (E : Lim w q F S) : q ∈ F := E.elim fun _ E => E.mem
theorem LimV.cells (E : LimV w q F S V) : w.cell? ⟨q, 0, none⟩ = some (.int .i64 (S.T 0)) ∧ w.cell? ⟨q, 1, none⟩ = some (V 0) ∧ w.cell? ⟨q, 2, none⟩ = some (.int .i64 (S.T 1)) ∧ w.cell? ⟨q, 3, none⟩ = some (V 1) ∧
    w.cell? ⟨q, 4, none⟩ = some (.int .i64 (S.T 2)) ∧ w.cell? ⟨q, 5, none⟩ = some (V 2) ∧ w.cell? ⟨q, 6, none⟩ = some (.int .i64 S.last) :=
  ⟨E.top.cell rfl, E.top.cell rfl, E.top.cell rfl, E.top.cell rfl, E.top.cell rfl, E.top.cell rfl, E.top.cell rfl⟩
/-- The three slices, each as such. -/
theorem LimV.slices (E : LimV w q F S V) : ∃ A0 c0 A1 c1 A2 c2, V 0 = .slice A0 (S.L 0).length c0 ∧ V 1 = .slice A1 (S.L 1).length c1 ∧ V 2 = .slice A2 (S.L 2).length c2 := by
  obtain ⟨A0, c0, h0⟩ := (E.ints 0 (by decide)).slice
  obtain ⟨A1, c1, h1⟩ := (E.ints 1 (by decide)).slice
  obtain ⟨A2, c2, h2⟩ := (E.ints 2 (by decide)).slice
  exact ⟨A0, c0, A1, c1, A2, c2, h0, h1, h2⟩
set_option maxHeartbeats 400000 in
theorem lnew_any (w : World) : Calls Try.prog 8 #[] w fun e w' => e = .returned (.pointer (some ⟨w.heap.size, 0, none⟩)) ∧ Lim w' w.heap.size [w.heap.size] Lb.zero ∧ Up w w' := by
  go_enter Try.func8, Try.ntmps8
  go_wp2
  go_ret
  refine ⟨rfl, ⟨fun _ => .slice none 0 0, ?_⟩, Up.alloc _ _⟩
  refine ⟨Whole.new _ _ _, fun k hk => Ints.nil _, by simp, fun k hk b hb => ?_, fun k hk hb => ?_, fun j k hj hk hjk b hb => ?_, fun b hb => ?_, Lb.Ok.zero⟩
  · simp [Value.ownBlock] at hb
  · simp [Value.ownBlock] at hb
  · simp [Value.ownBlock] at hb
  · simp at hb; subst hb; simp
/-- A bucket's address; none: nil. -/
def bptr (q : Nat) : Option Nat → Value
  | none => .pointer none
  | some k => .pointer (some ⟨q, 2 * k, none⟩)
end
end Go.Proofs.Ythajdabdiaogiaa
