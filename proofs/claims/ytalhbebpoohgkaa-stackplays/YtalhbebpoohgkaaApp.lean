/-
  append(v, v2...) of ints, in the words of Ints and Rd, for lists that may be empty; a row of bools that tells who is in a list.
-/
import Derived.Test.YtalhbebpoohgkaaLists
import Derived.Deep.AppendLies
namespace Go.Proofs.Ytalhbebpoohgkaa
open Go.RowKit
set_option maxRecDepth 100000
section
variable {w w1 w' : World} {v v2 : Value} {xs ys : List Int}
theorem run_app (ty : TypeId) (J : Ints w v xs) (R : Rd w v2 ys) (hl : xs.length + ys.length ≤ 8192) :
    ∃ v' w', (Builtin.append_ #[22, 22] ty #[v, v2]).run Try.prog w = .ok v' w' ∧ Ints w' v' (xs ++ ys) ∧ w.grownBy w' v.ownBlock ∧ (v'.ownBlock = v.ownBlock ∨ v'.ownBlock = some w.heap.size) := by
  obtain ⟨i9, hi, hz0, hz1, hz2⟩ := info_parts info_int
  by_cases h0 : ys = []
  · subst h0
    obtain ⟨A, cap, rfl⟩ := R.slice
    refine ⟨v, w, ?_, by simpa using J, ⟨rfl, rfl, rfl, Nat.le_refl _, fun _ _ _ => rfl⟩, .inl rfl⟩
    have hf : (Builtin.firstCells i9.size 0 (.slice A 0 cap)).run Try.prog w = .ok #[] w := by
      cases A with
      | none => exact run_firstCells_none _ _ _ _ _
      | some a => exact run_firstCells_some (P := Try.prog) w i9.size 0 a 0 cap [] (by simp) (by simp)
    rcases J.2 with ⟨rfl, _⟩ | ⟨g, c, cur, rfl, _, hg, hc, _⟩
    · simp [Builtin.append_, run_underlying Try.underlying22, sizeOf, typeInfo, hi, Builtin.lenOf, hf]
    · have hc2 : xs.length ≤ c := hc
      simp [Builtin.append_, run_underlying Try.underlying22, sizeOf, typeInfo, hi, Builtin.lenOf, hf, hc2, storeCells]
  · have hp := List.length_pos_iff.2 h0
    obtain ⟨A, cap, rfl⟩ := R.slice
    obtain ⟨b, off, rfl, _⟩ := R.cell hp
    obtain ⟨g, c, w', hr, h2, h3, h4, h5⟩ := run_append_lies (P := Try.prog) w 22 ty 0 3 i9 (.int .i64 0) 1 8 Try.underlying22 hi hz0 hz1 hz2 rfl (by decide) v xs.length (xs.map (Value.int .i64)) J ⟨b, off, none⟩ ys.length cap (ys.map (Value.int .i64)) (by simp) (R.news (Up.refl _)) (one_ints ys) hp (by unfold maxLen; omega) (by omega) (Nat.zero_le _) _ rfl
    refine ⟨_, w', hr, ints_of_own h2 (by simp) (by simp), h3, ?_⟩
    rcases h4 with h | h
    · exact .inl h.symm
    · exact .inr (by rw [h]; rfl)
theorem wp_app {o : Oper} {a : Act} {K : Act → World → Prop} {Q : Exit → Act → World → Prop} (s x : Operand)
    (ho : o.op = .call { callee := .builtin .append, args := #[s, x], argTypes := #[22, 22] }) (hs : a.eval s = v) (hx : a.eval x = v2) (J : Ints w v xs) (R : Rd w v2 ys) (hl : xs.length + ys.length ≤ 8192)
    (h : ∀ v' w', Ints w' v' (xs ++ ys) → w.grownBy w' v.ownBlock → (v'.ownBlock = v.ownBlock ∨ v'.ownBlock = some w.heap.size) → K (a.put o.dst v') w') : o.wp Try.prog a w K Q := by
  obtain ⟨v', w', hr, h2, h3, h4⟩ := run_app o.type J R hl
  unfold Oper.wp execOp
  simp only [ho, resolve, invoke, builtin, Sem.run_bind, Sem.run_pure, Result.andThen_ok, List.map_toArray, List.map_cons, List.map_nil, hs, hx, hr]
  exact h v' w' h2 h3 h4
theorem wpList_app {ops : Array Oper} {rest : List Oper} {o : Oper} {a : Act} {Q : Exit → Act → World → Prop} (hgd : o.guard = none) (s x : Operand)
    (ho : o.op = .call { callee := .builtin .append, args := #[s, x], argTypes := #[22, 22] }) (hs : a.eval s = v) (hx : a.eval x = v2) (J : Ints w v xs) (R : Rd w v2 ys) (hl : xs.length + ys.length ≤ 8192)
    (h : ∀ v' w', Ints w' v' (xs ++ ys) → w.grownBy w' v.ownBlock → (v'.ownBlock = v.ownBlock ∨ v'.ownBlock = some w.heap.size) → wpList Try.prog ops Q rest (a.put o.dst v') w') : wpList Try.prog ops Q (o :: rest) a w :=
  wpList_plain hgd fun _ hK => wp_app s x ho hs hx J R hl fun v' w' h2 h3 h4 => hK _ _ (h v' w' h2 h3 h4)
/-- The same where the operation stands behind a guard that is met. -/
theorem wpList_appG {ops : Array Oper} {rest : List Oper} {o : Oper} {a : Act} {Q : Exit → Act → World → Prop} (hgd : Region.wanted o (yielded ops a.tmps) = true) (s x : Operand)
    (ho : o.op = .call { callee := .builtin .append, args := #[s, x], argTypes := #[22, 22] }) (hs : a.eval s = v) (hx : a.eval x = v2) (J : Ints w v xs) (R : Rd w v2 ys) (hl : xs.length + ys.length ≤ 8192)
    (h : ∀ v' w', Ints w' v' (xs ++ ys) → w.grownBy w' v.ownBlock → (v'.ownBlock = v.ownBlock ∨ v'.ownBlock = some w.heap.size) → wpList Try.prog ops Q rest (a.put o.dst v') w') : wpList Try.prog ops Q (o :: rest) a w :=
  wpList_step fun K hK => by
    rw [hgd, if_pos rfl]
    exact wp_app s x ho hs hx J R hl fun v' w' h2 h3 h4 => hK _ _ (h v' w' h2 h3 h4)
theorem ints_new (w : World) (a : Int) : Ints (w.alloc (.cells #[.int .i64 a] 3)) (.slice (some ⟨w.heap.size, 0, none⟩) 1 1) [a] :=
  ⟨rfl, .inr ⟨w.heap.size, 1, _, rfl, Nat.zero_le _, heap_alloc_new w _, Nat.le_refl _, by unfold maxLen; omega, rfl, rfl⟩⟩
/-- Whatever it was appended to: what was there is there, but for the row itself. -/
theorem up_app {a : World} (u : Up a w) (hg : w.grownBy w' v.ownBlock) (F : Fresh a v) : Up a w' := u.grown hg fun k hk => F k hk
theorem fresh_app {a : World} {v' : Value} (F : Fresh a v) (u : a.heap.size ≤ w.heap.size) (h : v'.ownBlock = v.ownBlock ∨ v'.ownBlock = some w.heap.size) : Fresh a v' := by
  intro k hk
  rcases h with h | h
  · exact F k (h ▸ hk)
  · rw [hk] at h; injection h with h; omega

/-! ### A row of bools -/
theorem info_bool : (Try.prog.info? 4).map (fun i => (i.zero, i.size, i.bytes)) = some (some (.bool false), 1, 1) := by kernel_rfl
theorem made_bools (n : Nat) : madeCells (Value.bool false).cells (n * 1) = Array.replicate n (Value.bool false) := by
  apply Array.ext
  · simp [madeCells]
  · intro i h1 h2
    simp [madeCells, Value.cells, Nat.mod_one]
theorem run_bools (n : Nat) (h : n ≤ 8388608) (w : World) : (Instr.makeSlice 56 (.int .i64 (n : Int)) (.int .i64 (n : Int))).run Try.prog w = .ok (.slice (some ⟨w.heap.size, 0, none⟩) n n) (w.alloc (.cells (Array.replicate n (.bool false)) 4)) := by
  obtain ⟨i, hi, hz0, hz1, hz2⟩ := info_parts info_bool
  have := run_make (P := Try.prog) w 56 4 i _ Try.underlying56 hi hz0 .i64 .i64 n n (by omega) (by omega) (by rw [hz2]; omega) (by omega)
  rw [this, hz1, made_bools]; rfl
/-- A row that tells of each number whether it is in a list. -/
structure Used (w : World) (ub n : Nat) (W : List Nat) : Prop where
  lt : ub < w.heap.size
  cell : ∀ j, j < n → w.cell? ⟨ub, j, none⟩ = some (.bool (decide (j ∈ W)))
theorem Used.else {l : List Nat} {ub n : Nat} {W : List Nat} (h : Used w ub n W) (u : Else l w w') (hu : ub ∉ l) : Used w' ub n W :=
  ⟨Nat.lt_of_lt_of_le h.lt u.size, fun j hj => u.kept (p := ⟨ub, j, none⟩) (h.cell j hj) hu⟩
theorem Used.up {ub n : Nat} {W : List Nat} (h : Used w ub n W) (u : Up w w') : Used w' ub n W := h.else (Else.of_up (s := []) u) (by simp)
theorem Used.new (w : World) (n : Nat) : Used (w.alloc (.cells (Array.replicate n (.bool false)) 4)) w.heap.size n [] :=
  ⟨by simp, fun j hj => cell_new rfl (by simp [hj])⟩
theorem Used.put {ub n : Nat} {W : List Nat} (h : Used w ub n W) {x : Nat} (hx : x < n) : Used (w.setCell ⟨ub, x, none⟩ (.bool true)) ub n (x :: W) := by
  refine ⟨by have := h.lt; simpa using this, fun j hj => ?_⟩
  by_cases e : j = x
  · subst e
    rw [World.cell?_setCell_same (h := by rw [h.cell j hj])]
    simp
  · rw [World.cell?_setCell_other (h := by intro he; injection he with _ e2; exact e e2.symm), h.cell j hj]
    simp [e]
end
end Go.Proofs.Ytalhbebpoohgkaa
