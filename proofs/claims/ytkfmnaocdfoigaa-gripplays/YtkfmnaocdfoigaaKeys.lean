/-
  Slices of pairs of ints (structs of two), each the beginning of a block of its own, or nil (Prs); append. The element's type and the slice's are letters.
-/
import Derived.Test.YtkfmnaocdfoigaaNum
import Derived.Test.YtkfmnaocdfoigaaMem
import Derived.OwnWalk
import Derived.Test.YtkfmnaocdfoigaaQuietUp
import Derived.Deep.RegionHeld3
import Derived.Deep.DrawnRows
import Derived.StillTailTactics
import Derived.Deep.DeepCutAuto
import Derived.Deep.AppendLies
import Derived.Lib.SliceRun
namespace Go.Proofs.Ytkfmnaocdfoigaa
open Go.RowKit
set_option maxRecDepth 100000

def flat : List (Int × Int) → List Value
  | [] => []
  | p :: L => .int .i64 p.1 :: .int .i64 p.2 :: flat L
theorem flat_len (L : List (Int × Int)) : (flat L).length = L.length * 2 := by
  induction L with
  | nil => rfl
  | cons p L ih => simp [flat, ih]; omega
theorem flat_app (L M : List (Int × Int)) : flat (L ++ M) = flat L ++ flat M := by
  induction L with
  | nil => rfl
  | cons p L ih => simp [flat, ih]
theorem flat_get : ∀ (L : List (Int × Int)) (k : Nat), k < L.length → (flat L)[k * 2]? = some (.int .i64 (L.getD k (0, 0)).1) ∧ (flat L)[k * 2 + 1]? = some (.int .i64 (L.getD k (0, 0)).2)
  | [], k, h => absurd h (by simp)
  | p :: L, 0, h => ⟨rfl, rfl⟩
  | p :: L, k + 1, h => by
    have ih := flat_get L k (by simpa using h)
    have e : (k + 1) * 2 = k * 2 + 1 + 1 := by omega
    rw [e]
    simpa [flat, List.getD] using ih
theorem flat_one (L : List (Int × Int)) : ∀ u ∈ flat L, u.oneCell' = true := by
  induction L with
  | nil => intro u hu; simp [flat] at hu
  | cons p L ih =>
    intro u hu
    simp only [flat, List.mem_cons] at hu
    rcases hu with rfl | rfl | hu
    · rfl
    · rfl
    · exact ih u hu
/-- The slice v is the beginning of a block of its own, or nil, and reads as L. -/
def Prs (e : TypeId) (w : World) (v : Value) (L : List (Int × Int)) : Prop := w.ownsRow 0 e 2 v L.length (flat L)
section
variable {e ts : TypeId} {w w1 w' : World} {v v2 : Value} {L M : List (Int × Int)} {s : List Nat} {row : Option Nat}
theorem Prs.nil (e : TypeId) (w : World) : Prs e w (.slice none 0 0) [] := ⟨rfl, .inl ⟨rfl, rfl⟩⟩
theorem Prs.up (h : Prs e w v L) (u : Up w w') : Prs e w' v L := own_up h u
theorem Prs.else (h : Prs e w v L) (u : Else s w w') (a : ∀ b, b ∈ s → v.ownBlock ≠ some b) : Prs e w' v L := by
  refine ⟨h.1, ?_⟩
  rcases h.2 with h | ⟨g, cap, cur, rfl, hb, hh, r⟩
  · exact .inl h
  · exact .inr ⟨g, cap, cur, rfl, hb, u.heap hh (fun hk => a _ hk rfl), r⟩
theorem Prs.lt (h : Prs e w v L) {k : Nat} (hk : v.ownBlock = some k) : k < w.heap.size := by
  rcases h.2 with ⟨rfl, _⟩ | ⟨g, cap, cur, rfl, _, hh, _⟩
  · simp [Value.ownBlock] at hk
  · simp [Value.ownBlock] at hk; subst hk; exact some_lt hh
theorem Prs.slice (h : Prs e w v L) : ∃ A cap, v = .slice A L.length cap := own_slice h
theorem Prs.len (h : Prs e w v L) : L.length ≤ maxLen := by
  rcases h.2 with ⟨_, h0⟩ | ⟨g, cap, cur, _, _, _, h1, h2, _⟩
  · rw [h0]; exact Nat.zero_le _
  · exact Nat.le_trans h1 h2
theorem Prs.cells {A : Option Addr} {n cap : Nat} (h : Prs e w (.slice A n cap) L) {k : Nat} (hk : k < L.length) :
    ∃ g, A = some ⟨g, 0, none⟩ ∧ w.cell? ⟨g, k * 2, none⟩ = some (.int .i64 (L.getD k (0, 0)).1) ∧ w.cell? ⟨g, k * 2 + 1, none⟩ = some (.int .i64 (L.getD k (0, 0)).2) := by
  obtain ⟨hl, h2⟩ := h
  rcases h2 with ⟨_, h0⟩ | ⟨g, c, cur, hv, hb, hh, hn, hm, hs, ht⟩
  · omega
  · injection hv with h1
    obtain ⟨f0, f1⟩ := flat_get L k hk
    have cc : ∀ i, i < L.length * 2 → w.cell? ⟨g, i, none⟩ = (flat L)[i]? := fun i hi => by
      have e1 : w.cell? ⟨g, i, none⟩ = cur[i]? := by simp [World.cell?, hh]
      rw [e1, ← ht, List.getElem?_take, if_pos hi]; simp
    exact ⟨g, h1, by rw [cc _ (by omega), f0], by rw [cc _ (by omega), f1]⟩
theorem add_off (g off j : Nat) : (⟨g, off, none⟩ : Addr).add j = ⟨g, off + j, none⟩ := by
  unfold Addr.add; split
  · subst_vars; rfl
  · rfl
theorem Prs.news {a : Addr} {n cap : Nat} (h : Prs e w (.slice (some a) n cap) L) : ∀ j u, (flat L)[j]? = some u → w.cell? (a.add j) = some u := by
  intro j u hu
  have hj : j < L.length * 2 := by rw [← flat_len]; exact (List.getElem?_eq_some_iff.1 hu).1
  rcases h.2 with ⟨_, h0⟩ | ⟨g, c, cur, hv, hb, hh, hn, hm, hs, ht⟩
  · omega
  · injection hv with h1
    injection h1 with h1
    subst h1
    rw [add_off, Nat.zero_add]
    have e1 : w.cell? ⟨g, j, none⟩ = cur[j]? := by simp [World.cell?, hh]
    rw [← ht, List.getElem?_take, if_pos hj] at hu
    rw [e1]; simpa using hu
theorem prs_one (e : TypeId) (w : World) (a b : Int) : Prs e (w.alloc (.cells #[.int .i64 a, .int .i64 b] e)) (.slice (some ⟨w.heap.size, 0, none⟩) 1 1) [(a, b)] :=
  ⟨rfl, .inr ⟨w.heap.size, 1, _, rfl, Nat.zero_le _, heap_alloc_new w _, Nat.le_refl _, by unfold maxLen; omega, rfl, rfl⟩⟩
/-- What the types must be. -/
structure PairT (ts e : TypeId) : Prop where
  sl : Try.prog.underlying ts = some (.slice e)
  info : (Try.prog.info? e).map (fun i => (i.zero, i.size, i.bytes)) = some (some (.agg #[.int .i64 0, .int .i64 0]), 2, 16)
theorem run_appP (T : PairT ts e) (ty : TypeId) (J : Prs e w v L) (R : Prs e w v2 M) (hl : L.length + M.length ≤ 8192) :
    ∃ v' w', (Builtin.append_ #[ts, ts] ty #[v, v2]).run Try.prog w = .ok v' w' ∧ Prs e w' v' (L ++ M) ∧ w.grownBy w' v.ownBlock ∧ (v'.ownBlock = v.ownBlock ∨ v'.ownBlock = some w.heap.size) := by
  obtain ⟨i9, hi, hz0, hz1, hz2⟩ := info_parts T.info
  by_cases h0 : M = []
  · subst h0
    obtain ⟨A, cap, rfl⟩ := R.slice
    refine ⟨v, w, ?_, by simpa using J, ⟨rfl, rfl, rfl, Nat.le_refl _, fun _ _ _ => rfl⟩, .inl rfl⟩
    have hf : (Builtin.firstCells i9.size 0 (.slice A 0 cap)).run Try.prog w = .ok #[] w := by
      cases A with
      | none => exact run_firstCells_none _ _ _ _ _
      | some a => exact run_firstCells_some (P := Try.prog) w i9.size 0 a 0 cap [] (by simp) (by simp)
    rcases J.2 with ⟨rfl, _⟩ | ⟨g, c, cur, rfl, _, hg, hc, _⟩
    · simp [Builtin.append_, run_underlying T.sl, sizeOf, typeInfo, hi, Builtin.lenOf, hf]
    · have hc2 : L.length ≤ c := hc
      simp [Builtin.append_, run_underlying T.sl, sizeOf, typeInfo, hi, Builtin.lenOf, hf, hc2, storeCells]
  · have hp := List.length_pos_iff.2 h0
    obtain ⟨A, cap, rfl⟩ := R.slice
    obtain ⟨b, rfl, _⟩ := R.cells hp
    obtain ⟨g, c, w', hr, h2, h3, h4, h5⟩ := run_append_lies (P := Try.prog) w ts ty 0 e i9 (.agg #[.int .i64 0, .int .i64 0]) 2 16 T.sl hi hz0 hz1 hz2 rfl (by decide) v L.length (flat L) J ⟨b, 0, none⟩ M.length cap (flat M) (flat_len M) R.news (flat_one M) hp (by unfold maxLen; omega) (by omega) (Nat.zero_le _) _ rfl
    refine ⟨_, w', hr, ?_, h3, ?_⟩
    · unfold Prs
      rw [List.length_append, flat_app]
      exact h2
    · rcases h4 with h | h
      · exact .inl h.symm
      · exact .inr (by rw [h]; rfl)
theorem wp_appP {o : Oper} {a : Act} {K : Act → World → Prop} {Q : Exit → Act → World → Prop} (T : PairT ts e) (s x : Operand)
    (ho : o.op = .call { callee := .builtin .append, args := #[s, x], argTypes := #[ts, ts] }) (hs : a.eval s = v) (hx : a.eval x = v2) (J : Prs e w v L) (R : Prs e w v2 M) (hl : L.length + M.length ≤ 8192)
    (h : ∀ v' w', Prs e w' v' (L ++ M) → w.grownBy w' v.ownBlock → (v'.ownBlock = v.ownBlock ∨ v'.ownBlock = some w.heap.size) → K (a.put o.dst v') w') : o.wp Try.prog a w K Q := by
  obtain ⟨v', w', hr, h2, h3, h4⟩ := run_appP T o.type J R hl
  unfold Oper.wp execOp
  simp only [ho, resolve, invoke, builtin, Sem.run_bind, Sem.run_pure, Result.andThen_ok, List.map_toArray, List.map_cons, List.map_nil, hs, hx, hr]
  exact h v' w' h2 h3 h4
theorem wpList_appP {ops : Array Oper} {rest : List Oper} {o : Oper} {a : Act} {Q : Exit → Act → World → Prop} (T : PairT ts e) (hgd : o.guard = none) (s x : Operand)
    (ho : o.op = .call { callee := .builtin .append, args := #[s, x], argTypes := #[ts, ts] }) (hs : a.eval s = v) (hx : a.eval x = v2) (J : Prs e w v L) (R : Prs e w v2 M) (hl : L.length + M.length ≤ 8192)
    (h : ∀ v' w', Prs e w' v' (L ++ M) → w.grownBy w' v.ownBlock → (v'.ownBlock = v.ownBlock ∨ v'.ownBlock = some w.heap.size) → wpList Try.prog ops Q rest (a.put o.dst v') w') : wpList Try.prog ops Q (o :: rest) a w :=
  wpList_plain hgd fun _ hK => wp_appP T s x ho hs hx J R hl fun v' w' h2 h3 h4 => hK _ _ (h v' w' h2 h3 h4)
/-- Behind an append: what was there is there, but for the row itself. -/
theorem Prs.grown (h : Prs e w v L) (u : w.grownBy w' row) (a : ∀ k, row = some k → v.ownBlock ≠ some k) : Prs e w' v L := by
  refine ⟨h.1, ?_⟩
  rcases h.2 with h | ⟨g, cap, cur, rfl, hb, hh, r⟩
  · exact .inl h
  · exact .inr ⟨g, cap, cur, rfl, hb, (u.block g (some_lt hh) (fun e => a g e.symm rfl)).trans hh, r⟩
def Fresh (w : World) (v : Value) : Prop := ∀ k, v.ownBlock = some k → w.heap.size ≤ k
theorem fresh_nil (w : World) : Fresh w (.slice none 0 0) := fun k hk => by simp [Value.ownBlock] at hk
theorem up_app {a : World} (u : Up a w) (hg : w.grownBy w' v.ownBlock) (F : Fresh a v) : Up a w' := u.grown hg fun k hk => F k hk
theorem fresh_app {a : World} {v' : Value} (F : Fresh a v) (u : a.heap.size ≤ w.heap.size) (h : v'.ownBlock = v.ownBlock ∨ v'.ownBlock = some w.heap.size) : Fresh a v' := by
  intro k hk
  rcases h with h | h
  · exact F k (h ▸ hk)
  · rw [hk] at h; injection h with h; omega
theorem Else.grownK {a : World} (h : Else s a w) (g : w.grownBy w' row) (hr : ∀ k, row = some k → k ∈ s ∨ a.heap.size ≤ k) : Else s a w' := by
  refine ⟨g.os.trans h.os, g.tape.trans h.tape, g.output.trans h.output, Nat.le_trans h.size g.size, fun k hk hs => ?_⟩
  refine (g.block k (Nat.lt_of_lt_of_le hk h.size) (fun e => ?_)).trans (h.block k hk hs)
  rcases hr k e.symm with h' | h'
  · exact hs h'
  · omega
theorem shapeP (h : Prs e w v L) : ∃ A N c, v = .slice A N c := by obtain ⟨A, c, e⟩ := h.slice; exact ⟨A, _, c, e⟩
end
def Next (w : World) (F F' : List Nat) : Prop := ∀ b, b ∈ F' → b ∈ F ∨ w.heap.size ≤ b
theorem Next.refl (w : World) (F : List Nat) : Next w F F := fun _ h => .inl h
theorem Next.trans {w w' : World} {F F' F'' : List Nat} (h : Next w F F') (k : Next w' F' F'') (u : w.heap.size ≤ w'.heap.size) : Next w F F'' := fun b hb => (k b hb).elim (h b) (fun h => .inr (by omega))
end Go.Proofs.Ytkfmnaocdfoigaa
