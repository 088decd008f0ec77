/-
  More of slices of ints: slices.Clone of whatever list, append as a step of a region that draws, shapes, blocks of an object (Next, less). (Behind IntRow.)
-/
import Derived.Test.YthmaibbminnplaaIntRow
import Derived.Test.YthmaibbminnplaaPut
import Derived.Deep.RegionLaw
namespace Go.Proofs.Ythmaibbminnplaa
open Go.RowKit
set_option maxRecDepth 100000

/-- Blocks of before, or new ones. -/
def Next (w : World) (F F' : List Nat) : Prop := ∀ b, b ∈ F' → b ∈ F ∨ w.heap.size ≤ b
section
variable {w w1 w2 w' : World} {n : Nat} {F : List Nat} {v : Value} {a : Int} {xs : List Int}
theorem Next.refl (w : World) (F : List Nat) : Next w F F := fun _ h => .inl h
theorem Next.trans {F' F'' : List Nat} (h : Next w F F') (k : Next w' F' F'') (u : w.heap.size ≤ w'.heap.size) : Next w F F'' := fun b hb => (k b hb).elim (h b) (fun h => .inr (by omega))
set_option maxHeartbeats 1000000 in
theorem clone_any {xs : List Int} (R : Rd w v xs) (hl : xs.length ≤ 8192) :
    Calls Try.prog 22 #[v] w fun e w' => ∃ v', e = .returned v' ∧ Ints w' v' xs ∧ Fresh w v' ∧ Up w w' := by
  obtain ⟨A, cap, rfl⟩ := R.slice
  have q1 : ∀ (w : World) (a : Option Addr) (n c n' c' : Nat), (binOp .eql 28 (.slice a n c) (.slice none n' c')).run Try.prog w = .ok (.bool a.isNone) w := fun w a n c n' c' => Lib.run_eql_slice_nil w _ _ a n c n' c' Try.underlying28
  cases A with
  | none =>
    have e : xs = [] := by
      rcases xs with _ | ⟨x, xs⟩
      · rfl
      · obtain ⟨g, off, h, _⟩ := R.cell (j := 0) (by simp); cases h
    subst e
    clear R
    go_enter Try.func22, Try.ntmps22
    go_wp2_with fail
    go_ret
    exact ⟨_, rfl, Ints.nil _, fresh_nil _, Up.refl _⟩
  | some a =>
    have HR := Lib.hid R
    clear R
    have HO := Lib.hid (ints_of_own (xs := []) (own_empty w) rfl rfl)
    go_enter Try.func22, Try.ntmps22
    go_wp2_with (at_builtin; refine wpList_app rfl _ _ rfl rfl rfl HO.out (HR.out.up (Up.alloc _ _)) (by simpa using hl) ?_; intro v5 w5 J5 G5 A5; have HJ5 := Lib.hid J5; have HG5 := Lib.hid G5; have HA5 := Lib.hid A5; clear J5 G5 A5)
    go_ret
    have f0 : Fresh w (.slice (some ⟨w.heap.size, 0, none⟩) 0 0) := fun k hk => by simp [Value.ownBlock] at hk; omega
    exact ⟨_, rfl, by simpa using HJ5.out, fresh_app f0 (by simp) HA5.out, up_app (Up.alloc _ _) HG5.out f0⟩
/-- The blocks without one slice's. -/
def less (F : List Nat) (v : Value) : List Nat := F.filter (fun b => decide (v.ownBlock ≠ some b))
theorem mem_less {b : Nat} : b ∈ less F v ↔ b ∈ F ∧ v.ownBlock ≠ some b := by simp [less]
theorem fresh_of_le {a b : World} (Fr : Fresh b v) (h : a.heap.size ≤ b.heap.size) : Fresh a v := fun k hk => Nat.le_trans h (Fr k hk)
theorem shapeI {xs : List Int} (h : Ints w v xs) : ∃ A N c, v = .slice A N c := by obtain ⟨A, c, e⟩ := h.slice; exact ⟨A, _, c, e⟩
theorem Else.grown {s : List Nat} {a : World} {row : Option Nat} (h : Else s a w) (g : w.grownBy w' row) (hr : ∀ k, row = some k → k ∈ s ∨ a.heap.size ≤ k) : Else s a w' :=
  ⟨g.os.trans h.os, g.tape.trans h.tape, g.output.trans h.output, Nat.le_trans h.size g.size, fun k hk hs => (g.block k (Nat.lt_of_lt_of_le hk h.size) (fun e => by rcases hr k e.symm with h' | h'; exact hs h'; omega)).trans (h.block k hk hs)⟩
def nOf : Value → Nat
  | .slice _ n _ => n
  | _ => 0
theorem Ints.nOf {xs : List Int} (h : Ints w v xs) : nOf v = xs.length := by obtain ⟨A, c, rfl⟩ := h.slice; rfl
theorem Ints.one {c : Nat} {A : Option Addr} (J : Ints w (.slice A n c) [a]) : ∃ g, A = some ⟨g, 0, none⟩ ∧ w.cell? ⟨g, 0, none⟩ = some (.int .i64 a) := by
  obtain ⟨A', c', e⟩ := J.slice
  injection e with e1 e2 e3
  subst e1 e2 e3
  obtain ⟨g, h1, h2⟩ := own_cell (j := 0) J (by simp)
  exact ⟨g, h1, by simpa using h2⟩
theorem away_next {F' : List Nat} (A : Away v F) (N : Next w F F') (J : Ints w v xs) : Away v F' := fun b hb e => by
  rcases N b hb with h | h
  · exact A b h e
  · have := J.lt e; omega
/-- append as one step of a region that draws its order. -/
theorem step_app {v2 : Value} {xs ys : List Int} {ops : Array Oper} {o : Oper} {a : Act} {K : Act → World → Prop} {Q : Exit → Act → World → Prop} {E : Prop} (hgd : o.guard = none) (s x : Operand)
    (ho : o.op = .call { callee := .builtin .append, args := #[s, x], argTypes := #[28, 28] }) (hs : a.eval s = v) (hx : a.eval x = v2) (J : Ints w v xs) (Rd2 : Rd w v2 ys) (hl : xs.length + ys.length ≤ 8192)
    (h : ∀ v' w', Ints w' v' (xs ++ ys) → w.grownBy w' v.ownBlock → (v'.ownBlock = v.ownBlock ∨ v'.ownBlock = some w.heap.size) → K (a.put o.dst v') w') : if Region.wanted o (yielded ops a.tmps) = true then Oper.wp Try.prog o a w K Q else E := by
  have hw : Region.wanted o (yielded ops a.tmps) = true := by simp [Region.wanted, hgd]
  rw [if_pos hw]
  exact wp_app s x ho hs hx J Rd2 hl h
theorem wf_bounds {x : Int} (h : (Lit.int .i64 x).wf = true) : -9223372036854775808 ≤ x ∧ x < 9223372036854775808 := by
  simp [Lit.wf, IntKind.min, IntKind.max, IntKind.bits, IntKind.signed] at h; omega
theorem row_wf {w : World} {a : Option Addr} {len cap : Nat} {zs : List Int} (h : IsRow .i64 w a len cap zs) {k : Nat} (hk : k < len) : (Lit.int .i64 (zs.getD k 0)).wf = true := by
  rcases h with ⟨_, rfl, _, _⟩ | ⟨x, _, hl, hm, hz, _, hw⟩
  · omega
  · exact hw _ (get_mem (by omega))
end
end Go.Proofs.Ythmaibbminnplaa
