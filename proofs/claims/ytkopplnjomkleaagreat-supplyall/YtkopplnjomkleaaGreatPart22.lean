/-
  Texts beneath SupplyAll, part 22: RLimMath, RefLimbo.
-/
import Derived.Test.YtkopplnjomkleaaGreatPart21
/-
  The reference's limbo as numbers and lists (Lb again; a bucket without items keeps its tag); that it goes with the program's. No program is named here.
-/
namespace Go.Proofs.YtkopplnjomkleaaGreat

def Lb.rzero : Lb := ⟨fun _ => 0, fun _ => [], -1⟩
def Lb.rclear (R : Lb) (k : Nat) : Lb := ⟨R.T, put R.L k [], R.last⟩
def Lb.rretire (R : Lb) (k : Nat) (tag : Int) (xs : List Int) : Lb := (if R.L k ≠ [] ∧ R.T k < tag then R.rclear k else R).add k tag xs
def Lb.rtaken (R : Lb) (k : Nat) (tag : Int) : List Int := if R.L k ≠ [] ∧ R.T k < tag then R.L k else []
def Lb.rpick (R : Lb) (now : Int) (r : Option Nat) (k : Nat) : Option Nat :=
  if R.L k = [] then r else if now - 2 < R.T k then r else match r with
    | none => some k
    | some j => if R.T k < R.T j then some k else some j
def Lb.rTo (R : Lb) (now : Int) : Nat → Option Nat
  | 0 => none
  | k + 1 => R.rpick now (R.rTo now k) k
def Lb.ropn (R : Lb) (now : Int) : Option Nat := if now < 2 then none else R.rTo now 3
theorem Lb.rTo_lt {R : Lb} {now : Int} : ∀ {n k : Nat}, R.rTo now n = some k → k < n ∧ R.L k ≠ [] ∧ R.T k ≤ now - 2
  | 0, k, h => by cases h
  | n + 1, k, h => by
    unfold Lb.rTo Lb.rpick at h
    split at h
    · have := Lb.rTo_lt h; exact ⟨by omega, this.2⟩
    · rename_i hn
      split at h
      · have := Lb.rTo_lt h; exact ⟨by omega, this.2⟩
      · rename_i hc
        split at h
        · injection h with h; subst h; exact ⟨by omega, hn, by omega⟩
        · rename_i j hj
          split at h
          · injection h with h; subst h; exact ⟨by omega, hn, by omega⟩
          · injection h with h; subst h; have := Lb.rTo_lt hj; exact ⟨by omega, this.2⟩
theorem Lb.rTo_none {R : Lb} {now : Int} : ∀ {n : Nat}, R.rTo now n = none → ∀ k, k < n → R.L k = [] ∨ now - 2 < R.T k
  | 0, _, k, hk => absurd hk (by omega)
  | n + 1, h, k, hk => by
    unfold Lb.rTo Lb.rpick at h
    split at h
    · rename_i hn
      rcases Nat.lt_succ_iff_lt_or_eq.1 hk with h' | rfl
      · exact Lb.rTo_none h k h'
      · exact .inl hn
    · split at h
      · rename_i hn
        rcases Nat.lt_succ_iff_lt_or_eq.1 hk with h' | rfl
        · exact Lb.rTo_none h k h'
        · exact .inr hn
      · split at h
        · cases h
        · split at h <;> cases h
/-- Of those that are open the first of the least tag. -/
theorem Lb.rTo_least {R : Lb} {now : Int} : ∀ {n k : Nat}, R.rTo now n = some k → ∀ j, j < n → R.L j ≠ [] → R.T j ≤ now - 2 → R.T k ≤ R.T j ∧ (j < k → R.T k < R.T j)
  | 0, _, h, _, _, _, _ => by cases h
  | n + 1, k, h, j, hj, hl, ht => by
    unfold Lb.rTo Lb.rpick at h
    split at h
    · rename_i hn
      rcases Nat.lt_succ_iff_lt_or_eq.1 hj with h' | rfl
      · exact Lb.rTo_least h j h' hl ht
      · exact absurd hn hl
    · split at h
      · rename_i hn
        rcases Nat.lt_succ_iff_lt_or_eq.1 hj with h' | rfl
        · exact Lb.rTo_least h j h' hl ht
        · omega
      · split at h
        · rename_i hno
          injection h with h; subst h
          rcases Nat.lt_succ_iff_lt_or_eq.1 hj with h' | rfl
          · rcases Lb.rTo_none hno j h' with h'' | h''
            · exact absurd h'' hl
            · omega
          · exact ⟨Int.le_refl _, fun h => by omega⟩
        · rename_i i hi
          have hil := Lb.rTo_lt hi
          split at h
          · rename_i hlt
            injection h with h; subst h
            rcases Nat.lt_succ_iff_lt_or_eq.1 hj with h' | rfl
            · have := Lb.rTo_least hi j h' hl ht; exact ⟨by omega, fun _ => by omega⟩
            · exact ⟨Int.le_refl _, fun h => by omega⟩
          · rename_i hlt
            injection h with h; subst h
            rcases Nat.lt_succ_iff_lt_or_eq.1 hj with h' | rfl
            · exact Lb.rTo_least hi j h' hl ht
            · exact ⟨by omega, fun h => by omega⟩
theorem Lb.oldTo_first {S : Lb} : ∀ {n k : Nat}, S.oldTo n = some k → ∀ j, j < k → S.L j ≠ [] → S.T k < S.T j
  | 0, _, h, _, _, _ => by cases h
  | n + 1, k, h, j, hj, hl => by
    have hk := (Lb.oldTo_lt h).1
    unfold Lb.oldTo Lb.pick at h
    split at h
    · exact Lb.oldTo_first h j hj hl
    · split at h
      · rename_i hno
        injection h with h; subst h
        exact absurd (Lb.oldTo_none hno j hj) hl
      · rename_i i hi
        split at h
        · injection h with h; subst h
          have := Lb.oldTo_least hi j hj hl; omega
        · injection h with h; subst h
          exact Lb.oldTo_first hi j hj hl

/-- The program's limbo and the reference's say the same. -/
structure Sim (S R : Lb) : Prop where
  ok : S.Ok
  L : ∀ k, S.L k = R.L k
  T : ∀ k, k < 3 → S.L k ≠ [] → S.T k = R.T k
  last : (R.last = -1 ∧ S.last = 0) ∨ R.last = S.last
theorem Sim.zero : Sim Lb.zero Lb.rzero := ⟨Lb.Ok.zero, fun _ => rfl, fun _ _ h => absurd rfl h, .inl ⟨rfl, rfl⟩⟩
theorem Sim.size {S R : Lb} (h : Sim S R) : R.size = S.size := by unfold Lb.size; rw [h.L, h.L, h.L]
theorem Sim.opn {S R : Lb} (h : Sim S R) (now : Int) : R.ropn now = S.opn now := by
  unfold Lb.ropn
  by_cases hn : now < 2
  · rw [if_pos hn]
    rcases ho : S.opn now with _ | k
    · rfl
    · obtain ⟨_, h1, _, h3⟩ := Lb.opn_some ho
      have := h.ok.lo k h1
      omega
  · rw [if_neg hn]
    rcases hr : R.rTo now 3 with _ | k
    · rcases ho : S.opn now with _ | j
      · rfl
      · obtain ⟨_, h1, h2, h3⟩ := Lb.opn_some ho
        rcases Lb.rTo_none hr j h1 with h' | h'
        · exact absurd (h.L j ▸ h') h2
        · have := h.T j h1 h2; omega
    · obtain ⟨k1, k2, k3⟩ := Lb.rTo_lt hr
      have k2' : S.L k ≠ [] := by rw [h.L]; exact k2
      have tk := h.T k k1 k2'
      rcases ho : S.opn now with _ | j
      · have := Lb.opn_none ho k k1 k2'; omega
      · obtain ⟨h0, h1, h2, h3⟩ := Lb.opn_some ho
        have tj := h.T j h1 h2
        have h2' : R.L j ≠ [] := by rw [← h.L]; exact h2
        have a := Lb.rTo_least hr j h1 h2' (by omega)
        have b := Lb.oldTo_least h0 k k1 k2'
        by_cases e : k = j
        · rw [e]
        · exfalso
          rcases Nat.lt_or_gt_of_ne e with hlt | hgt
          · have := Lb.oldTo_first h0 k hlt k2'; omega
          · have := a.2 hgt; omega
theorem Sim.clear {S R : Lb} (h : Sim S R) (k : Nat) : Sim (S.clear k) (R.rclear k) := by
  refine ⟨h.ok.clear k, fun j => ?_, fun j hj hl => ?_, h.last⟩
  · unfold Lb.clear Lb.rclear put; dsimp only; split
    · rfl
    · exact h.L j
  · by_cases e : j = k
    · subst e; exact absurd (put_same S.L j []) hl
    · have hl' : S.L j ≠ [] := by rw [← put_other S.L [] e]; exact hl
      rw [show (S.clear k).T j = S.T j from put_other _ _ e]
      exact h.T j hj hl'
theorem Lb.size_rclear {R : Lb} {k : Nat} (hk : k < 3) : R.size = (R.rclear k).size + (R.L k).length := by
  have : k = 0 ∨ k = 1 ∨ k = 2 := by omega
  unfold Lb.size Lb.rclear put
  rcases this with rfl | rfl | rfl <;> simp <;> omega
theorem Sim.taken {S R : Lb} (h : Sim S R) {k : Nat} (hk : k < 3) (tag : Int) : R.rtaken k tag = S.taken k tag := by
  unfold Lb.rtaken Lb.taken
  by_cases hl : S.L k = []
  · rw [if_neg (by rw [← h.L]; intro h'; exact h'.1 hl)]
    split
    · exact hl.symm
    · rfl
  · have ht := h.T k hk hl
    by_cases c : S.T k < tag
    · rw [if_pos ⟨by rw [← h.L]; exact hl, by omega⟩, if_pos c, h.L]
    · rw [if_neg (by intro h'; omega), if_neg c]
theorem Sim.retire {S R : Lb} (h : Sim S R) {k : Nat} {tag : Int} {xs : List Int} (hk : k < 3) (h0 : S.last ≤ tag) (h1 : tag ≤ 4611686018427387903) (hr : tag % 3 = k) (hx : xs ≠ []) : Sim (S.retire k tag xs) (R.rretire k tag xs) := by
  refine ⟨h.ok.retire h0 h1 hr hx, fun j => ?_, fun j hj hl => ?_, .inr ?_⟩
  · by_cases e : j = k
    · subst e
      unfold Lb.retire Lb.rretire
      by_cases hl : S.L j = []
      · have e1 : (if S.T j < tag then S.clear j else S).L j = [] := by split; exact put_same _ _ _; exact hl
        have e2 : (if R.L j ≠ [] ∧ R.T j < tag then R.rclear j else R) = R := if_neg (by rw [← h.L]; intro h'; exact h'.1 hl)
        rw [e2]
        show put _ j _ j = put _ j _ j
        rw [put_same, put_same, e1, ← h.L, hl]
      · have ht := h.T j hk hl
        by_cases c : S.T j < tag
        · have e2 : (if R.L j ≠ [] ∧ R.T j < tag then R.rclear j else R) = R.rclear j := if_pos ⟨by rw [← h.L]; exact hl, by omega⟩
          have e1 : (if S.T j < tag then S.clear j else S) = S.clear j := if_pos c
          rw [e1, e2]
          show put _ j _ j = put _ j _ j
          rw [put_same, put_same]
          show put S.L j [] j ++ xs = put R.L j [] j ++ xs
          rw [put_same, put_same]
        · have e2 : (if R.L j ≠ [] ∧ R.T j < tag then R.rclear j else R) = R := if_neg (by intro h'; omega)
          have e1 : (if S.T j < tag then S.clear j else S) = S := if_neg c
          rw [e1, e2]
          show put _ j _ j = put _ j _ j
          rw [put_same, put_same, h.L]
    · have a : (S.retire k tag xs).L j = S.L j := by
        unfold Lb.retire; split
        · exact (put_other _ _ e).trans (put_other _ _ e)
        · exact put_other _ _ e
      have b : (R.rretire k tag xs).L j = R.L j := by
        unfold Lb.rretire; split
        · exact (put_other _ _ e).trans (put_other _ _ e)
        · exact put_other _ _ e
      rw [a, b, h.L]
  · by_cases e : j = k
    · subst e
      have a : (S.retire j tag xs).T j = tag := by unfold Lb.retire; split <;> exact put_same _ _ _
      have b : (R.rretire j tag xs).T j = tag := by unfold Lb.rretire; split <;> exact put_same _ _ _
      rw [a, b]
    · have a : (S.retire k tag xs).L j = S.L j ∧ (S.retire k tag xs).T j = S.T j := by
        unfold Lb.retire; split
        · exact ⟨(put_other _ _ e).trans (put_other _ _ e), (put_other _ _ e).trans (put_other _ _ e)⟩
        · exact ⟨put_other _ _ e, put_other _ _ e⟩
      have b : (R.rretire k tag xs).T j = R.T j := by
        unfold Lb.rretire; split
        · exact (put_other _ _ e).trans rfl
        · exact put_other _ _ e
      rw [a.1] at hl
      rw [a.2, b]
      exact h.T j hj hl
  · have a : (S.retire k tag xs).last = tag := by unfold Lb.retire; split <;> rfl
    have b : (R.rretire k tag xs).last = tag := by unfold Lb.rretire; split <;> rfl
    rw [a, b]
/-- May these items be retired? -/
theorem Sim.may {S R : Lb} (h : Sim S R) (tag : Int) : (0 ≤ tag ∧ R.last ≤ tag) ↔ S.last ≤ tag := by
  have := h.ok.last0
  rcases h.last with ⟨a, b⟩ | a
  · rw [a, b]; omega
  · rw [a]; omega
def Lb.routs : Nat → Lb → Int → List Int
  | 0, _, _ => []
  | n + 1, R, now => match R.ropn now with
    | none => []
    | some k => R.L k ++ Lb.routs n (R.rclear k) now
def Lb.rrest : Nat → Lb → Int → Lb
  | 0, R, _ => R
  | n + 1, R, now => match R.ropn now with
    | none => R
    | some k => Lb.rrest n (R.rclear k) now
def Lb.router (R : Lb) (now : Int) : List Int := Lb.routs R.cnt R now
def Lb.rremain (R : Lb) (now : Int) : Lb := Lb.rrest R.cnt R now
theorem Lb.ropn_some {R : Lb} {now : Int} {k : Nat} (h : R.ropn now = some k) : 2 ≤ now ∧ R.rTo now 3 = some k ∧ k < 3 ∧ R.L k ≠ [] := by
  unfold Lb.ropn at h
  split at h
  · cases h
  · have := Lb.rTo_lt h; exact ⟨by omega, h, this.1, this.2.1⟩
theorem Lb.cnt_rclear {R : Lb} {k : Nat} (hk : k < 3) (hl : R.L k ≠ []) : R.cnt = (R.rclear k).cnt + 1 := by
  have : k = 0 ∨ k = 1 ∨ k = 2 := by omega
  unfold Lb.cnt Lb.rclear put
  rcases this with rfl | rfl | rfl <;> simp [hl] <;> omega
theorem Lb.router_some {R : Lb} {now : Int} {k : Nat} (h : R.ropn now = some k) : R.router now = R.L k ++ (R.rclear k).router now ∧ R.rremain now = (R.rclear k).rremain now := by
  obtain ⟨_, _, hk, hl⟩ := Lb.ropn_some h
  unfold Lb.router Lb.rremain
  rw [Lb.cnt_rclear hk hl]
  simp only [Lb.routs, Lb.rrest, h]
  exact ⟨trivial, trivial⟩
theorem Lb.router_none {R : Lb} {now : Int} (h : R.ropn now = none) : R.router now = [] ∧ R.rremain now = R := by
  unfold Lb.router Lb.rremain
  cases R.cnt <;> simp [Lb.routs, Lb.rrest, h]
theorem Sim.rdy (now : Int) : ∀ (n : Nat) {S R : Lb}, Sim S R → Lb.routs n R now = Lb.rdyL n S now ∧ Sim (Lb.rdyS n S now) (Lb.rrest n R now)
  | 0, _, _, h => ⟨rfl, h⟩
  | n + 1, S, R, h => by
    unfold Lb.routs Lb.rdyL Lb.rdyS Lb.rrest
    rw [h.opn now]
    rcases S.opn now with _ | k
    · exact ⟨rfl, h⟩
    · obtain ⟨a, b⟩ := Sim.rdy now n (h.clear k)
      exact ⟨by dsimp only; rw [a, h.L], b⟩
theorem Sim.cnt {S R : Lb} (h : Sim S R) : R.cnt = S.cnt := by unfold Lb.cnt; rw [h.L, h.L, h.L]
theorem Sim.ready {S R : Lb} (h : Sim S R) (now : Int) : R.router now = S.outs now ∧ Sim (S.rest now) (R.rremain now) := by
  unfold Lb.router Lb.rremain Lb.outs Lb.rest
  rw [h.cnt]
  exact Sim.rdy now _ h
end Go.Proofs.YtkopplnjomkleaaGreat

/-
  The reference's limbo in memory (RLim); the contracts of NewLimbo, least, Open, Len, Bucket.
-/
namespace Go.Proofs.YtkopplnjomkleaaGreat
open Go.RowKit
set_option maxRecDepth 100000

/-- The reference's limbo R lies at p; its buckets' slices are V; all its blocks are among F. -/
structure RLimV (w : World) (p : Nat) (F : List Nat) (R : Lb) (V : Nat → Value) : Prop where
  top : Whole w p 159 #[.int .i64 (R.T 0), .int .i64 (R.T 1), .int .i64 (R.T 2), V 0, V 1, V 2, .int .i64 R.last]
  ints : ∀ k, k < 3 → Ints w (V k) (R.L k)
  mem : p ∈ F
  inF : ∀ k, k < 3 → ∀ b, (V k).ownBlock = some b → b ∈ F
  nq : ∀ k, k < 3 → (V k).ownBlock ≠ some p
  dis : ∀ j k, j < 3 → k < 3 → j ≠ k → ∀ b, (V j).ownBlock = some b → (V k).ownBlock ≠ some b
  lt : ∀ b, b ∈ F → b < w.heap.size
def RLim (w : World) (p : Nat) (F : List Nat) (R : Lb) : Prop := ∃ V, RLimV w p F R V
section
variable {w w' w4 : World} {p : Nat} {F : List Nat} {R : Lb} {V : Nat → Value} {v : Value} {now tag : Int} {items : List Int}
theorem RLimV.up (E : RLimV w p F R V) (u : Up w w') : RLimV w' p F R V :=
  ⟨E.top.up u, fun k hk => (E.ints k hk).up u, E.mem, E.inF, E.nq, E.dis, fun b hb => Nat.lt_of_lt_of_le (E.lt b hb) u.size⟩
theorem RLimV.else (E : RLimV w p F R V) {l : List Nat} (u : Else l w w') (h : ∀ b, b ∈ F → b ∉ l) : RLimV w' p F R V :=
  ⟨u.whole E.top (h _ E.mem), fun k hk => (E.ints k hk).else u (fun b hb e => h b (E.inF k hk b e) hb), E.mem, E.inF, E.nq, E.dis, fun b hb => Nat.lt_of_lt_of_le (E.lt b hb) u.size⟩
theorem RLim.up (E : RLim w p F R) (u : Up w w') : RLim w' p F R := E.imp fun _ E => E.up u
theorem RLim.else (E : RLim w p F R) {l : List Nat} (u : Else l w w') (h : ∀ b, b ∈ F → b ∉ l) : RLim w' p F R := E.imp fun _ E => E.else u h
theorem RLim.lt (E : RLim w p F R) : ∀ b, b ∈ F → b < w.heap.size := E.elim fun _ E => E.lt
theorem RLim.mem (E : RLim w p F R) : p ∈ F := E.elim fun _ E => E.mem
theorem RLimV.cells (E : RLimV w p F R V) : w.cell? ⟨p, 0, none⟩ = some (.int .i64 (R.T 0)) ∧ w.cell? ⟨p, 1, none⟩ = some (.int .i64 (R.T 1)) ∧ w.cell? ⟨p, 2, none⟩ = some (.int .i64 (R.T 2)) ∧ w.cell? ⟨p, 3, none⟩ = some (V 0) ∧
    w.cell? ⟨p, 4, none⟩ = some (V 1) ∧ w.cell? ⟨p, 5, none⟩ = some (V 2) ∧ w.cell? ⟨p, 6, none⟩ = some (.int .i64 R.last) :=
  ⟨E.top.cell rfl, E.top.cell rfl, E.top.cell rfl, E.top.cell rfl, E.top.cell rfl, E.top.cell rfl, E.top.cell rfl⟩
theorem RLimV.slices (E : RLimV w p F R V) : ∃ A0 c0 A1 c1 A2 c2, V 0 = .slice A0 (R.L 0).length c0 ∧ V 1 = .slice A1 (R.L 1).length c1 ∧ V 2 = .slice A2 (R.L 2).length c2 := by
  obtain ⟨A0, c0, h0⟩ := (E.ints 0 (by decide)).slice
  obtain ⟨A1, c1, h1⟩ := (E.ints 1 (by decide)).slice
  obtain ⟨A2, c2, h2⟩ := (E.ints 2 (by decide)).slice
  exact ⟨A0, c0, A1, c1, A2, c2, h0, h1, h2⟩
set_option maxHeartbeats 400000 in
theorem rlnew_any (w : World) : Calls Tryz.prog 82 #[] w fun e w' => ∃ p, e = .returned (.pointer (some ⟨p, 0, none⟩)) ∧ RLim w' p [p] Lb.rzero ∧ w.heap.size ≤ p ∧ Up w w' := by
  go_enter Tryz.func82, Tryz.ntmps82
  go_wp2
  go_ret
  refine ⟨_, rfl, ⟨fun _ => .slice none 0 0, ?_⟩, Nat.le_refl _, Up.alloc _ _⟩
  refine ⟨Whole.new _ _ _, fun k hk => Ints.nil _, by simp, fun k hk b hb => ?_, fun k hk hb => ?_, fun j k hj hk hjk b hb => ?_, fun b hb => ?_⟩
  · simp [Value.ownBlock] at hb
  · simp [Value.ownBlock] at hb
  · simp [Value.ownBlock] at hb
  · simp at hb; subst hb; simp
def idx : Option Nat → Int
  | none => -1
  | some k => k
theorem idx_none : idx none = -1 := rfl
theorem idx_0 : idx (some 0) = 0 := rfl
theorem idx_1 : idx (some 1) = 1 := rfl
theorem idx_2 : idx (some 2) = 2 := rfl
def LeastRel (w : World) (R : Lb) (now : Int) (v i : Value) (wr : World) : Prop := ∃ k : Nat, k ≤ 3 ∧ i = .int .i64 k ∧ v = .int .i64 (idx (R.rTo now k)) ∧ Up w wr
theorem rpick_nil {r : Option Nat} {k : Nat} (h : R.L k = []) : R.rpick now r k = r := by unfold Lb.rpick; rw [if_pos h]
theorem rpick_shut {r : Option Nat} {k : Nat} (h : R.L k ≠ []) (h1 : now - 2 < R.T k) : R.rpick now r k = r := by unfold Lb.rpick; rw [if_neg h, if_pos h1]
theorem rpick_first {k : Nat} (h : R.L k ≠ []) (h1 : ¬ now - 2 < R.T k) : R.rpick now none k = some k := by unfold Lb.rpick; rw [if_neg h, if_neg h1]
theorem rpick_less {j k : Nat} (h : R.L k ≠ []) (h1 : ¬ now - 2 < R.T k) (h2 : R.T k < R.T j) : R.rpick now (some j) k = some k := by unfold Lb.rpick; rw [if_neg h, if_neg h1]; dsimp only; rw [if_pos h2]
theorem rpick_more {j k : Nat} (h : R.L k ≠ []) (h1 : ¬ now - 2 < R.T k) (h2 : ¬ R.T k < R.T j) : R.rpick now (some j) k = some j := by unfold Lb.rpick; rw [if_neg h, if_neg h1]; dsimp only; rw [if_neg h2]
set_option maxHeartbeats 8000000 in
theorem least_any (E : RLim w p F R) (hn : 2 ≤ now) (hn2 : now < 9223372036854775808) : Calls Tryz.prog 132 #[.pointer (some ⟨p, 0, none⟩), .int .i64 now] w fun e w' => e = .returned (.int .i64 (idx (R.rTo now 3))) ∧ Up w w' := by
  obtain ⟨V, E⟩ := E
  obtain ⟨A0, d0, A1, d1, A2, d2, v0, v1, v2⟩ := E.slices
  obtain ⟨c0, c1, c2, c3, c4, c5, c6⟩ := E.cells
  rw [v0] at c3
  rw [v1] at c4
  rw [v2] at c5
  have HC := Lib.hid (And.intro c0 (And.intro c1 (And.intro c2 (And.intro c3 (And.intro c4 c5)))))
  have a1 : wrap64 (now - 2) = now - 2 := wrap64_in (by omega) (by omega)
  clear c0 c1 c2 c3 c4 c5 c6 v0 v1 v2 E
  go_enter Tryz.func132, Tryz.ntmps132
  go_wp2_with fail
  go_loopw [5, 6] (fun v i wr => LeastRel w R now v i wr) (fun _ i _ => 3 - (intOf i).toNat)
  case atStart => exact ⟨0, Nat.zero_le _, rfl, rfl, Up.refl _⟩
  case round =>
    obtain ⟨k, hk, rfl, rfl, hu⟩ := hrel
    have HU := Lib.hid hu
    obtain ⟨c0, c1, c2, c3, c4, c5⟩ := HC.out
    replace c0 := hu.kept c0
    replace c1 := hu.kept c1
    replace c2 := hu.kept c2
    replace c3 := hu.kept c3
    replace c4 := hu.kept c4
    replace c5 := hu.kept c5
    clear hu
    have : k = 0 ∨ k = 1 ∨ k = 2 ∨ k = 3 := by omega
    rcases this with rfl | rfl | rfl | rfl
    · obtain ⟨r, hr⟩ : ∃ r, R.rTo now 0 = r := ⟨_, rfl⟩
      have HR := Lib.hid hr
      rw [hr]
      obtain rfl : r = none := hr.symm
      clear hr
      rw [idx_none]
      by_cases hl : R.L 0 = []
      · have HP := Lib.hid (rpick_nil (R := R) (now := now) (r := none) hl)
        have e : (R.L 0).length = 0 := by rw [hl]; rfl
        rw [e] at c3
        clear hl e
        go_upto_region 5 with fail
        go_quiet (fail)
        go_wp2_with fail
        go_roundw
        case rel => exact ⟨1, by omega, by go_num, by rw [show R.rTo now 1 = R.rpick now (R.rTo now 0) 0 from rfl, HR.out, HP.out]; rfl, HU.out.then_drewN nq⟩
        case measure => simp [intOf]
      · have hp : 0 < (R.L 0).length := List.length_pos_iff.2 hl
        by_cases hs : now - 2 < R.T 0
        · have HP := Lib.hid (rpick_shut (r := none) hl hs)
          have hd : decide (R.T 0 ≤ now - 2) = false := decide_eq_false (by omega)
          clear hl
          go_upto_region 5 with fail
          go_quiet (fail)
          go_wp2_with fail
          go_roundw
          case rel => exact ⟨1, by omega, by go_num, by rw [show R.rTo now 1 = R.rpick now (R.rTo now 0) 0 from rfl, HR.out, HP.out]; rfl, HU.out.then_drewN nq⟩
          case measure => simp [intOf]
        · have hd : R.T 0 ≤ now - 2 := by omega
          have HP := Lib.hid (rpick_first hl hs)
          clear hl
          go_upto_region 5 with fail
          go_quiet (fail)
          go_wp2_with fail
          go_roundw
          case rel => exact ⟨1, by omega, by go_num, by rw [show R.rTo now 1 = R.rpick now (R.rTo now 0) 0 from rfl, HR.out, HP.out]; rfl, HU.out.then_drewN nq⟩
          case measure => simp [intOf]
    · obtain ⟨r, hr⟩ : ∃ r, R.rTo now 1 = r := ⟨_, rfl⟩
      have HR := Lib.hid hr
      rw [hr]
      rcases r with _ | j
      · clear hr
        rw [idx_none]
        by_cases hl : R.L 1 = []
        · have HP := Lib.hid (rpick_nil (R := R) (now := now) (r := none) hl)
          have e : (R.L 1).length = 0 := by rw [hl]; rfl
          rw [e] at c4
          clear hl e
          go_upto_region 5 with fail
          go_quiet (fail)
          go_wp2_with fail
          go_roundw
          case rel => exact ⟨2, by omega, by go_num, by rw [show R.rTo now 2 = R.rpick now (R.rTo now 1) 1 from rfl, HR.out, HP.out]; rfl, HU.out.then_drewN nq⟩
          case measure => simp [intOf]
        · have hp : 0 < (R.L 1).length := List.length_pos_iff.2 hl
          by_cases hs : now - 2 < R.T 1
          · have HP := Lib.hid (rpick_shut (r := none) hl hs)
            have hd : decide (R.T 1 ≤ now - 2) = false := decide_eq_false (by omega)
            clear hl
            go_upto_region 5 with fail
            go_quiet (fail)
            go_wp2_with fail
            go_roundw
            case rel => exact ⟨2, by omega, by go_num, by rw [show R.rTo now 2 = R.rpick now (R.rTo now 1) 1 from rfl, HR.out, HP.out]; rfl, HU.out.then_drewN nq⟩
            case measure => simp [intOf]
          · have hd : R.T 1 ≤ now - 2 := by omega
            have HP := Lib.hid (rpick_first hl hs)
            clear hl
            go_upto_region 5 with fail
            go_quiet (fail)
            go_wp2_with fail
            go_roundw
            case rel => exact ⟨2, by omega, by go_num, by rw [show R.rTo now 2 = R.rpick now (R.rTo now 1) 1 from rfl, HR.out, HP.out]; rfl, HU.out.then_drewN nq⟩
            case measure => simp [intOf]
      · have hj := (Lb.rTo_lt hr).1
        clear hr
        obtain rfl : j = 0 := by omega
        rw [idx_0]
        by_cases hl : R.L 1 = []
        · have HP := Lib.hid (rpick_nil (R := R) (now := now) (r := (some 0)) hl)
          have e : (R.L 1).length = 0 := by rw [hl]; rfl
          rw [e] at c4
          clear hl e
          go_upto_region 5 with fail
          go_quiet (fail)
          go_wp2_with fail
          go_roundw
          case rel => exact ⟨2, by omega, by go_num, by rw [show R.rTo now 2 = R.rpick now (R.rTo now 1) 1 from rfl, HR.out, HP.out]; rfl, HU.out.then_drewN nq⟩
          case measure => simp [intOf]
        · have hp : 0 < (R.L 1).length := List.length_pos_iff.2 hl
          by_cases hs : now - 2 < R.T 1
          · have HP := Lib.hid (rpick_shut (r := (some 0)) hl hs)
            have hd : decide (R.T 1 ≤ now - 2) = false := decide_eq_false (by omega)
            clear hl
            go_upto_region 5 with fail
            go_quiet (fail)
            go_wp2_with fail
            go_roundw
            case rel => exact ⟨2, by omega, by go_num, by rw [show R.rTo now 2 = R.rpick now (R.rTo now 1) 1 from rfl, HR.out, HP.out]; rfl, HU.out.then_drewN nq⟩
            case measure => simp [intOf]
          · have hd : R.T 1 ≤ now - 2 := by omega
            by_cases ht : R.T 1 < R.T 0
            · have HP := Lib.hid (rpick_less hl hs ht)
              clear hl
              go_upto_region 5 with fail
              go_quiet (fail)
              go_wp2_with fail
              go_roundw
              case rel => exact ⟨2, by omega, by go_num, by rw [show R.rTo now 2 = R.rpick now (R.rTo now 1) 1 from rfl, HR.out, HP.out]; rfl, HU.out.then_drewN nq⟩
              case measure => simp [intOf]
            · have HP := Lib.hid (rpick_more hl hs ht)
              clear hl
              have hd2 : decide (R.T 1 < R.T 0) = false := decide_eq_false ht
              go_upto_region 5 with fail
              go_quiet (fail)
              go_wp2_with fail
              go_roundw
              case rel => exact ⟨2, by omega, by go_num, by rw [show R.rTo now 2 = R.rpick now (R.rTo now 1) 1 from rfl, HR.out, HP.out]; rfl, HU.out.then_drewN nq⟩
              case measure => simp [intOf]
    · obtain ⟨r, hr⟩ : ∃ r, R.rTo now 2 = r := ⟨_, rfl⟩
      have HR := Lib.hid hr
      rw [hr]
      rcases r with _ | j
      · clear hr
        rw [idx_none]
        by_cases hl : R.L 2 = []
        · have HP := Lib.hid (rpick_nil (R := R) (now := now) (r := none) hl)
          have e : (R.L 2).length = 0 := by rw [hl]; rfl
          rw [e] at c5
          clear hl e
          go_upto_region 5 with fail
          go_quiet (fail)
          go_wp2_with fail
          go_roundw
          case rel => exact ⟨3, by omega, by go_num, by rw [show R.rTo now 3 = R.rpick now (R.rTo now 2) 2 from rfl, HR.out, HP.out]; rfl, HU.out.then_drewN nq⟩
          case measure => simp [intOf]
        · have hp : 0 < (R.L 2).length := List.length_pos_iff.2 hl
          by_cases hs : now - 2 < R.T 2
          · have HP := Lib.hid (rpick_shut (r := none) hl hs)
            have hd : decide (R.T 2 ≤ now - 2) = false := decide_eq_false (by omega)
            clear hl
            go_upto_region 5 with fail
            go_quiet (fail)
            go_wp2_with fail
            go_roundw
            case rel => exact ⟨3, by omega, by go_num, by rw [show R.rTo now 3 = R.rpick now (R.rTo now 2) 2 from rfl, HR.out, HP.out]; rfl, HU.out.then_drewN nq⟩
            case measure => simp [intOf]
          · have hd : R.T 2 ≤ now - 2 := by omega
            have HP := Lib.hid (rpick_first hl hs)
            clear hl
            go_upto_region 5 with fail
            go_quiet (fail)
            go_wp2_with fail
            go_roundw
            case rel => exact ⟨3, by omega, by go_num, by rw [show R.rTo now 3 = R.rpick now (R.rTo now 2) 2 from rfl, HR.out, HP.out]; rfl, HU.out.then_drewN nq⟩
            case measure => simp [intOf]
      · have hj := (Lb.rTo_lt hr).1
        clear hr
        have : j = 0 ∨ j = 1 := by omega
        rcases this with rfl | rfl
        · rw [idx_0]
          by_cases hl : R.L 2 = []
          · have HP := Lib.hid (rpick_nil (R := R) (now := now) (r := (some 0)) hl)
            have e : (R.L 2).length = 0 := by rw [hl]; rfl
            rw [e] at c5
            clear hl e
            go_upto_region 5 with fail
            go_quiet (fail)
            go_wp2_with fail
            go_roundw
            case rel => exact ⟨3, by omega, by go_num, by rw [show R.rTo now 3 = R.rpick now (R.rTo now 2) 2 from rfl, HR.out, HP.out]; rfl, HU.out.then_drewN nq⟩
            case measure => simp [intOf]
          · have hp : 0 < (R.L 2).length := List.length_pos_iff.2 hl
            by_cases hs : now - 2 < R.T 2
            · have HP := Lib.hid (rpick_shut (r := (some 0)) hl hs)
              have hd : decide (R.T 2 ≤ now - 2) = false := decide_eq_false (by omega)
              clear hl
              go_upto_region 5 with fail
              go_quiet (fail)
              go_wp2_with fail
              go_roundw
              case rel => exact ⟨3, by omega, by go_num, by rw [show R.rTo now 3 = R.rpick now (R.rTo now 2) 2 from rfl, HR.out, HP.out]; rfl, HU.out.then_drewN nq⟩
              case measure => simp [intOf]
            · have hd : R.T 2 ≤ now - 2 := by omega
              by_cases ht : R.T 2 < R.T 0
              · have HP := Lib.hid (rpick_less hl hs ht)
                clear hl
                go_upto_region 5 with fail
                go_quiet (fail)
                go_wp2_with fail
                go_roundw
                case rel => exact ⟨3, by omega, by go_num, by rw [show R.rTo now 3 = R.rpick now (R.rTo now 2) 2 from rfl, HR.out, HP.out]; rfl, HU.out.then_drewN nq⟩
                case measure => simp [intOf]
              · have HP := Lib.hid (rpick_more hl hs ht)
                clear hl
                have hd2 : decide (R.T 2 < R.T 0) = false := decide_eq_false ht
                go_upto_region 5 with fail
                go_quiet (fail)
                go_wp2_with fail
                go_roundw
                case rel => exact ⟨3, by omega, by go_num, by rw [show R.rTo now 3 = R.rpick now (R.rTo now 2) 2 from rfl, HR.out, HP.out]; rfl, HU.out.then_drewN nq⟩
                case measure => simp [intOf]
        · rw [idx_1]
          by_cases hl : R.L 2 = []
          · have HP := Lib.hid (rpick_nil (R := R) (now := now) (r := (some 1)) hl)
            have e : (R.L 2).length = 0 := by rw [hl]; rfl
            rw [e] at c5
            clear hl e
            go_upto_region 5 with fail
            go_quiet (fail)
            go_wp2_with fail
            go_roundw
            case rel => exact ⟨3, by omega, by go_num, by rw [show R.rTo now 3 = R.rpick now (R.rTo now 2) 2 from rfl, HR.out, HP.out]; rfl, HU.out.then_drewN nq⟩
            case measure => simp [intOf]
          · have hp : 0 < (R.L 2).length := List.length_pos_iff.2 hl
            by_cases hs : now - 2 < R.T 2
            · have HP := Lib.hid (rpick_shut (r := (some 1)) hl hs)
              have hd : decide (R.T 2 ≤ now - 2) = false := decide_eq_false (by omega)
              clear hl
              go_upto_region 5 with fail
              go_quiet (fail)
              go_wp2_with fail
              go_roundw
              case rel => exact ⟨3, by omega, by go_num, by rw [show R.rTo now 3 = R.rpick now (R.rTo now 2) 2 from rfl, HR.out, HP.out]; rfl, HU.out.then_drewN nq⟩
              case measure => simp [intOf]
            · have hd : R.T 2 ≤ now - 2 := by omega
              by_cases ht : R.T 2 < R.T 1
              · have HP := Lib.hid (rpick_less hl hs ht)
                clear hl
                go_upto_region 5 with fail
                go_quiet (fail)
                go_wp2_with fail
                go_roundw
                case rel => exact ⟨3, by omega, by go_num, by rw [show R.rTo now 3 = R.rpick now (R.rTo now 2) 2 from rfl, HR.out, HP.out]; rfl, HU.out.then_drewN nq⟩
                case measure => simp [intOf]
              · have HP := Lib.hid (rpick_more hl hs ht)
                clear hl
                have hd2 : decide (R.T 2 < R.T 1) = false := decide_eq_false ht
                go_upto_region 5 with fail
                go_quiet (fail)
                go_wp2_with fail
                go_roundw
                case rel => exact ⟨3, by omega, by go_num, by rw [show R.rTo now 3 = R.rpick now (R.rTo now 2) 2 from rfl, HR.out, HP.out]; rfl, HU.out.then_drewN nq⟩
                case measure => simp [intOf]
    · go_wp2_with fail
      go_ret
      exact ⟨rfl, HU.out⟩
theorem least_to (E : RLim w p F R) (hn : 2 ≤ now) (hn2 : now < 9223372036854775808) {r : Option Nat} (h : R.rTo now 3 = r) : Calls Tryz.prog 132 #[.pointer (some ⟨p, 0, none⟩), .int .i64 now] w fun e w' => e = .returned (.int .i64 (idx r)) ∧ Up w w' := h ▸ least_any E hn hn2
set_option maxHeartbeats 1000000 in
theorem ropen_any (E : RLim w p F R) (hn2 : now < 9223372036854775808) : Calls Tryz.prog 131 #[.pointer (some ⟨p, 0, none⟩), .int .i64 now] w fun e w' => e = .returned (.bool (R.ropn now).isSome) ∧ Up w w' := by
  have HE := Lib.hid E
  clear E
  by_cases hn : now < 2
  · have e : R.ropn now = none := if_pos hn
    rw [e]
    go_enter Tryz.func131, Tryz.ntmps131
    go_wp2_with fail
    go_ret
    exact ⟨rfl, Up.refl _⟩
  · have hn3 : 2 ≤ now := by omega
    have e : R.ropn now = R.rTo now 3 := if_neg hn
    rw [e]
    rcases h : R.rTo now 3 with _ | k
    · have HO := Lib.hid h
      clear h e
      go_enter Tryz.func131, Tryz.ntmps131
      go_wp2_with (go_at_call 132; refine (least_to HE.out hn3 hn2 HO.out).mono ?_; rintro e w1 ⟨rfl, U1⟩; rw [idx_none])
      go_ret
      exact ⟨rfl, U1⟩
    · have HO := Lib.hid h
      have k0 : (0 : Int) ≤ (k : Int) := Int.natCast_nonneg _
      clear h e
      go_enter Tryz.func131, Tryz.ntmps131
      go_wp2_with (go_at_call 132; refine (least_to HE.out hn3 hn2 HO.out).mono ?_; rintro e w1 ⟨rfl, U1⟩; unfold idx)
      go_ret
      exact ⟨rfl, U1⟩
theorem ropen_to (E : RLim w p F R) (hn2 : now < 9223372036854775808) {b : Bool} (h : (R.ropn now).isSome = b) : Calls Tryz.prog 131 #[.pointer (some ⟨p, 0, none⟩), .int .i64 now] w fun e w' => e = .returned (.bool b) ∧ Up w w' := h ▸ ropen_any E hn2
set_option maxHeartbeats 2000000 in
theorem rllen_any (E : RLim w p F R) (hs : R.size ≤ 1000000) : Calls Tryz.prog 94 #[.pointer (some ⟨p, 0, none⟩)] w fun e w' => e = .returned (.int .i64 (R.size : Nat)) ∧ Up w w' := by
  obtain ⟨V, E⟩ := E
  obtain ⟨A0, d0, A1, d1, A2, d2, v0, v1, v2⟩ := E.slices
  obtain ⟨c0, c1, c2, c3, c4, c5, c6⟩ := E.cells
  rw [v0] at c3
  rw [v1] at c4
  rw [v2] at c5
  unfold Lb.size at hs ⊢
  clear v0 v1 v2 E c0 c1 c2 c6
  generalize (R.L 0).length = n0 at *
  generalize (R.L 1).length = n1 at *
  generalize (R.L 2).length = n2 at *
  have b0 : (0 : Int) ≤ (n0 : Int) := Int.natCast_nonneg _
  have b1 : (0 : Int) ≤ (n1 : Int) := Int.natCast_nonneg _
  have b2 : (0 : Int) ≤ (n2 : Int) := Int.natCast_nonneg _
  have b3 : (n0 : Int) + n1 + n2 ≤ 1000000 := by omega
  go_enter Tryz.func94, Tryz.ntmps94
  go_upto_region 1 with fail
  go_quiet (fail)
  go_wp2_with fail
  go_ret
  exact ⟨ret_int (by go_num), Up.drewN _ _⟩
end
end Go.Proofs.YtkopplnjomkleaaGreat
