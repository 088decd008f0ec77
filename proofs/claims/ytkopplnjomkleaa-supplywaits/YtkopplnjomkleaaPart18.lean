/-
  Texts beneath SupplyWaits, part 18: RLimMath, RefLimbo, RefLimbo2, RefLimbo3, RefSup, ChWalk.
-/
import Derived.Test.YtkopplnjomkleaaPart17
/-
  The reference's limbo as numbers and lists (Lb again; a bucket without items keeps its tag); that it goes with the program's. No program is named here.
-/
namespace Go.Proofs.Ytkopplnjomkleaa

def Lb.rzero : Lb := ⟨fun _ => 0, fun _ => [], -1⟩
def Lb.rclear (R : Lb) (k : Nat) : Lb := ⟨R.T, put R.L k [], R.last⟩
def Lb.rretire (R : Lb) (k : Nat) (tag : Int) (xs : List Int) : Lb := (if R.L k ≠ [] ∧ R.T k < tag then R.rclear k else R).add k tag xs
def Lb.rtaken (R : Lb) (k : Nat) (tag : Int) : List Int := if R.L k ≠ [] ∧ R.T k < tag then R.L k else []
def Lb.rpick (R : Lb) (now : Int) (r : Option Nat) (k : Nat) : Option Nat :=
  if R.L k = [] then r else if now - 2 < R.T k then r else match r with
    | none => some k
    | some j => if R.T k < R.T j then some k else some j
def Lb.rTo (R : Lb) (now : Int) : Nat → Option Nat
  | 0 => none
  | k + 1 => R.rpick now (R.rTo now k) k
def Lb.ropn (R : Lb) (now : Int) : Option Nat := if now < 2 then none else R.rTo now 3
theorem Lb.rTo_lt {R : Lb} {now : Int} : ∀ {n k : Nat}, R.rTo now n = some k → k < n ∧ R.L k ≠ [] ∧ R.T k ≤ now - 2
  | 0, k, h => by cases h
  | n + 1, k, h => by
    unfold Lb.rTo Lb.rpick at h
    split at h
    · have := Lb.rTo_lt h; exact ⟨by omega, this.2⟩
    · rename_i hn
      split at h
      · have := Lb.rTo_lt h; exact ⟨by omega, this.2⟩
      · rename_i hc
        split at h
        · injection h with h; subst h; exact ⟨by omega, hn, by omega⟩
        · rename_i j hj
          split at h
          · injection h with h; subst h; exact ⟨by omega, hn, by omega⟩
          · injection h with h; subst h; have := Lb.rTo_lt hj; exact ⟨by omega, this.2⟩
theorem Lb.rTo_none {R : Lb} {now : Int} : ∀ {n : Nat}, R.rTo now n = none → ∀ k, k < n → R.L k = [] ∨ now - 2 < R.T k
  | 0, _, k, hk => absurd hk (by omega)
  | n + 1, h, k, hk => by
    unfold Lb.rTo Lb.rpick at h
    split at h
    · rename_i hn
      rcases Nat.lt_succ_iff_lt_or_eq.1 hk with h' | rfl
      · exact Lb.rTo_none h k h'
      · exact .inl hn
    · split at h
      · rename_i hn
        rcases Nat.lt_succ_iff_lt_or_eq.1 hk with h' | rfl
        · exact Lb.rTo_none h k h'
        · exact .inr hn
      · split at h
        · cases h
        · split at h <;> cases h
/-- Of those that are open the first of the least tag. -/
theorem Lb.rTo_least {R : Lb} {now : Int} : ∀ {n k : Nat}, R.rTo now n = some k → ∀ j, j < n → R.L j ≠ [] → R.T j ≤ now - 2 → R.T k ≤ R.T j ∧ (j < k → R.T k < R.T j)
  | 0, _, h, _, _, _, _ => by cases h
  | n + 1, k, h, j, hj, hl, ht => by
    unfold Lb.rTo Lb.rpick at h
    split at h
    · rename_i hn
      rcases Nat.lt_succ_iff_lt_or_eq.1 hj with h' | rfl
      · exact Lb.rTo_least h j h' hl ht
      · exact absurd hn hl
    · split at h
      · rename_i hn
        rcases Nat.lt_succ_iff_lt_or_eq.1 hj with h' | rfl
        · exact Lb.rTo_least h j h' hl ht
        · omega
      · split at h
        · rename_i hno
          injection h with h; subst h
          rcases Nat.lt_succ_iff_lt_or_eq.1 hj with h' | rfl
          · rcases Lb.rTo_none hno j h' with h'' | h''
            · exact absurd h'' hl
            · omega
          · exact ⟨Int.le_refl _, fun h => by omega⟩
        · rename_i i hi
          have hil := Lb.rTo_lt hi
          split at h
          · rename_i hlt
            injection h with h; subst h
            rcases Nat.lt_succ_iff_lt_or_eq.1 hj with h' | rfl
            · have := Lb.rTo_least hi j h' hl ht; exact ⟨by omega, fun _ => by omega⟩
            · exact ⟨Int.le_refl _, fun h => by omega⟩
          · rename_i hlt
            injection h with h; subst h
            rcases Nat.lt_succ_iff_lt_or_eq.1 hj with h' | rfl
            · exact Lb.rTo_least hi j h' hl ht
            · exact ⟨by omega, fun h => by omega⟩
theorem Lb.oldTo_first {S : Lb} : ∀ {n k : Nat}, S.oldTo n = some k → ∀ j, j < k → S.L j ≠ [] → S.T k < S.T j
  | 0, _, h, _, _, _ => by cases h
  | n + 1, k, h, j, hj, hl => by
    have hk := (Lb.oldTo_lt h).1
    unfold Lb.oldTo Lb.pick at h
    split at h
    · exact Lb.oldTo_first h j hj hl
    · split at h
      · rename_i hno
        injection h with h; subst h
        exact absurd (Lb.oldTo_none hno j hj) hl
      · rename_i i hi
        split at h
        · injection h with h; subst h
          have := Lb.oldTo_least hi j hj hl; omega
        · injection h with h; subst h
          exact Lb.oldTo_first hi j hj hl

/-- The program's limbo and the reference's say the same. -/
structure Sim (S R : Lb) : Prop where
  ok : S.Ok
  L : ∀ k, S.L k = R.L k
  T : ∀ k, k < 3 → S.L k ≠ [] → S.T k = R.T k
  last : (R.last = -1 ∧ S.last = 0) ∨ R.last = S.last
theorem Sim.zero : Sim Lb.zero Lb.rzero := ⟨Lb.Ok.zero, fun _ => rfl, fun _ _ h => absurd rfl h, .inl ⟨rfl, rfl⟩⟩
theorem Sim.size {S R : Lb} (h : Sim S R) : R.size = S.size := by unfold Lb.size; rw [h.L, h.L, h.L]
theorem Sim.opn {S R : Lb} (h : Sim S R) (now : Int) : R.ropn now = S.opn now := by
  unfold Lb.ropn
  by_cases hn : now < 2
  · rw [if_pos hn]
    rcases ho : S.opn now with _ | k
    · rfl
    · obtain ⟨_, h1, _, h3⟩ := Lb.opn_some ho
      have := h.ok.lo k h1
      omega
  · rw [if_neg hn]
    rcases hr : R.rTo now 3 with _ | k
    · rcases ho : S.opn now with _ | j
      · rfl
      · obtain ⟨_, h1, h2, h3⟩ := Lb.opn_some ho
        rcases Lb.rTo_none hr j h1 with h' | h'
        · exact absurd (h.L j ▸ h') h2
        · have := h.T j h1 h2; omega
    · obtain ⟨k1, k2, k3⟩ := Lb.rTo_lt hr
      have k2' : S.L k ≠ [] := by rw [h.L]; exact k2
      have tk := h.T k k1 k2'
      rcases ho : S.opn now with _ | j
      · have := Lb.opn_none ho k k1 k2'; omega
      · obtain ⟨h0, h1, h2, h3⟩ := Lb.opn_some ho
        have tj := h.T j h1 h2
        have h2' : R.L j ≠ [] := by rw [← h.L]; exact h2
        have a := Lb.rTo_least hr j h1 h2' (by omega)
        have b := Lb.oldTo_least h0 k k1 k2'
        by_cases e : k = j
        · rw [e]
        · exfalso
          rcases Nat.lt_or_gt_of_ne e with hlt | hgt
          · have := Lb.oldTo_first h0 k hlt k2'; omega
          · have := a.2 hgt; omega
theorem Sim.clear {S R : Lb} (h : Sim S R) (k : Nat) : Sim (S.clear k) (R.rclear k) := by
  refine ⟨h.ok.clear k, fun j => ?_, fun j hj hl => ?_, h.last⟩
  · unfold Lb.clear Lb.rclear put; dsimp only; split
    · rfl
    · exact h.L j
  · by_cases e : j = k
    · subst e; exact absurd (put_same S.L j []) hl
    · have hl' : S.L j ≠ [] := by rw [← put_other S.L [] e]; exact hl
      rw [show (S.clear k).T j = S.T j from put_other _ _ e]
      exact h.T j hj hl'
theorem Lb.size_rclear {R : Lb} {k : Nat} (hk : k < 3) : R.size = (R.rclear k).size + (R.L k).length := by
  have : k = 0 ∨ k = 1 ∨ k = 2 := by omega
  unfold Lb.size Lb.rclear put
  rcases this with rfl | rfl | rfl <;> simp <;> omega
theorem Sim.taken {S R : Lb} (h : Sim S R) {k : Nat} (hk : k < 3) (tag : Int) : R.rtaken k tag = S.taken k tag := by
  unfold Lb.rtaken Lb.taken
  by_cases hl : S.L k = []
  · rw [if_neg (by rw [← h.L]; intro h'; exact h'.1 hl)]
    split
    · exact hl.symm
    · rfl
  · have ht := h.T k hk hl
    by_cases c : S.T k < tag
    · rw [if_pos ⟨by rw [← h.L]; exact hl, by omega⟩, if_pos c, h.L]
    · rw [if_neg (by intro h'; omega), if_neg c]
theorem Sim.retire {S R : Lb} (h : Sim S R) {k : Nat} {tag : Int} {xs : List Int} (hk : k < 3) (h0 : S.last ≤ tag) (h1 : tag ≤ 4611686018427387903) (hr : tag % 3 = k) (hx : xs ≠ []) : Sim (S.retire k tag xs) (R.rretire k tag xs) := by
  refine ⟨h.ok.retire h0 h1 hr hx, fun j => ?_, fun j hj hl => ?_, .inr ?_⟩
  · by_cases e : j = k
    · subst e
      unfold Lb.retire Lb.rretire
      by_cases hl : S.L j = []
      · have e1 : (if S.T j < tag then S.clear j else S).L j = [] := by split; exact put_same _ _ _; exact hl
        have e2 : (if R.L j ≠ [] ∧ R.T j < tag then R.rclear j else R) = R := if_neg (by rw [← h.L]; intro h'; exact h'.1 hl)
        rw [e2]
        show put _ j _ j = put _ j _ j
        rw [put_same, put_same, e1, ← h.L, hl]
      · have ht := h.T j hk hl
        by_cases c : S.T j < tag
        · have e2 : (if R.L j ≠ [] ∧ R.T j < tag then R.rclear j else R) = R.rclear j := if_pos ⟨by rw [← h.L]; exact hl, by omega⟩
          have e1 : (if S.T j < tag then S.clear j else S) = S.clear j := if_pos c
          rw [e1, e2]
          show put _ j _ j = put _ j _ j
          rw [put_same, put_same]
          show put S.L j [] j ++ xs = put R.L j [] j ++ xs
          rw [put_same, put_same]
        · have e2 : (if R.L j ≠ [] ∧ R.T j < tag then R.rclear j else R) = R := if_neg (by intro h'; omega)
          have e1 : (if S.T j < tag then S.clear j else S) = S := if_neg c
          rw [e1, e2]
          show put _ j _ j = put _ j _ j
          rw [put_same, put_same, h.L]
    · have a : (S.retire k tag xs).L j = S.L j := by
        unfold Lb.retire; split
        · exact (put_other _ _ e).trans (put_other _ _ e)
        · exact put_other _ _ e
      have b : (R.rretire k tag xs).L j = R.L j := by
        unfold Lb.rretire; split
        · exact (put_other _ _ e).trans (put_other _ _ e)
        · exact put_other _ _ e
      rw [a, b, h.L]
  · by_cases e : j = k
    · subst e
      have a : (S.retire j tag xs).T j = tag := by unfold Lb.retire; split <;> exact put_same _ _ _
      have b : (R.rretire j tag xs).T j = tag := by unfold Lb.rretire; split <;> exact put_same _ _ _
      rw [a, b]
    · have a : (S.retire k tag xs).L j = S.L j ∧ (S.retire k tag xs).T j = S.T j := by
        unfold Lb.retire; split
        · exact ⟨(put_other _ _ e).trans (put_other _ _ e), (put_other _ _ e).trans (put_other _ _ e)⟩
        · exact ⟨put_other _ _ e, put_other _ _ e⟩
      have b : (R.rretire k tag xs).T j = R.T j := by
        unfold Lb.rretire; split
        · exact (put_other _ _ e).trans rfl
        · exact put_other _ _ e
      rw [a.1] at hl
      rw [a.2, b]
      exact h.T j hj hl
  · have a : (S.retire k tag xs).last = tag := by unfold Lb.retire; split <;> rfl
    have b : (R.rretire k tag xs).last = tag := by unfold Lb.rretire; split <;> rfl
    rw [a, b]
/-- May these items be retired? -/
theorem Sim.may {S R : Lb} (h : Sim S R) (tag : Int) : (0 ≤ tag ∧ R.last ≤ tag) ↔ S.last ≤ tag := by
  have := h.ok.last0
  rcases h.last with ⟨a, b⟩ | a
  · rw [a, b]; omega
  · rw [a]; omega
def Lb.routs : Nat → Lb → Int → List Int
  | 0, _, _ => []
  | n + 1, R, now => match R.ropn now with
    | none => []
    | some k => R.L k ++ Lb.routs n (R.rclear k) now
def Lb.rrest : Nat → Lb → Int → Lb
  | 0, R, _ => R
  | n + 1, R, now => match R.ropn now with
    | none => R
    | some k => Lb.rrest n (R.rclear k) now
def Lb.router (R : Lb) (now : Int) : List Int := Lb.routs R.cnt R now
def Lb.rremain (R : Lb) (now : Int) : Lb := Lb.rrest R.cnt R now
theorem Lb.ropn_some {R : Lb} {now : Int} {k : Nat} (h : R.ropn now = some k) : 2 ≤ now ∧ R.rTo now 3 = some k ∧ k < 3 ∧ R.L k ≠ [] := by
  unfold Lb.ropn at h
  split at h
  · cases h
  · have := Lb.rTo_lt h; exact ⟨by omega, h, this.1, this.2.1⟩
theorem Lb.cnt_rclear {R : Lb} {k : Nat} (hk : k < 3) (hl : R.L k ≠ []) : R.cnt = (R.rclear k).cnt + 1 := by
  have : k = 0 ∨ k = 1 ∨ k = 2 := by omega
  unfold Lb.cnt Lb.rclear put
  rcases this with rfl | rfl | rfl <;> simp [hl] <;> omega
theorem Lb.router_some {R : Lb} {now : Int} {k : Nat} (h : R.ropn now = some k) : R.router now = R.L k ++ (R.rclear k).router now ∧ R.rremain now = (R.rclear k).rremain now := by
  obtain ⟨_, _, hk, hl⟩ := Lb.ropn_some h
  unfold Lb.router Lb.rremain
  rw [Lb.cnt_rclear hk hl]
  simp only [Lb.routs, Lb.rrest, h]
  exact ⟨trivial, trivial⟩
theorem Lb.router_none {R : Lb} {now : Int} (h : R.ropn now = none) : R.router now = [] ∧ R.rremain now = R := by
  unfold Lb.router Lb.rremain
  cases R.cnt <;> simp [Lb.routs, Lb.rrest, h]
theorem Sim.rdy (now : Int) : ∀ (n : Nat) {S R : Lb}, Sim S R → Lb.routs n R now = Lb.rdyL n S now ∧ Sim (Lb.rdyS n S now) (Lb.rrest n R now)
  | 0, _, _, h => ⟨rfl, h⟩
  | n + 1, S, R, h => by
    unfold Lb.routs Lb.rdyL Lb.rdyS Lb.rrest
    rw [h.opn now]
    rcases S.opn now with _ | k
    · exact ⟨rfl, h⟩
    · obtain ⟨a, b⟩ := Sim.rdy now n (h.clear k)
      exact ⟨by dsimp only; rw [a, h.L], b⟩
theorem Sim.cnt {S R : Lb} (h : Sim S R) : R.cnt = S.cnt := by unfold Lb.cnt; rw [h.L, h.L, h.L]
theorem Sim.ready {S R : Lb} (h : Sim S R) (now : Int) : R.router now = S.outs now ∧ Sim (S.rest now) (R.rremain now) := by
  unfold Lb.router Lb.rremain Lb.outs Lb.rest
  rw [h.cnt]
  exact Sim.rdy now _ h
end Go.Proofs.Ytkopplnjomkleaa

/-
  The reference's limbo in memory (RLim); the contracts of NewLimbo, least, Open, Len, Bucket.
-/
namespace Go.Proofs.Ytkopplnjomkleaa
open Go.RowKit
set_option maxRecDepth 100000

/-- The reference's limbo R lies at p; its buckets' slices are V; all its blocks are among F. -/
structure RLimV (w : World) (p : Nat) (F : List Nat) (R : Lb) (V : Nat → Value) : Prop where
  top : Whole w p 147 #[.int .i64 (R.T 0), .int .i64 (R.T 1), .int .i64 (R.T 2), V 0, V 1, V 2, .int .i64 R.last]
  ints : ∀ k, k < 3 → Ints w (V k) (R.L k)
  mem : p ∈ F
  inF : ∀ k, k < 3 → ∀ b, (V k).ownBlock = some b → b ∈ F
  nq : ∀ k, k < 3 → (V k).ownBlock ≠ some p
  dis : ∀ j k, j < 3 → k < 3 → j ≠ k → ∀ b, (V j).ownBlock = some b → (V k).ownBlock ≠ some b
  lt : ∀ b, b ∈ F → b < w.heap.size
def RLim (w : World) (p : Nat) (F : List Nat) (R : Lb) : Prop := ∃ V, RLimV w p F R V
section
variable {w w' w4 : World} {p : Nat} {F : List Nat} {R : Lb} {V : Nat → Value} {v : Value} {now tag : Int} {items : List Int}
theorem RLimV.up (E : RLimV w p F R V) (u : Up w w') : RLimV w' p F R V :=
  ⟨E.top.up u, fun k hk => (E.ints k hk).up u, E.mem, E.inF, E.nq, E.dis, fun b hb => Nat.lt_of_lt_of_le (E.lt b hb) u.size⟩
theorem RLimV.else (E : RLimV w p F R V) {l : List Nat} (u : Else l w w') (h : ∀ b, b ∈ F → b ∉ l) : RLimV w' p F R V :=
  ⟨u.whole E.top (h _ E.mem), fun k hk => (E.ints k hk).else u (fun b hb e => h b (E.inF k hk b e) hb), E.mem, E.inF, E.nq, E.dis, fun b hb => Nat.lt_of_lt_of_le (E.lt b hb) u.size⟩
theorem RLim.up (E : RLim w p F R) (u : Up w w') : RLim w' p F R := E.imp fun _ E => E.up u
theorem RLim.else (E : RLim w p F R) {l : List Nat} (u : Else l w w') (h : ∀ b, b ∈ F → b ∉ l) : RLim w' p F R := E.imp fun _ E => E.else u h
theorem RLim.lt (E : RLim w p F R) : ∀ b, b ∈ F → b < w.heap.size := E.elim fun _ E => E.lt
theorem RLim.mem (E : RLim w p F R) : p ∈ F := E.elim fun _ E => E.mem
theorem RLimV.cells (E : RLimV w p F R V) : w.cell? ⟨p, 0, none⟩ = some (.int .i64 (R.T 0)) ∧ w.cell? ⟨p, 1, none⟩ = some (.int .i64 (R.T 1)) ∧ w.cell? ⟨p, 2, none⟩ = some (.int .i64 (R.T 2)) ∧ w.cell? ⟨p, 3, none⟩ = some (V 0) ∧
    w.cell? ⟨p, 4, none⟩ = some (V 1) ∧ w.cell? ⟨p, 5, none⟩ = some (V 2) ∧ w.cell? ⟨p, 6, none⟩ = some (.int .i64 R.last) :=
  ⟨E.top.cell rfl, E.top.cell rfl, E.top.cell rfl, E.top.cell rfl, E.top.cell rfl, E.top.cell rfl, E.top.cell rfl⟩
theorem RLimV.slices (E : RLimV w p F R V) : ∃ A0 c0 A1 c1 A2 c2, V 0 = .slice A0 (R.L 0).length c0 ∧ V 1 = .slice A1 (R.L 1).length c1 ∧ V 2 = .slice A2 (R.L 2).length c2 := by
  obtain ⟨A0, c0, h0⟩ := (E.ints 0 (by decide)).slice
  obtain ⟨A1, c1, h1⟩ := (E.ints 1 (by decide)).slice
  obtain ⟨A2, c2, h2⟩ := (E.ints 2 (by decide)).slice
  exact ⟨A0, c0, A1, c1, A2, c2, h0, h1, h2⟩
set_option maxHeartbeats 400000 in
theorem rlnew_any (w : World) : Calls Try.prog 60 #[] w fun e w' => ∃ p, e = .returned (.pointer (some ⟨p, 0, none⟩)) ∧ RLim w' p [p] Lb.rzero ∧ w.heap.size ≤ p ∧ Up w w' := by
  go_enter Try.func60, Try.ntmps60
  go_wp2
  go_ret
  refine ⟨_, rfl, ⟨fun _ => .slice none 0 0, ?_⟩, Nat.le_refl _, Up.alloc _ _⟩
  refine ⟨Whole.new _ _ _, fun k hk => Ints.nil _, by simp, fun k hk b hb => ?_, fun k hk hb => ?_, fun j k hj hk hjk b hb => ?_, fun b hb => ?_⟩
  · simp [Value.ownBlock] at hb
  · simp [Value.ownBlock] at hb
  · simp [Value.ownBlock] at hb
  · simp at hb; subst hb; simp
def idx : Option Nat → Int
  | none => -1
  | some k => k
theorem idx_none : idx none = -1 := rfl
theorem idx_0 : idx (some 0) = 0 := rfl
theorem idx_1 : idx (some 1) = 1 := rfl
theorem idx_2 : idx (some 2) = 2 := rfl
def LeastRel (w : World) (R : Lb) (now : Int) (v i : Value) (wr : World) : Prop := ∃ k : Nat, k ≤ 3 ∧ i = .int .i64 k ∧ v = .int .i64 (idx (R.rTo now k)) ∧ Up w wr
theorem rpick_nil {r : Option Nat} {k : Nat} (h : R.L k = []) : R.rpick now r k = r := by unfold Lb.rpick; rw [if_pos h]
theorem rpick_shut {r : Option Nat} {k : Nat} (h : R.L k ≠ []) (h1 : now - 2 < R.T k) : R.rpick now r k = r := by unfold Lb.rpick; rw [if_neg h, if_pos h1]
theorem rpick_first {k : Nat} (h : R.L k ≠ []) (h1 : ¬ now - 2 < R.T k) : R.rpick now none k = some k := by unfold Lb.rpick; rw [if_neg h, if_neg h1]
theorem rpick_less {j k : Nat} (h : R.L k ≠ []) (h1 : ¬ now - 2 < R.T k) (h2 : R.T k < R.T j) : R.rpick now (some j) k = some k := by unfold Lb.rpick; rw [if_neg h, if_neg h1]; dsimp only; rw [if_pos h2]
theorem rpick_more {j k : Nat} (h : R.L k ≠ []) (h1 : ¬ now - 2 < R.T k) (h2 : ¬ R.T k < R.T j) : R.rpick now (some j) k = some j := by unfold Lb.rpick; rw [if_neg h, if_neg h1]; dsimp only; rw [if_neg h2]
end
end Go.Proofs.Ytkopplnjomkleaa

/-
  The reference's limbo: the contracts of Bucket and Retire.
-/
namespace Go.Proofs.Ytkopplnjomkleaa
open Go.RowKit
set_option maxRecDepth 100000
section
variable {w w' w4 w5 : World} {p : Nat} {F : List Nat} {R : Lb} {V : Nat → Value} {v : Value} {now tag : Int} {items : List Int}
def RTook (w w' : World) (p : Nat) (F : List Nat) (R' : Lb) (xs : List Int) (o : Value) : Prop :=
  ∃ F', RLim w' p F' R' ∧ Ints w' o xs ∧ Away o F' ∧ Next w F F' ∧ (∀ b, o.ownBlock = some b → b ∈ F ∨ w.heap.size ≤ b) ∧ Else F w w'
/-- One bucket's slice is another one now: a new one, or nil; what it had may be somebody else's. -/
theorem RLimV.swap (E : RLimV w p F R V) {R' : Lb} {k : Nat} (hk : k < 3) {v6 : Value} {xs : List Int} (u : Else [p] w w') (J : Ints w' v6 xs) (Fr : Fresh w v6) (hL : R'.L = put R.L k xs)
    (top : Whole w' p 147 #[.int .i64 (R'.T 0), .int .i64 (R'.T 1), .int .i64 (R'.T 2), put V k v6 0, put V k v6 1, put V k v6 2, .int .i64 R'.last]) :
    RLimV w' p (v6.ownBlock.toList ++ less F (V k)) R' (put V k v6) ∧ Next w F (v6.ownBlock.toList ++ less F (V k)) ∧ Away (V k) (v6.ownBlock.toList ++ less F (V k)) ∧ Ints w' (V k) (R.L k) := by
  have hp := E.lt p E.mem
  have ov : ∀ j, j < 3 → ∀ b, (V j).ownBlock = some b → v6.ownBlock ≠ some b := fun j hj b hb e => by
    have := E.lt b (E.inF j hj b hb); have := Fr b e; omega
  have oi : ∀ j, j < 3 → Ints w' (V j) (R.L j) := fun j hj => (E.ints j hj).else u (fun b hb e => by simp at hb; subst hb; exact E.nq j hj e)
  have vp : v6.ownBlock ≠ some p := fun e => by have := Fr p e; omega
  refine ⟨⟨top, fun j hj => ?_, ?_, fun j hj b hb => ?_, fun j hj hb => ?_, fun i j hi hj hij b hb hb2 => ?_, fun b hb => ?_⟩, fun b hb => ?_, fun b hb e => ?_, oi k hk⟩
  · rw [hL]; unfold put
    split
    · exact J
    · exact oi j hj
  · exact List.mem_append.2 (.inr (mem_less.2 ⟨E.mem, E.nq k hk⟩))
  · unfold put at hb
    split at hb
    · exact List.mem_append.2 (.inl (by simp [hb]))
    · exact List.mem_append.2 (.inr (mem_less.2 ⟨E.inF j hj b hb, fun e => E.dis j k hj hk (by assumption) b hb e⟩))
  · unfold put at hb
    split at hb
    · exact vp hb
    · exact E.nq j hj hb
  · unfold put at hb hb2
    split at hb
    · split at hb2
      · omega
      · exact ov j hj b hb2 hb
    · split at hb2
      · exact ov i hi b hb hb2
      · exact E.dis i j hi hj hij b hb hb2
  · rcases List.mem_append.1 hb with hb | hb
    · simp at hb; exact J.lt hb
    · exact Nat.lt_of_lt_of_le (E.lt b (mem_less.1 hb).1) u.size
  · rcases List.mem_append.1 hb with hb | hb
    · simp at hb; exact .inr (Fr b hb)
    · exact .inl (mem_less.1 hb).1
  · rcases List.mem_append.1 hb with hb | hb
    · simp at hb; exact ov k hk b e hb
    · exact (mem_less.1 hb).2 e
/-- What a Retire leaves. -/
theorem RLimV.done (E : RLimV w p F R V) {R' : Lb} {k X : Nat} (hk : k < 3) {v6 : Value} {xs : List Int} (u3 : Else [p] w w4) (hz : w4.heap.size = w.heap.size) (u6 : Up w4 w5) (J : Ints w5 v6 xs) (Fr : Fresh w4 v6) (hL : R'.L = put R.L k xs)
    (top : Whole (w5.setCell ⟨p, X, none⟩ v6) p 147 #[.int .i64 (R'.T 0), .int .i64 (R'.T 1), .int .i64 (R'.T 2), put V k v6 0, put V k v6 1, put V k v6 2, .int .i64 R'.last]) :
    RTook w (w5.setCell ⟨p, X, none⟩ v6) p F R' (R.L k) (V k) ∧ RTook w (w5.setCell ⟨p, X, none⟩ v6) p F R' [] (.slice none 0 0) := by
  have hp := E.lt p E.mem
  have Fr' : Fresh w v6 := fun b hb => by have := Fr b hb; omega
  have u : Else [p] w (w5.setCell ⟨p, X, none⟩ v6) := (u3.up u6).set (.inl (by simp)) _
  have J' : Ints (w5.setCell ⟨p, X, none⟩ v6) v6 xs := J.else (l := [p]) ((Else.refl _ _).set (.inl (by simp)) _) (fun b hb e => by simp at hb; subst hb; have := Fr' _ e; omega)
  obtain ⟨L, N, A, I⟩ := E.swap hk u J' Fr' hL top
  have uF : Else F w (w5.setCell ⟨p, X, none⟩ v6) := u.more (fun b hb => by simp at hb; subst hb; exact E.mem)
  exact ⟨⟨_, ⟨_, L⟩, I, A, N, fun b hb => .inl (E.inF k hk b hb), uF⟩, ⟨_, ⟨_, L⟩, Ints.nil _, fun b _ e => by simp [Value.ownBlock] at e, N, fun b hb => by simp [Value.ownBlock] at hb, uF⟩⟩
end
end Go.Proofs.Ytkopplnjomkleaa

/-
  The reference's limbo: the contract of Ready.
-/
namespace Go.Proofs.Ytkopplnjomkleaa
open Go.RowKit
set_option maxRecDepth 100000
section
variable {w w1 w2 w3 w4 wr w' : World} {p : Nat} {F F1 : List Nat} {R R1 : Lb} {V : Nat → Value} {v : Value} {now : Int}
/-- How far the reference's Ready is. -/
structure RRdyAt (w : World) (p : Nat) (F : List Nat) (R : Lb) (now : Int) (v : Value) (wr : World) (o : List Int) (R1 : Lb) (F1 : List Nat) : Prop where
  lim : RLim wr p F1 R1
  ints : Ints wr v o
  away : Away v F1
  next : Next w F F1
  fresh : Fresh w v
  els : Else F w wr
  outs : o ++ R1.router now = R.router now
  rest : R1.rremain now = R.rremain now
  size : R1.size + o.length = R.size
  mem : p ∈ F
def RRdyRel (w : World) (p : Nat) (F : List Nat) (R : Lb) (now : Int) (v : Value) (wr : World) : Prop := ∃ o R1 F1, RRdyAt w p F R now v wr o R1 F1
theorem raway_q (L : RLim w p F R) (A : Away v F) : Away v [p] := fun b hb e => by simp at hb; subst hb; exact A _ L.mem e
/-- One round: the append, and the store of nil. -/
theorem RRdyAt.step {o : List Int} {k X : Nat} {v5 : Value} {w5 : World} (H : RRdyAt w p F R now v wr o R1 F1) (hop : R1.ropn now = some k) (U : Up wr w2) (E : RLimV w2 p F1 R1 V)
    (J5 : Ints w5 v5 (o ++ R1.L k)) (G5 : w2.grownBy w5 v.ownBlock) (A5 : v5.ownBlock = v.ownBlock ∨ v5.ownBlock = some w2.heap.size)
    (top : Whole (w5.setCell ⟨p, X, none⟩ (.slice none 0 0)) p 147 #[.int .i64 (R1.T 0), .int .i64 (R1.T 1), .int .i64 (R1.T 2), put V k (.slice none 0 0) 0, put V k (.slice none 0 0) 1, put V k (.slice none 0 0) 2, .int .i64 R1.last]) :
    ∃ F3, RRdyAt w p F R now v5 (w5.setCell ⟨p, X, none⟩ (.slice none 0 0)) (o ++ R1.L k) (R1.rclear k) F3 := by
  obtain ⟨_, _, hk, hl⟩ := Lb.ropn_some hop
  obtain ⟨e1, e2⟩ := Lb.router_some hop
  have hs := R1.size_rclear hk
  have u5 : Else v.ownBlock.toList w2 w5 := (Else.refl _ _).grown G5 (fun b hb => .inl (by simp [hb]))
  have E5 := E.else u5 (fun b hb hv => by simp at hv; exact H.away b hb hv)
  have u7 : Else [p] w5 (w5.setCell ⟨p, X, none⟩ (.slice none 0 0)) := (Else.refl _ _).set (.inl (by simp)) _
  obtain ⟨L7, N7, _, _⟩ := E5.swap (R' := R1.rclear k) hk u7 (Ints.nil _) (fresh_nil _) rfl top
  have av5 : Away v5 F1 := fun b hb e => by
    rcases A5 with h | h
    · exact H.away b hb (h ▸ e)
    · rw [e] at h; injection h with h
      have := E.lt b hb; omega
  have hsz := (H.els.up U).size
  have u25 : Else F w w5 := (H.els.up U).grown G5 (fun b hb => .inr (H.fresh b hb))
  refine ⟨_, ⟨_, L7⟩, J5.else u7 (fun b hb e => by simp at hb; subst hb; exact av5 _ E.mem e), fun b hb e => ?_, fun b hb => ?_, fun b hb => ?_, u25.trans (u7.more (fun b hb => by simp at hb; subst hb; exact H.mem)), ?_, ?_, ?_, H.mem⟩
  · have hb' : b ∈ F1 := by simp [Value.ownBlock] at hb; exact (mem_less.1 hb).1
    exact av5 b hb' e
  · have hb' : b ∈ F1 := by simp [Value.ownBlock] at hb; exact (mem_less.1 hb).1
    exact H.next b hb'
  · rcases A5 with h | h
    · exact H.fresh b (h ▸ hb)
    · rw [hb] at h; injection h with h; omega
  · rw [List.append_assoc, ← e1]; exact H.outs
  · rw [← e2]; exact H.rest
  · have := H.size; rw [List.length_append]; omega
end
end Go.Proofs.Ytkopplnjomkleaa

/-
  The reference's supply of a worker (RSu): a stash, a limbo, all its blocks among F; Ready, Retire.
-/
namespace Go.Proofs.Ytkopplnjomkleaa
open Go.RowKit
set_option maxRecDepth 100000
set_option linter.unusedSimpArgs false
structure RSuV (w : World) (b k qs ql : Nat) (F : List Nat) (m : Int) (st : List Int) (R : Lb) (Fs Fl : List Nat) : Prop where
  obj : Whole w b 118 #[.pointer (some ⟨k, 0, none⟩), .pointer (some ⟨qs, 0, none⟩), .pointer (some ⟨ql, 0, none⟩)]
  sta : Sta 143 w qs Fs m st
  lim : RLim w ql Fl R
  sF : ∀ x ∈ Fs, x ∈ F
  lF : ∀ x ∈ Fl, x ∈ F
  dis : ∀ x ∈ Fs, x ∉ Fl
  bs : b ∉ Fs
  bl : b ∉ Fl
  bF : b ∈ F
  lt : ∀ x ∈ F, x < w.heap.size
/-- The document's supply lies at b, over W at k; its stash has at most m ahead of Over, the items st; its limbo is R; all its blocks are among F. -/
def RSu (w : World) (b k qs ql : Nat) (F : List Nat) (m : Int) (st : List Int) (R : Lb) : Prop := ∃ Fs Fl, RSuV w b k qs ql F m st R Fs Fl
section
variable {w w1 w' : World} {b k qs ql : Nat} {F Fs Fl : List Nat} {m now tag : Int} {st st' xs : List Int} {R R' : Lb} {o v : Value}
theorem RSuV.up (E : RSuV w b k qs ql F m st R Fs Fl) (u : Up w w') : RSuV w' b k qs ql F m st R Fs Fl := ⟨E.obj.up u, E.sta.up u, E.lim.up u, E.sF, E.lF, E.dis, E.bs, E.bl, E.bF, fun x hx => Nat.lt_of_lt_of_le (E.lt x hx) u.size⟩
theorem RSuV.else (E : RSuV w b k qs ql F m st R Fs Fl) {l : List Nat} (u : Else l w w') (h : ∀ x ∈ F, x ∉ l) : RSuV w' b k qs ql F m st R Fs Fl :=
  ⟨u.whole E.obj (h b E.bF), E.sta.else u (fun x hx => h x (E.sF x hx)), E.lim.else u (fun x hx => h x (E.lF x hx)), E.sF, E.lF, E.dis, E.bs, E.bl, E.bF, fun x hx => Nat.lt_of_lt_of_le (E.lt x hx) u.size⟩
theorem RSu.up (E : RSu w b k qs ql F m st R) (u : Up w w') : RSu w' b k qs ql F m st R := by obtain ⟨Fs, Fl, E⟩ := E; exact ⟨Fs, Fl, E.up u⟩
theorem RSu.else (E : RSu w b k qs ql F m st R) {l : List Nat} (u : Else l w w') (h : ∀ x ∈ F, x ∉ l) : RSu w' b k qs ql F m st R := by obtain ⟨Fs, Fl, E⟩ := E; exact ⟨Fs, Fl, E.else u h⟩
theorem RSuV.cells (E : RSuV w b k qs ql F m st R Fs Fl) (u : Up w w') : w'.cell? ⟨b, 0, none⟩ = some (.pointer (some ⟨k, 0, none⟩)) ∧ w'.cell? ⟨b, 1, none⟩ = some (.pointer (some ⟨qs, 0, none⟩)) ∧ w'.cell? ⟨b, 2, none⟩ = some (.pointer (some ⟨ql, 0, none⟩)) := ⟨u.kept (E.obj.cell rfl), u.kept (E.obj.cell rfl), u.kept (E.obj.cell rfl)⟩
theorem RSu.cells (E : RSu w b k qs ql F m st R) : w.cell? ⟨b, 0, none⟩ = some (.pointer (some ⟨k, 0, none⟩)) ∧ w.cell? ⟨b, 1, none⟩ = some (.pointer (some ⟨qs, 0, none⟩)) ∧ w.cell? ⟨b, 2, none⟩ = some (.pointer (some ⟨ql, 0, none⟩)) := by obtain ⟨Fs, Fl, E⟩ := E; exact E.cells (Up.refl _)
/-- The stash is turned. -/
theorem RSuV.sgave (E : RSuV w b k qs ql F m st R Fs Fl) (G : SGave 143 w w' qs Fs m st') : Turned w w' F fun F' => RSu w' b k qs ql F' m st' R := by
  obtain ⟨Fs', S', N, X⟩ := G
  have d' := next_apart N E.dis (fun x hx => E.lt x (E.lF x hx))
  have b' : b ∉ Fs' := fun h => by
    rcases N b h with h | h
    · exact E.bs h
    · have := E.lt b E.bF; omega
  refine ⟨b :: (Fs' ++ Fl), ⟨Fs', Fl, X.whole E.obj E.bs, S', E.lim.else X (fun x hx h => E.dis x h hx), by simp; intro x hx; simp [hx], by simp; intro x hx; simp [hx], d', b', E.bl, by simp, ?_⟩, ?_, X.more E.sF⟩
  · intro x hx
    simp at hx
    rcases hx with rfl | hx | hx
    · exact Nat.lt_of_lt_of_le (E.lt _ E.bF) X.size
    · exact S'.lt x hx
    · exact Nat.lt_of_lt_of_le (E.lt x (E.lF x hx)) X.size
  · intro x hx
    simp at hx
    rcases hx with rfl | hx | hx
    · exact .inl E.bF
    · exact (N x hx).imp (E.sF x) id
    · exact .inl (E.lF x hx)
/-- The stash is turned, and handed something out. -/
theorem RSuV.stook (E : RSuV w b k qs ql F m st R Fs Fl) (T : STook 143 w w' qs Fs m st' o xs) : Turned w w' F fun F' => RSu w' b k qs ql F' m st' R ∧ Rd w' o xs ∧ Away o F' ∧ (∀ x, o.ownBlock = some x → x ∈ F ∨ w.heap.size ≤ x) := by
  obtain ⟨Fs', S', Ro, Ao, N, O, X⟩ := T
  have d' := next_apart N E.dis (fun x hx => E.lt x (E.lF x hx))
  have b' : b ∉ Fs' := fun h => by
    rcases N b h with h | h
    · exact E.bs h
    · have := E.lt b E.bF; omega
  refine ⟨b :: (Fs' ++ Fl), ⟨⟨Fs', Fl, X.whole E.obj E.bs, S', E.lim.else X (fun x hx h => E.dis x h hx), by simp; intro x hx; simp [hx], by simp; intro x hx; simp [hx], d', b', E.bl, by simp, ?_⟩, Ro, ?_, fun x hx => (O x hx).imp (E.sF x) id⟩, ?_, X.more E.sF⟩
  · intro x hx
    simp at hx
    rcases hx with rfl | hx | hx
    · exact Nat.lt_of_lt_of_le (E.lt _ E.bF) X.size
    · exact S'.lt x hx
    · exact Nat.lt_of_lt_of_le (E.lt x (E.lF x hx)) X.size
  · intro x hx e
    simp at hx
    rcases hx with rfl | hx | hx
    · rcases O _ e with h | h
      · exact E.bs h
      · have := E.lt _ E.bF; omega
    · exact Ao x hx e
    · rcases O _ e with h | h
      · exact E.dis x h hx
      · have := E.lt x (E.lF x hx); omega
  · intro x hx
    simp at hx
    rcases hx with rfl | hx | hx
    · exact .inl E.bF
    · exact (N x hx).imp (E.sF x) id
    · exact .inl (E.lF x hx)
/-- The limbo is turned, and handed something out. -/
theorem RSuV.ltook (E : RSuV w b k qs ql F m st R Fs Fl) (T : RTook w w' ql Fl R' xs o) : Turned w w' F fun F' => RSu w' b k qs ql F' m st R' ∧ Ints w' o xs ∧ Away o F' ∧ (∀ x, o.ownBlock = some x → x ∈ F ∨ w.heap.size ≤ x) := by
  obtain ⟨Fl', L', Jo, Ao, N, O, X⟩ := T
  have d' := next_apart N (fun x hx h => E.dis x h hx) (fun x hx => E.lt x (E.sF x hx))
  have b' : b ∉ Fl' := fun h => by
    rcases N b h with h | h
    · exact E.bl h
    · have := E.lt b E.bF; omega
  refine ⟨b :: (Fs ++ Fl'), ⟨⟨Fs, Fl', X.whole E.obj E.bl, E.sta.else X (fun x hx h => E.dis x hx h), L', by simp; intro x hx; simp [hx], by simp; intro x hx; simp [hx], fun x hx h => d' x h hx, E.bs, b', by simp, ?_⟩, Jo, ?_, fun x hx => (O x hx).imp (E.lF x) id⟩, ?_, X.more E.lF⟩
  · intro x hx
    simp at hx
    rcases hx with rfl | hx | hx
    · exact Nat.lt_of_lt_of_le (E.lt _ E.bF) X.size
    · exact Nat.lt_of_lt_of_le (E.lt x (E.sF x hx)) X.size
    · exact L'.lt x hx
  · intro x hx e
    simp at hx
    rcases hx with rfl | hx | hx
    · rcases O _ e with h | h
      · exact E.bl h
      · have := E.lt _ E.bF; omega
    · rcases O _ e with h | h
      · exact E.dis x hx h
      · have := E.lt x (E.sF x hx); omega
    · exact Ao x hx e
  · intro x hx
    simp at hx
    rcases hx with rfl | hx | hx
    · exact .inl E.bF
    · exact .inl (E.sF x hx)
    · exact (N x hx).imp (E.lF x) id
end
end Go.Proofs.Ytkopplnjomkleaa

/-
  Package chain: a Walk (WkM: it lies at b, its chunks in v), each access of it as plain data (Wk.go); it begins; its List; where it is refused.
-/
namespace Go.Proofs.Ytkopplnjomkleaa
open Go.RowKit
open W64
set_option maxRecDepth 100000
/-- What is behind the last one of L; -1: none. -/
def lastN (n lk : Nat) (xs : List Int) (L : List Nat) : Int := belowN n (xs.getD (lk + L.getLastD 0) 0)
/-- One access of a Walk whose chunks so far are L. -/
def wkEnd (n lk : Nat) (xs : List Int) (L : List Nat) : Bool := decide (lastN n lk xs L = -1 ∨ L.length = n)
def wkGo (n lk : Nat) (xs : List Int) (L : List Nat) : List Nat := if wkEnd n lk xs L = true then L else L ++ [(lastN n lk xs L).toNat]
/-- What a list so far is of the whole S, while the Walk goes on. -/
structure WkInv (n lk : Nat) (xs : List Int) (S L : List Nat) : Prop where
  ne : L ≠ []
  le : L.length ≤ n
  all : ∀ x ∈ L, x < n
  eq : L ++ walkL n lk xs (n - L.length) (lastN n lk xs L) = S
section
variable {n lk k : Nat} {xs : List Int} {S L : List Nat}
theorem getLastD_app (L : List Nat) (x : Nat) : (L ++ [x]).getLastD 0 = x := by simp [List.getLastD_eq_getLast?]
theorem last_in (h : L ≠ []) (ha : ∀ x ∈ L, x < n) : L.getLastD 0 < n := by
  obtain ⟨T, x, rfl⟩ : ∃ T x, L = T ++ [x] := ⟨L.dropLast, L.getLast h, (List.dropLast_concat_getLast h).symm⟩
  rw [getLastD_app]
  exact ha x (by simp)
theorem last_get (h : L ≠ []) : (I L).getD (L.length - 1) 0 = (L.getLastD 0 : Nat) := by
  obtain ⟨T, x, rfl⟩ : ∃ T x, L = T ++ [x] := ⟨L.dropLast, L.getLast h, (List.dropLast_concat_getLast h).symm⟩
  rw [getLastD_app]
  simp [I, List.getD]
theorem lastN_in (hn : 1 ≤ n) (hw : ∀ i, 0 ≤ xs.getD i 0) : -1 ≤ lastN n lk xs L ∧ lastN n lk xs L < n := belowN_in (hw _) hn
theorem WkInv.start (hk : k < n) : WkInv n lk xs (walkL n lk xs n (k : Int)) [k] := by
  refine ⟨by simp, by simp; omega, by simp [hk], ?_⟩
  obtain ⟨f, rfl⟩ : ∃ f, n = f + 1 := ⟨n - 1, by omega⟩
  rw [walkL_nat]
  simp [lastN]
theorem WkInv.done (H : WkInv n lk xs S L) (h : wkEnd n lk xs L = true) : L = S := by
  unfold wkEnd at h
  simp only [decide_eq_true_eq] at h
  refine walk_end H.eq ?_
  rcases h with h | h
  · exact .inl (by omega)
  · exact .inr (by omega)
theorem WkInv.goes (H : WkInv n lk xs S L) (hw : ∀ i, 0 ≤ xs.getD i 0) (h : wkEnd n lk xs L = false) : WkInv n lk xs S (wkGo n lk xs L) ∧ (wkGo n lk xs L).length = L.length + 1 := by
  have hn : 1 ≤ n := by
    have := List.length_pos_iff.2 H.ne
    have := H.le
    omega
  obtain ⟨i0, i1⟩ := lastN_in (lk := lk) (L := L) hn hw
  have e : wkGo n lk xs L = L ++ [(lastN n lk xs L).toNat] := by unfold wkGo; rw [if_neg (by simp [h])]
  unfold wkEnd at h
  simp only [decide_eq_false_iff_not, not_or] at h
  have hl := H.le
  obtain ⟨j, hj⟩ : ∃ j : Nat, lastN n lk xs L = j := ⟨(lastN n lk xs L).toNat, by omega⟩
  have E := H.eq
  rw [e]
  rw [hj] at E i1 ⊢
  rw [Int.toNat_natCast]
  have hm := walk_more E (by omega)
  refine ⟨⟨by simp, by simp; omega, ?_, ?_⟩, by simp⟩
  · intro x hx
    rcases List.mem_append.1 hx with hx | hx
    · exact H.all x hx
    · simp at hx; omega
  · unfold lastN
    rw [getLastD_app]
    exact hm
theorem WkInv.len (H : WkInv n lk xs S L) (h : wkEnd n lk xs L = true) : L.length = S.length := by rw [H.done h]
end
section
variable {w0 w w' : World} {q p g qs lk n b : Nat} {c : Cf} {s s' : St} {v : Value} {L : List Nat} {fin : Bool}
/-- The blocks that a Walk turns. -/
def wkOwn (b p g : Nat) (v : Value) : List Nat := b :: p :: g :: blk v
variable {nx : Value}
theorem ints_last {A : Option Addr} {N cp : Nat} (J : Ints w (.slice A N cp) (I L)) (hL : L ≠ []) : ∃ r, A = some ⟨r, 0, none⟩ ∧ N = L.length ∧ w.cell? ⟨r, N - 1, none⟩ = some (.int .i64 (L.getLastD 0 : Nat)) := by
  obtain ⟨A', cp', e⟩ := J.slice
  injection e with e1 e2 e3
  subst e1 e2 e3
  have hp := List.length_pos_iff.2 hL
  have hl := I_len L
  obtain ⟨r, e, hc⟩ := own_cell (j := (I L).length - 1) J (by omega)
  refine ⟨r, e, hl, ?_⟩
  rw [hc, ← last_get hL, hl]
  have hj : L.length - 1 < (I L).length := by omega
  simp [List.getD, hj]
end
end Go.Proofs.Ytkopplnjomkleaa
