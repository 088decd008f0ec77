/-
  The reference's limbo as numbers and lists (Lb again; a bucket without items keeps its tag); that it goes with the program's. No program is named here.
-/
import Derived.Test.YthajdabdiaogiaaLimMath
namespace Go.Proofs.Ythajdabdiaogiaa

def Lb.rzero : Lb := ⟨fun _ => 0, fun _ => [], -1⟩
def Lb.rclear (R : Lb) (k : Nat) : Lb := ⟨R.T, put R.L k [], R.last⟩
def Lb.rretire (R : Lb) (k : Nat) (tag : Int) (xs : List Int) : Lb := (if R.L k ≠ [] ∧ R.T k < tag then R.rclear k else R).add k tag xs
def Lb.rtaken (R : Lb) (k : Nat) (tag : Int) : List Int := if R.L k ≠ [] ∧ R.T k < tag then R.L k else []
def Lb.rpick (R : Lb) (now : Int) (r : Option Nat) (k : Nat) : Option Nat :=
  if R.L k = [] then r else if now - 2 < R.T k then r else match r with
    | none => some k
    | some j => if R.T k < R.T j then some k else some j
def Lb.rTo (R : Lb) (now : Int) : Nat → Option Nat
  | 0 => none
  | k + 1 => R.rpick now (R.rTo now k) k
def Lb.ropn (R : Lb) (now : Int) : Option Nat := if now < 2 then none else R.rTo now 3
theorem Lb.rTo_lt {R : Lb} {now : Int} : ∀ {n k : Nat}, R.rTo now n = some k → k < n ∧ R.L k ≠ [] ∧ R.T k ≤ now - 2
  | 0, k, h => by cases h
  | n + 1, k, h => by
    unfold Lb.rTo Lb.rpick at h
    split at h
    · have := Lb.rTo_lt h; exact ⟨by omega, this.2⟩
    · rename_i hn
      split at h
      · have := Lb.rTo_lt h; exact ⟨by omega, this.2⟩
      · rename_i hc
        split at h
        · injection h with h; subst h; exact ⟨by omega, hn, by omega⟩
        · rename_i j hj
          split at h
          · injection h with h; subst h; exact ⟨by omega, hn, by omega⟩
          · injection h with h; subst h; have := Lb.rTo_lt hj; exact ⟨by omega, this.2⟩
theorem Lb.rTo_none {R : Lb} {now : Int} : ∀ {n : Nat}, R.rTo now n = none → ∀ k, k < n → R.L k = [] ∨ now - 2 < R.T k
  | 0, _, k, hk => absurd hk (by omega)
  | n + 1, h, k, hk => by
    unfold Lb.rTo Lb.rpick at h
    split at h
    · rename_i hn
      rcases Nat.lt_succ_iff_lt_or_eq.1 hk with h' | rfl
      · exact Lb.rTo_none h k h'
      · exact .inl hn
    · split at h
      · rename_i hn
        rcases Nat.lt_succ_iff_lt_or_eq.1 hk with h' | rfl
        · exact Lb.rTo_none h k h'
        · exact .inr hn
      · split at h
        · cases h
        · split at h <;> cases h
/-- Of those that are open the first of the least tag. -/
theorem Lb.rTo_least {R : Lb} {now : Int} : ∀ {n k : Nat}, R.rTo now n = some k → ∀ j, j < n → R.L j ≠ [] → R.T j ≤ now - 2 → R.T k ≤ R.T j ∧ (j < k → R.T k < R.T j)
  | 0, _, h, _, _, _, _ => by cases h
  | n + 1, k, h, j, hj, hl, ht => by
    unfold Lb.rTo Lb.rpick at h
    split at h
    · rename_i hn
      rcases Nat.lt_succ_iff_lt_or_eq.1 hj with h' | rfl
      · exact Lb.rTo_least h j h' hl ht
      · exact absurd hn hl
    · split at h
      · rename_i hn
        rcases Nat.lt_succ_iff_lt_or_eq.1 hj with h' | rfl
        · exact Lb.rTo_least h j h' hl ht
        · omega
      · split at h
        · rename_i hno
          injection h with h; subst h
          rcases Nat.lt_succ_iff_lt_or_eq.1 hj with h' | rfl
          · rcases Lb.rTo_none hno j h' with h'' | h''
            · exact absurd h'' hl
            · omega
          · exact ⟨Int.le_refl _, fun h => by omega⟩
        · rename_i i hi
          have hil := Lb.rTo_lt hi
          split at h
          · rename_i hlt
            injection h with h; subst h
            rcases Nat.lt_succ_iff_lt_or_eq.1 hj with h' | rfl
            · have := Lb.rTo_least hi j h' hl ht; exact ⟨by omega, fun _ => by omega⟩
            · exact ⟨Int.le_refl _, fun h => by omega⟩
          · rename_i hlt
            injection h with h; subst h
            rcases Nat.lt_succ_iff_lt_or_eq.1 hj with h' | rfl
            · exact Lb.rTo_least hi j h' hl ht
            · exact ⟨by omega, fun h => by omega⟩
theorem Lb.oldTo_first {S : Lb} : ∀ {n k : Nat}, S.oldTo n = some k → ∀ j, j < k → S.L j ≠ [] → S.T k < S.T j
  | 0, _, h, _, _, _ => by cases h
  | n + 1, k, h, j, hj, hl => by
    have hk := (Lb.oldTo_lt h).1
    unfold Lb.oldTo Lb.pick at h
    split at h
    · exact Lb.oldTo_first h j hj hl
    · split at h
      · rename_i hno
        injection h with h; subst h
        exact absurd (Lb.oldTo_none hno j hj) hl
      · rename_i i hi
        split at h
        · injection h with h; subst h
          have := Lb.oldTo_least hi j hj hl; omega
        · injection h with h; subst h
          exact Lb.oldTo_first hi j hj hl

/-- The program's limbo and the reference's say the same. -/
structure Sim (S R : Lb) : Prop where
  ok : S.Ok
  L : ∀ k, S.L k = R.L k
  T : ∀ k, k < 3 → S.L k ≠ [] → S.T k = R.T k
  last : (R.last = -1 ∧ S.last = 0) ∨ R.last = S.last
theorem Sim.zero : Sim Lb.zero Lb.rzero := ⟨Lb.Ok.zero, fun _ => rfl, fun _ _ h => absurd rfl h, .inl ⟨rfl, rfl⟩⟩
theorem Sim.size {S R : Lb} (h : Sim S R) : R.size = S.size := by unfold Lb.size; rw [h.L, h.L, h.L]
theorem Sim.opn {S R : Lb} (h : Sim S R) (now : Int) : R.ropn now = S.opn now := by
  unfold Lb.ropn
  by_cases hn : now < 2
  · rw [if_pos hn]
    rcases ho : S.opn now with _ | k
    · rfl
    · obtain ⟨_, h1, _, h3⟩ := Lb.opn_some ho
      have := h.ok.lo k h1
      omega
  · rw [if_neg hn]
    rcases hr : R.rTo now 3 with _ | k
    · rcases ho : S.opn now with _ | j
      · rfl
      · obtain ⟨_, h1, h2, h3⟩ := Lb.opn_some ho
        rcases Lb.rTo_none hr j h1 with h' | h'
        · exact absurd (h.L j ▸ h') h2
        · have := h.T j h1 h2; omega
    · obtain ⟨k1, k2, k3⟩ := Lb.rTo_lt hr
      have k2' : S.L k ≠ [] := by rw [h.L]; exact k2
      have tk := h.T k k1 k2'
      rcases ho : S.opn now with _ | j
      · have := Lb.opn_none ho k k1 k2'; omega
      · obtain ⟨h0, h1, h2, h3⟩ := Lb.opn_some ho
        have tj := h.T j h1 h2
        have h2' : R.L j ≠ [] := by rw [← h.L]; exact h2
        have a := Lb.rTo_least hr j h1 h2' (by omega)
        have b := Lb.oldTo_least h0 k k1 k2'
        by_cases e : k = j
        · rw [e]
        · exfalso
          rcases Nat.lt_or_gt_of_ne e with hlt | hgt
          · have := Lb.oldTo_first h0 k hlt k2'; omega
          · have := a.2 hgt; omega
theorem Sim.clear {S R : Lb} (h : Sim S R) (k : Nat) : Sim (S.clear k) (R.rclear k) := by
  refine ⟨h.ok.clear k, fun j => ?_, fun j hj hl => ?_, h.last⟩
  · unfold Lb.clear Lb.rclear put; dsimp only; split
    · rfl
    · exact h.L j
  · by_cases e : j = k
    · subst e; exact absurd (put_same S.L j []) hl
    · have hl' : S.L j ≠ [] := by rw [← put_other S.L [] e]; exact hl
      rw [show (S.clear k).T j = S.T j from put_other _ _ e]
      exact h.T j hj hl'
theorem Lb.size_rclear {R : Lb} {k : Nat} (hk : k < 3) : R.size = (R.rclear k).size + (R.L k).length := by
  have : k = 0 ∨ k = 1 ∨ k = 2 := by omega
  unfold Lb.size Lb.rclear put
  rcases this with rfl | rfl | rfl <;> simp <;> omega
theorem Sim.taken {S R : Lb} (h : Sim S R) {k : Nat} (hk : k < 3) (tag : Int) : R.rtaken k tag = S.taken k tag := by
  unfold Lb.rtaken Lb.taken
  by_cases hl : S.L k = []
  · rw [if_neg (by rw [← h.L]; intro h'; exact h'.1 hl)]
    split
    · exact hl.symm
    · rfl
  · have ht := h.T k hk hl
    by_cases c : S.T k < tag
    · rw [if_pos ⟨by rw [← h.L]; exact hl, by omega⟩, if_pos c, h.L]
    · rw [if_neg (by intro h'; omega), if_neg c]
theorem Sim.retire {S R : Lb} (h : Sim S R) {k : Nat} {tag : Int} {xs : List Int} (hk : k < 3) (h0 : S.last ≤ tag) (h1 : tag ≤ 4611686018427387903) (hr : tag % 3 = k) (hx : xs ≠ []) : Sim (S.retire k tag xs) (R.rretire k tag xs) := by
  refine ⟨h.ok.retire h0 h1 hr hx, fun j => ?_, fun j hj hl => ?_, .inr ?_⟩
  · by_cases e : j = k
    · subst e
      unfold Lb.retire Lb.rretire
      by_cases hl : S.L j = []
      · have e1 : (if S.T j < tag then S.clear j else S).L j = [] := by split; exact put_same _ _ _; exact hl
        have e2 : (if R.L j ≠ [] ∧ R.T j < tag then R.rclear j else R) = R := if_neg (by rw [← h.L]; intro h'; exact h'.1 hl)
        rw [e2]
        show put _ j _ j = put _ j _ j
        rw [put_same, put_same, e1, ← h.L, hl]
      · have ht := h.T j hk hl
        by_cases c : S.T j < tag
        · have e2 : (if R.L j ≠ [] ∧ R.T j < tag then R.rclear j else R) = R.rclear j := if_pos ⟨by rw [← h.L]; exact hl, by omega⟩
          have e1 : (if S.T j < tag then S.clear j else S) = S.clear j := if_pos c
          rw [e1, e2]
          show put _ j _ j = put _ j _ j
          rw [put_same, put_same]
          show put S.L j [] j ++ xs = put R.L j [] j ++ xs
          rw [put_same, put_same]
        · have e2 : (if R.L j ≠ [] ∧ R.T j < tag then R.rclear j else R) = R := if_neg (by intro h'; omega)
          have e1 : (if S.T j < tag then S.clear j else S) = S := if_neg c
          rw [e1, e2]
          show put _ j _ j = put _ j _ j
          rw [put_same, put_same, h.L]
    · have a : (S.retire k tag xs).L j = S.L j := by
        unfold Lb.retire; split
        · exact (put_other _ _ e).trans (put_other _ _ e)
        · exact put_other _ _ e
      have b : (R.rretire k tag xs).L j = R.L j := by
        unfold Lb.rretire; split
        · exact (put_other _ _ e).trans (put_other _ _ e)
        · exact put_other _ _ e
      rw [a, b, h.L]
  · by_cases e : j = k
    · subst e
      have a : (S.retire j tag xs).T j = tag := by unfold Lb.retire; split <;> exact put_same _ _ _
      have b : (R.rretire j tag xs).T j = tag := by unfold Lb.rretire; split <;> exact put_same _ _ _
      rw [a, b]
    · have a : (S.retire k tag xs).L j = S.L j ∧ (S.retire k tag xs).T j = S.T j := by
        unfold Lb.retire; split
        · exact ⟨(put_other _ _ e).trans (put_other _ _ e), (put_other _ _ e).trans (put_other _ _ e)⟩
        · exact ⟨put_other _ _ e, put_other _ _ e⟩
      have b : (R.rretire k tag xs).T j = R.T j := by
        unfold Lb.rretire; split
        · exact (put_other _ _ e).trans rfl
        · exact put_other _ _ e
      rw [a.1] at hl
      rw [a.2, b]
      exact h.T j hj hl
  · have a : (S.retire k tag xs).last = tag := by unfold Lb.retire; split <;> rfl
    have b : (R.rretire k tag xs).last = tag := by unfold Lb.rretire; split <;> rfl
    rw [a, b]
/-- May these items be retired? -/
theorem Sim.may {S R : Lb} (h : Sim S R) (tag : Int) : (0 ≤ tag ∧ R.last ≤ tag) ↔ S.last ≤ tag := by
  have := h.ok.last0
  rcases h.last with ⟨a, b⟩ | a
  · rw [a, b]; omega
  · rw [a]; omega
def Lb.routs : Nat → Lb → Int → List Int
  | 0, _, _ => []
  | n + 1, R, now => match R.ropn now with
    | none => []
    | some k => R.L k ++ Lb.routs n (R.rclear k) now
def Lb.rrest : Nat → Lb → Int → Lb
  | 0, R, _ => R
  | n + 1, R, now => match R.ropn now with
    | none => R
    | some k => Lb.rrest n (R.rclear k) now
def Lb.router (R : Lb) (now : Int) : List Int := Lb.routs R.cnt R now
def Lb.rremain (R : Lb) (now : Int) : Lb := Lb.rrest R.cnt R now
theorem Lb.ropn_some {R : Lb} {now : Int} {k : Nat} (h : R.ropn now = some k) : 2 ≤ now ∧ R.rTo now 3 = some k ∧ k < 3 ∧ R.L k ≠ [] := by
  unfold Lb.ropn at h
  split at h
  · cases h
  · have := Lb.rTo_lt h; exact ⟨by omega, h, this.1, this.2.1⟩
theorem Lb.cnt_rclear {R : Lb} {k : Nat} (hk : k < 3) (hl : R.L k ≠ []) : R.cnt = (R.rclear k).cnt + 1 := by
  have : k = 0 ∨ k = 1 ∨ k = 2 := by omega
  unfold Lb.cnt Lb.rclear put
  rcases this with rfl | rfl | rfl <;> simp [hl] <;> omega
theorem Lb.router_some {R : Lb} {now : Int} {k : Nat} (h : R.ropn now = some k) : R.router now = R.L k ++ (R.rclear k).router now ∧ R.rremain now = (R.rclear k).rremain now := by
  obtain ⟨_, _, hk, hl⟩ := Lb.ropn_some h
  unfold Lb.router Lb.rremain
  rw [Lb.cnt_rclear hk hl]
  simp only [Lb.routs, Lb.rrest, h]
  exact ⟨trivial, trivial⟩
theorem Lb.router_none {R : Lb} {now : Int} (h : R.ropn now = none) : R.router now = [] ∧ R.rremain now = R := by
  unfold Lb.router Lb.rremain
  cases R.cnt <;> simp [Lb.routs, Lb.rrest, h]
theorem Sim.rdy (now : Int) : ∀ (n : Nat) {S R : Lb}, Sim S R → Lb.routs n R now = Lb.rdyL n S now ∧ Sim (Lb.rdyS n S now) (Lb.rrest n R now)
  | 0, _, _, h => ⟨rfl, h⟩
  | n + 1, S, R, h => by
    unfold Lb.routs Lb.rdyL Lb.rdyS Lb.rrest
    rw [h.opn now]
    rcases S.opn now with _ | k
    · exact ⟨rfl, h⟩
    · obtain ⟨a, b⟩ := Sim.rdy now n (h.clear k)
      exact ⟨by dsimp only; rw [a, h.L], b⟩
theorem Sim.cnt {S R : Lb} (h : Sim S R) : R.cnt = S.cnt := by unfold Lb.cnt; rw [h.L, h.L, h.L]
theorem Sim.ready {S R : Lb} (h : Sim S R) (now : Int) : R.router now = S.outs now ∧ Sim (S.rest now) (R.rremain now) := by
  unfold Lb.router Lb.rremain Lb.outs Lb.rest
  rw [h.cnt]
  exact Sim.rdy now _ h
end Go.Proofs.Ythajdabdiaogiaa
