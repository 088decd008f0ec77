/-
  LimboOnce's numbers: how often a number is in a limbo; what comes out of Retire and Ready. No program is named here.
-/
import Derived.Test.YthajdabdiaogiaaLimMath
namespace Go.Proofs.Ythajdabdiaogiaa

/-- How often x is in the limbo. -/
def Lb.num (S : Lb) (x : Int) : Nat := (S.L 0).count x + (S.L 1).count x + (S.L 2).count x
theorem Lb.num_clear {S : Lb} {k : Nat} (hk : k < 3) (x : Int) : S.num x = (S.clear k).num x + (S.L k).count x := by
  have : k = 0 ∨ k = 1 ∨ k = 2 := by omega
  unfold Lb.num Lb.clear put
  rcases this with rfl | rfl | rfl <;> simp <;> omega
theorem Lb.num_add {S : Lb} {k : Nat} (hk : k < 3) (tag : Int) (xs : List Int) (x : Int) : (S.add k tag xs).num x = S.num x + xs.count x := by
  have : k = 0 ∨ k = 1 ∨ k = 2 := by omega
  unfold Lb.num Lb.add put
  rcases this with rfl | rfl | rfl <;> simp [List.count_append] <;> omega
theorem Lb.num_retire {S : Lb} {k : Nat} (hk : k < 3) (tag : Int) (xs : List Int) (x : Int) : (S.retire k tag xs).num x + (S.taken k tag).count x = S.num x + xs.count x := by
  unfold Lb.retire Lb.taken
  split
  · rw [Lb.num_add hk]; have := S.num_clear hk x; omega
  · rw [Lb.num_add hk]; simp
theorem Lb.num_mem {S : Lb} {k : Nat} (hk : k < 3) {x : Int} (h : x ∈ S.L k) : 1 ≤ S.num x := by
  have := S.num_clear hk x
  have := List.count_pos_iff.2 h
  omega
/-- What Ready leaves of each bucket, and whence what it answers is. -/
structure Left (S : Lb) (now : Int) (R : Lb) (o : List Int) : Prop where
  num : ∀ x, R.num x + o.count x = S.num x
  from_ : ∀ x, x ∈ o → ∃ k, k < 3 ∧ x ∈ S.L k ∧ S.T k + 2 ≤ now
  keep : ∀ k, k < 3 → (R.L k = S.L k ∧ R.T k = S.T k) ∨ R.L k = []
theorem Lb.left (S : Lb) (now : Int) : Left S now (S.rest now) (S.outs now) := by
  have := (Lb.walk (now := now) (P := fun R o => Left S now R o) (fun R o k h hk => ?_) _ S [] rfl ⟨fun x => by simp, fun x hx => by simp at hx, fun k _ => .inl ⟨rfl, rfl⟩⟩).1
  · simpa using this
  · obtain ⟨_, h1, h2, h3⟩ := Lb.opn_some hk
    have hkk : R.L k = S.L k ∧ R.T k = S.T k := (h.keep k h1).resolve_right h2
    refine ⟨fun x => ?_, fun x hx => ?_, fun j hj => ?_⟩
    · have := h.num x
      have := R.num_clear h1 x
      rw [List.count_append]; omega
    · rcases List.mem_append.1 hx with hx | hx
      · exact h.from_ x hx
      · exact ⟨k, h1, hkk.1 ▸ hx, hkk.2 ▸ h3⟩
    · by_cases e : j = k
      · subst e; exact .inr (put_same _ _ _)
      · rcases h.keep j hj with ⟨a, b⟩ | a
        · exact .inl ⟨(put_other _ _ e).trans a, (put_other _ _ e).trans b⟩
        · exact .inr ((put_other _ _ e).trans a)
/-- When all tags are gone, all comes. -/
theorem Lb.rest_empty {S : Lb} (h : S.Ok) {now : Int} (hn : S.last + 2 ≤ now) : (S.rest now).size = 0 := by
  obtain ⟨h1, h2, h3, h4⟩ := Lb.rest_ok h now
  have e : ∀ k, k < 3 → (S.rest now).L k = [] := by
    intro k hk
    by_cases hl : (S.rest now).L k = []
    · exact hl
    · have a := Lb.opn_none h4 k hk hl
      have b := h1.hi k hk
      omega
  unfold Lb.size
  rw [e 0 (by omega), e 1 (by omega), e 2 (by omega)]; rfl

/-- The items in the limbo: each once, each was retired, under the tag of its bucket, and has not come. -/
structure In (S : Lb) (next : Nat) (tg cm : Nat → Int) : Prop where
  num : ∀ x, S.num x ≤ 1
  mem : ∀ k, k < 3 → ∀ x, x ∈ S.L k → 0 ≤ x ∧ x < next ∧ tg x.toNat = S.T k ∧ cm x.toNat = 0
/-- Behind a call: what came, and what is still there. -/
structure Got (S : Lb) (got : List Int) (now : Int) (next : Nat) (tg cm : Nat → Int) : Prop where
  num : ∀ x, S.num x + got.count x ≤ 1
  mem : ∀ k, k < 3 → ∀ x, x ∈ S.L k → 0 ≤ x ∧ x < next ∧ tg x.toNat = S.T k ∧ cm x.toNat = 0
  came : ∀ x, x ∈ got → 0 ≤ x ∧ x < next ∧ tg x.toNat + 2 ≤ now ∧ cm x.toNat = 0 ∧ 0 ≤ tg x.toNat
theorem In.zero : In Lb.zero 0 (fun _ => 0) (fun _ => 0) := ⟨fun x => by simp [Lb.num, Lb.zero], fun k _ x hx => by simp [Lb.zero] at hx⟩
theorem In.ready {S : Lb} {next : Nat} {tg cm : Nat → Int} (ok : S.Ok) (h : In S next tg cm) (now : Int) : Got (S.rest now) (S.outs now) now next tg cm := by
  have l := S.left now
  refine ⟨fun x => by rw [l.num x]; exact h.num x, fun k hk x hx => ?_, fun x hx => ?_⟩
  · rcases l.keep k hk with ⟨a, b⟩ | a
    · rw [b]; exact h.mem k hk x (a ▸ hx)
    · rw [a] at hx; simp at hx
  · obtain ⟨k, hk, h1, h2⟩ := l.from_ x hx
    obtain ⟨a, b, c, d⟩ := h.mem k hk x h1
    exact ⟨a, b, by rw [c]; exact h2, d, by rw [c]; exact ok.lo k hk⟩
theorem retire_LT {S : Lb} {k : Nat} {tag : Int} {xs : List Int} (j : Nat) : (j ≠ k → (S.retire k tag xs).L j = S.L j ∧ (S.retire k tag xs).T j = S.T j) ∧ (S.retire k tag xs).T k = tag ∧ (S.retire k tag xs).L k = (if S.T k < tag then [] else S.L k) ++ xs := by
  unfold Lb.retire
  refine ⟨fun e => ?_, ?_, ?_⟩
  · split
    · exact ⟨(put_other _ _ e).trans (put_other _ _ e), (put_other _ _ e).trans (put_other _ _ e)⟩
    · exact ⟨put_other _ _ e, put_other _ _ e⟩
  · split <;> exact put_same _ _ _
  · by_cases c : S.T k < tag
    · rw [if_pos c, if_pos c]; simp [Lb.add, Lb.clear]
    · rw [if_neg c, if_neg c]; simp [Lb.add]
theorem In.retire {S : Lb} {next : Nat} {tg cm : Nat → Int} (ok : S.Ok) (h : In S next tg cm) {now : Int} {k : Nat} (hk3 : k < 3) (hk : now % 3 = k) (hl : S.last ≤ now) (hc : cm next = 0) : Got (S.retire k now [(next : Int)]) (S.taken k now) now (next + 1) (put tg next now) cm := by
  have hno : S.num (next : Int) = 0 := by
    rcases Nat.eq_zero_or_pos (S.num (next : Int)) with h0 | h0
    · exact h0
    · exfalso
      have : ∃ j, j < 3 ∧ (next : Int) ∈ S.L j := by
        unfold Lb.num at h0
        by_cases c0 : (next : Int) ∈ S.L 0
        · exact ⟨0, by omega, c0⟩
        · by_cases c1 : (next : Int) ∈ S.L 1
          · exact ⟨1, by omega, c1⟩
          · by_cases c2 : (next : Int) ∈ S.L 2
            · exact ⟨2, by omega, c2⟩
            · rw [List.count_eq_zero_of_not_mem c0, List.count_eq_zero_of_not_mem c1, List.count_eq_zero_of_not_mem c2] at h0; omega
      obtain ⟨j, hj, hm⟩ := this
      have := (h.mem j hj _ hm).2.1
      omega
  have old : ∀ j, j < 3 → ∀ x, x ∈ S.L j → 0 ≤ x ∧ x < (next + 1 : Nat) ∧ put tg next now x.toNat = S.T j ∧ cm x.toNat = 0 := by
    intro j hj x hx
    obtain ⟨a, b, c, d⟩ := h.mem j hj x hx
    exact ⟨a, by omega, by rw [put_other _ _ (by omega)]; exact c, d⟩
  refine ⟨fun x => ?_, fun j hj x hx => ?_, fun x hx => ?_⟩
  · rw [Lb.num_retire hk3]
    by_cases e : x = (next : Int)
    · subst e; rw [hno]; simp
    · have := h.num x
      have : [(next : Int)].count x = 0 := List.count_eq_zero_of_not_mem (by simpa using e)
      omega
  · obtain ⟨a, b, c⟩ := retire_LT (S := S) (k := k) (tag := now) (xs := [(next : Int)]) j
    by_cases e : j = k
    · subst e
      rw [c] at hx
      rw [b]
      rcases List.mem_append.1 hx with hx | hx
      · split at hx
        · simp at hx
        · rename_i hn
          have h1 := old j hj x hx
          have h2 := ok.hi j hj
          exact ⟨h1.1, h1.2.1, by rw [h1.2.2.1]; omega, h1.2.2.2⟩
      · simp at hx; subst hx
        exact ⟨by omega, by omega, by simp, by simpa using hc⟩
    · rw [(a e).1] at hx
      rw [(a e).2]
      exact old j hj x hx
  · unfold Lb.taken at hx
    split at hx
    · rename_i hlt
      have h1 := old k hk3 x hx
      have h2 := ok.res k hk3 (fun e => by rw [e] at hx; simp at hx)
      exact ⟨h1.1, h1.2.1, by rw [h1.2.2.1]; omega, h1.2.2.2, by rw [h1.2.2.1]; exact ok.lo k hk3⟩
    · simp at hx
theorem Got.next {S : Lb} {g : Int} {rest : List Int} {now : Int} {next : Nat} {tg cm : Nat → Int} (h : Got S (g :: rest) now next tg cm) : Got S rest now next tg (put cm g.toNat (cm g.toNat + 1)) := by
  have hg := h.came g (by simp)
  have hne : ∀ x, 0 ≤ x → 1 ≤ S.num x + rest.count x → x.toNat ≠ g.toNat := by
    intro x hx0 hx e
    have e2 : x = g := by omega
    subst e2
    have := h.num x
    rw [List.count_cons_self] at this
    omega
  refine ⟨fun x => ?_, fun k hk x hx => ?_, fun x hx => ?_⟩
  · have := h.num x
    rw [List.count_cons] at this
    omega
  · obtain ⟨a, b, c, d⟩ := h.mem k hk x hx
    exact ⟨a, b, c, by rw [put_other _ _ (hne x a (by have := Lb.num_mem hk hx; omega))]; exact d⟩
  · obtain ⟨a, b, c, d, e⟩ := h.came x (by simp [hx])
    exact ⟨a, b, c, by rw [put_other _ _ (hne x a (by have := List.count_pos_iff.2 hx; omega))]; exact d, e⟩
theorem Got.done {S : Lb} {now : Int} {next : Nat} {tg cm : Nat → Int} (h : Got S [] now next tg cm) : In S next tg cm := ⟨fun x => by have := h.num x; simpa using this, h.mem⟩
end Go.Proofs.Ythajdabdiaogiaa
