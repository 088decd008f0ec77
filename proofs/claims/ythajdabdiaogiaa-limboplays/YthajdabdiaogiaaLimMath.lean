/-
  What a limbo is, told by three tags, three lists and the greatest tag (Lb): which bucket is the oldest, what is open, what Ready leaves. No program is named here.
-/
import Derived.WalkKit
namespace Go.Proofs.Ythajdabdiaogiaa

/-- A limbo: each bucket's tag, each bucket's items, the greatest tag that was retired. -/
structure Lb where
  T : Nat → Int
  L : Nat → List Int
  last : Int
def put {α : Type} (f : Nat → α) (k : Nat) (x : α) : Nat → α := fun j => if j = k then x else f j
@[simp] theorem put_same {α : Type} (f : Nat → α) (k : Nat) (x : α) : put f k x k = x := by simp [put]
theorem put_other {α : Type} (f : Nat → α) {j k : Nat} (x : α) (h : j ≠ k) : put f k x j = f j := by simp [put, h]
def Lb.zero : Lb := ⟨fun _ => 0, fun _ => [], 0⟩
/-- The bucket k without its items, and without its tag. -/
def Lb.clear (S : Lb) (k : Nat) : Lb := ⟨put S.T k 0, put S.L k [], S.last⟩
def Lb.add (S : Lb) (k : Nat) (tag : Int) (xs : List Int) : Lb := ⟨put S.T k tag, put S.L k (S.L k ++ xs), tag⟩
def Lb.size (S : Lb) : Nat := (S.L 0).length + (S.L 1).length + (S.L 2).length
/-- How many buckets have items. -/
def Lb.cnt (S : Lb) : Nat := (if S.L 0 = [] then 0 else 1) + (if S.L 1 = [] then 0 else 1) + (if S.L 2 = [] then 0 else 1)
def Lb.retire (S : Lb) (k : Nat) (tag : Int) (xs : List Int) : Lb := (if S.T k < tag then S.clear k else S).add k tag xs
def Lb.taken (S : Lb) (k : Nat) (tag : Int) : List Int := if S.T k < tag then S.L k else []
/-- The better of one bucket (none: no bucket yet) and the bucket k. -/
def Lb.pick (S : Lb) (r : Option Nat) (k : Nat) : Option Nat :=
  if S.L k = [] then r else match r with
    | none => some k
    | some j => if S.T k < S.T j then some k else some j
def Lb.oldTo (S : Lb) : Nat → Option Nat
  | 0 => none
  | k + 1 => S.pick (S.oldTo k) k
def Lb.old (S : Lb) : Option Nat := S.oldTo 3
/-- The bucket that Ready takes next. -/
def Lb.opn (S : Lb) (now : Int) : Option Nat := match S.old with
  | none => none
  | some k => if S.T k + 2 ≤ now then some k else none
def Lb.rdyL : Nat → Lb → Int → List Int
  | 0, _, _ => []
  | n + 1, S, now => match S.opn now with
    | none => []
    | some k => S.L k ++ Lb.rdyL n (S.clear k) now
def Lb.rdyS : Nat → Lb → Int → Lb
  | 0, S, _ => S
  | n + 1, S, now => match S.opn now with
    | none => S
    | some k => Lb.rdyS n (S.clear k) now
/-- What Ready answers, and what it leaves. -/
def Lb.outs (S : Lb) (now : Int) : List Int := Lb.rdyL S.cnt S now
def Lb.rest (S : Lb) (now : Int) : Lb := Lb.rdyS S.cnt S now

/-- What holds of every limbo: tags from 0 to the greatest one that was retired; without items the tag is 0; a bucket's tag is of that bucket. -/
structure Lb.Ok (S : Lb) : Prop where
  lo : ∀ k, k < 3 → 0 ≤ S.T k
  hi : ∀ k, k < 3 → S.T k ≤ S.last
  top : S.last ≤ 4611686018427387903
  nil : ∀ k, k < 3 → S.L k = [] → S.T k = 0
  res : ∀ k, k < 3 → S.L k ≠ [] → S.T k % 3 = k
theorem Lb.Ok.zero : Lb.zero.Ok := ⟨fun _ _ => Int.le_refl _, fun _ _ => Int.le_refl _, by decide, fun _ _ _ => rfl, fun _ _ h => absurd rfl h⟩
theorem Lb.Ok.last0 {S : Lb} (h : S.Ok) : 0 ≤ S.last := Int.le_trans (h.lo 0 (by decide)) (h.hi 0 (by decide))
theorem Lb.Ok.clear {S : Lb} (h : S.Ok) (k : Nat) : (S.clear k).Ok := by
  refine ⟨fun j hj => ?_, fun j hj => ?_, h.top, fun j hj => ?_, fun j hj => ?_⟩
  · unfold Lb.clear put; dsimp only; split
    · exact Int.le_refl _
    · exact h.lo j hj
  · unfold Lb.clear put; dsimp only; split
    · exact h.last0
    · exact h.hi j hj
  · unfold Lb.clear put; dsimp only; split
    · intro; rfl
    · exact h.nil j hj
  · unfold Lb.clear put; dsimp only; split
    · intro h; exact absurd rfl h
    · exact h.res j hj
theorem Lb.Ok.add {S : Lb} (h : S.Ok) {k : Nat} {tag : Int} {xs : List Int} (h0 : S.last ≤ tag) (h1 : tag ≤ 4611686018427387903) (hk : tag % 3 = k) (hx : xs ≠ []) : (S.add k tag xs).Ok := by
  have l0 := h.last0
  refine ⟨fun j hj => ?_, fun j hj => ?_, h1, fun j hj => ?_, fun j hj => ?_⟩
  · unfold Lb.add put; dsimp only; split
    · omega
    · exact h.lo j hj
  · unfold Lb.add put; dsimp only; split
    · exact Int.le_refl _
    · exact Int.le_trans (h.hi j hj) h0
  · unfold Lb.add put; dsimp only; split
    · intro e; simp at e; exact absurd e.2 hx
    · exact h.nil j hj
  · unfold Lb.add put; dsimp only; split
    · intro _; subst_vars; exact hk
    · exact h.res j hj
theorem Lb.Ok.retire {S : Lb} (h : S.Ok) {k : Nat} {tag : Int} {xs : List Int} (h0 : S.last ≤ tag) (h1 : tag ≤ 4611686018427387903) (hk : tag % 3 = k) (hx : xs ≠ []) : (S.retire k tag xs).Ok := by
  unfold Lb.retire
  split
  · exact (h.clear k).add h0 h1 hk hx
  · exact h.add h0 h1 hk hx
theorem three {P : Nat → Prop} (h0 : P 0) (h1 : P 1) (h2 : P 2) : ∀ k, k < 3 → P k := by
  intro k hk
  have : k = 0 ∨ k = 1 ∨ k = 2 := by omega
  rcases this with rfl | rfl | rfl <;> assumption
theorem Lb.oldTo_lt {S : Lb} : ∀ {n k : Nat}, S.oldTo n = some k → k < n ∧ S.L k ≠ []
  | 0, k, h => by cases h
  | n + 1, k, h => by
    unfold Lb.oldTo Lb.pick at h
    split at h
    · have := Lb.oldTo_lt h; exact ⟨by omega, this.2⟩
    · rename_i hn
      split at h
      · injection h with h; subst h; exact ⟨by omega, hn⟩
      · rename_i j hj
        split at h
        · injection h with h; subst h; exact ⟨by omega, hn⟩
        · injection h with h; subst h; have := Lb.oldTo_lt hj; exact ⟨by omega, this.2⟩
theorem Lb.oldTo_none {S : Lb} : ∀ {n : Nat}, S.oldTo n = none → ∀ k, k < n → S.L k = []
  | 0, _, k, hk => absurd hk (by omega)
  | n + 1, h, k, hk => by
    unfold Lb.oldTo Lb.pick at h
    split at h
    · rename_i hn
      rcases Nat.lt_succ_iff_lt_or_eq.1 hk with h' | rfl
      · exact Lb.oldTo_none h k h'
      · exact hn
    · split at h
      · cases h
      · split at h <;> cases h
theorem Lb.oldTo_least {S : Lb} : ∀ {n k : Nat}, S.oldTo n = some k → ∀ j, j < n → S.L j ≠ [] → S.T k ≤ S.T j
  | 0, _, h, _, _, _ => by cases h
  | n + 1, k, h, j, hj, hl => by
    unfold Lb.oldTo Lb.pick at h
    split at h
    · rename_i hn
      rcases Nat.lt_succ_iff_lt_or_eq.1 hj with h' | rfl
      · exact Lb.oldTo_least h j h' hl
      · exact absurd hn hl
    · split at h
      · rename_i hno
        injection h with h; subst h
        rcases Nat.lt_succ_iff_lt_or_eq.1 hj with h' | rfl
        · exact absurd (Lb.oldTo_none hno j h') hl
        · exact Int.le_refl _
      · rename_i i hi
        split at h
        · rename_i hlt
          injection h with h; subst h
          rcases Nat.lt_succ_iff_lt_or_eq.1 hj with h' | rfl
          · have := Lb.oldTo_least hi j h' hl; omega
          · exact Int.le_refl _
        · rename_i hlt
          injection h with h; subst h
          rcases Nat.lt_succ_iff_lt_or_eq.1 hj with h' | rfl
          · exact Lb.oldTo_least hi j h' hl
          · omega
theorem Lb.opn_some {S : Lb} {now : Int} {k : Nat} (h : S.opn now = some k) : S.old = some k ∧ k < 3 ∧ S.L k ≠ [] ∧ S.T k + 2 ≤ now := by
  unfold Lb.opn at h
  split at h
  · cases h
  · rename_i j hj
    split at h
    · injection h with h; subst h
      have := Lb.oldTo_lt hj
      exact ⟨hj, this.1, this.2, by assumption⟩
    · cases h
theorem Lb.opn_none {S : Lb} {now : Int} (h : S.opn now = none) : ∀ k, k < 3 → S.L k ≠ [] → now < S.T k + 2 := by
  intro k hk hl
  unfold Lb.opn at h
  split at h
  · rename_i hn; exact absurd (Lb.oldTo_none hn k hk) hl
  · rename_i j hj
    split at h
    · cases h
    · have := Lb.oldTo_least hj k hk hl; omega
theorem Lb.cnt_clear {S : Lb} {k : Nat} (hk : k < 3) (hl : S.L k ≠ []) : S.cnt = (S.clear k).cnt + 1 := by
  have : k = 0 ∨ k = 1 ∨ k = 2 := by omega
  unfold Lb.cnt Lb.clear put
  rcases this with rfl | rfl | rfl <;> simp [hl] <;> omega
theorem Lb.size_clear {S : Lb} {k : Nat} (hk : k < 3) : S.size = (S.clear k).size + (S.L k).length := by
  have : k = 0 ∨ k = 1 ∨ k = 2 := by omega
  unfold Lb.size Lb.clear put
  rcases this with rfl | rfl | rfl <;> simp <;> omega
theorem Lb.size_add {S : Lb} {k : Nat} (hk : k < 3) (tag : Int) (xs : List Int) : (S.add k tag xs).size = S.size + xs.length := by
  have : k = 0 ∨ k = 1 ∨ k = 2 := by omega
  unfold Lb.size Lb.add put
  rcases this with rfl | rfl | rfl <;> simp <;> omega
theorem Lb.len_le {S : Lb} {k : Nat} (hk : k < 3) : (S.L k).length ≤ S.size := by have := S.size_clear hk; omega
theorem Lb.size_retire {S : Lb} {k : Nat} (hk : k < 3) (tag : Int) (xs : List Int) : (S.retire k tag xs).size + (S.taken k tag).length = S.size + xs.length := by
  unfold Lb.retire Lb.taken
  split
  · rw [Lb.size_add hk]; have := S.size_clear hk; omega
  · rw [Lb.size_add hk]; simp
/-- One step of Ready. -/
theorem Lb.outs_some {S : Lb} {now : Int} {k : Nat} (h : S.opn now = some k) : S.outs now = S.L k ++ (S.clear k).outs now ∧ S.rest now = (S.clear k).rest now := by
  obtain ⟨_, hk, hl, _⟩ := Lb.opn_some h
  unfold Lb.outs Lb.rest
  rw [Lb.cnt_clear hk hl]
  simp only [Lb.rdyL, Lb.rdyS, h]
  exact ⟨trivial, trivial⟩
theorem Lb.outs_none {S : Lb} {now : Int} (h : S.opn now = none) : S.outs now = [] ∧ S.rest now = S := by
  unfold Lb.outs Lb.rest
  cases S.cnt <;> simp [Lb.rdyL, Lb.rdyS, h]
/-- A thing that holds of S and goes over each step holds at the end. -/
theorem Lb.walk {now : Int} {P : Lb → List Int → Prop} (step : ∀ S o k, P S o → S.opn now = some k → P (S.clear k) (o ++ S.L k)) :
    ∀ (n : Nat) (S : Lb) (o : List Int), S.cnt = n → P S o → P (S.rest now) (o ++ S.outs now) ∧ (S.rest now).opn now = none
  | n, S, o, hn, hP => by
    rcases h : S.opn now with _ | k
    · obtain ⟨e1, e2⟩ := Lb.outs_none h
      rw [e1, e2, List.append_nil]; exact ⟨hP, h⟩
    · obtain ⟨_, hk, hl, _⟩ := Lb.opn_some h
      obtain ⟨e1, e2⟩ := Lb.outs_some h
      have hc := Lb.cnt_clear hk hl
      rw [e1, e2, ← List.append_assoc]
      match n, hn with
      | 0, hn => omega
      | n + 1, hn => exact Lb.walk step n (S.clear k) (o ++ S.L k) (by omega) (step S o k hP h)
theorem Lb.rest_ok {S : Lb} (h : S.Ok) (now : Int) : (S.rest now).Ok ∧ (S.rest now).last = S.last ∧ (S.rest now).size + (S.outs now).length = S.size ∧ (S.rest now).opn now = none := by
  have := Lb.walk (now := now) (P := fun R o => R.Ok ∧ R.last = S.last ∧ R.size + o.length = S.size) (fun R o k ⟨h1, h2, h3⟩ hk => ⟨h1.clear k, h2, by have := R.size_clear (Lb.opn_some hk).2.1; rw [List.length_append]; omega⟩) _ S [] rfl ⟨h, rfl, by simp⟩
  simpa only [List.nil_append, and_assoc] using this
end Go.Proofs.Ythajdabdiaogiaa
