/-
  LimboOrder's numbers: three tags in a row, so many items each; what Ready answers then. No program is named here.
-/
import Derived.Test.YthajdabdiaogiaaLimMath
namespace Go.Proofs.Ythajdabdiaogiaa

theorem Lb.clear_nil {S : Lb} {b : Nat} (h : S.L b = []) (h0 : S.T b = 0) : S.clear b = S := by
  unfold Lb.clear
  have e1 : put S.T b 0 = S.T := by funext j; unfold put; split <;> simp_all
  have e2 : put S.L b [] = S.L := by funext j; unfold put; split <;> simp_all
  rw [e1, e2]
theorem Lb.old_is {S : Lb} {b : Nat} (hb : b < 3) (hl : S.L b ≠ []) (h : ∀ j, j < 3 → j ≠ b → S.L j ≠ [] → S.T b < S.T j) : S.old = some b := by
  rcases ho : S.old with _ | k
  · exact absurd (Lb.oldTo_none ho b hb) hl
  · obtain ⟨h1, h2⟩ := Lb.oldTo_lt ho
    have h3 := Lb.oldTo_least ho b hb hl
    by_cases e : k = b
    · rw [e]
    · have := h k h1 e h2; omega
/-- What is open, by what comes. -/
theorem Lb.open_iff (S : Lb) (now : Int) : (S.opn now).isSome = decide (0 < (S.outs now).length) := by
  rcases h : S.opn now with _ | k
  · rw [(Lb.outs_none h).1]; rfl
  · rw [(Lb.outs_some h).1]
    have := List.length_pos_iff.2 (Lb.opn_some h).2.2.1
    simp; omega
/-- The bucket b has the least tag of all, or nothing. -/
theorem Lb.peel {S : Lb} (ok : S.Ok) {now : Int} {b : Nat} (hb : b < 3) (h : ∀ j, j < 3 → j ≠ b → S.L b ≠ [] → S.L j ≠ [] → S.T b < S.T j) (hn : S.L b ≠ [] → S.T b + 2 ≤ now) : S.outs now = S.L b ++ (S.clear b).outs now := by
  by_cases hl : S.L b = []
  · rw [hl, Lb.clear_nil hl (ok.nil b hb hl)]; rfl
  · have ho := Lb.old_is hb hl (fun j h1 h2 h3 => h j h1 h2 hl h3)
    have : S.opn now = some b := by unfold Lb.opn; rw [ho]; dsimp only; rw [if_pos (hn hl)]
    exact (Lb.outs_some this).1
theorem Lb.shut {S : Lb} {now : Int} (h : ∀ j, j < 3 → S.L j ≠ [] → now < S.T j + 2) : S.outs now = [] := by
  rcases ho : S.opn now with _ | k
  · exact (Lb.outs_none ho).1
  · obtain ⟨_, h1, h2, h3⟩ := Lb.opn_some ho
    have := h k h1 h2; omega

/-- Which of the three the bucket b is. -/
def jb (t b : Nat) : Nat := (b + 3 - t % 3) % 3
def kb (t j : Nat) : Nat := (t + j) % 3
theorem jb_kb {t j : Nat} (h : j < 3) : jb t (kb t j) = j := by unfold jb kb; omega
theorem kb_jb {t b : Nat} (h : b < 3) : kb t (jb t b) = b := by unfold jb kb; omega
theorem kb_lt (t j : Nat) : kb t j < 3 := by unfold kb; omega
theorem jb_lt (t b : Nat) : jb t b < 3 := by unfold jb; omega
def ordS (t : Nat) (l : Nat → List Int) : Nat → Lb
  | 0 => Lb.zero
  | i + 1 => if l i = [] then ordS t l i else (ordS t l i).retire (kb t i) (t + i : Nat) (l i)
def ordW (t : Nat) (at_ : Int) (l : Nat → List Int) : Nat → List Int
  | 0 => []
  | i + 1 => if l i ≠ [] ∧ ((t + i : Nat) : Int) + 2 ≤ at_ then ordW t at_ l i ++ l i else ordW t at_ l i
structure OrdAt (t : Nat) (l : Nat → List Int) (i : Nat) (S : Lb) : Prop where
  L : ∀ b, b < 3 → S.L b = if jb t b < i then l (jb t b) else []
  T : ∀ b, b < 3 → S.T b = if jb t b < i ∧ l (jb t b) ≠ [] then ((t + jb t b : Nat) : Int) else 0
  last : S.last ≤ (t + i : Nat)
  ok : S.Ok
theorem ord_taken {t i : Nat} {l : Nat → List Int} {S : Lb} (h : OrdAt t l i S) (hi : i < 3) (tag : Int) : S.taken (kb t i) tag = [] := by
  have := h.L (kb t i) (kb_lt t i)
  rw [jb_kb hi, if_neg (by omega)] at this
  unfold Lb.taken
  rw [this]; split <;> rfl
theorem ord_at (t : Nat) (ht : t ≤ 1000) (l : Nat → List Int) : ∀ i, i ≤ 3 → OrdAt t l i (ordS t l i)
  | 0, _ => ⟨fun b _ => by rw [if_neg (by omega)]; rfl, fun b _ => by rw [if_neg (by omega)]; rfl, by show (0 : Int) ≤ _; omega, Lb.Ok.zero⟩
  | i + 1, hi => by
    have ih := ord_at t ht l i (by omega)
    unfold ordS
    by_cases hl : l i = []
    · rw [if_pos hl]
      refine ⟨fun b hb => ?_, fun b hb => ?_, by have := ih.last; omega, ih.ok⟩
      · rw [ih.L b hb]
        by_cases h1 : jb t b = i
        · rw [if_neg (by omega), if_pos (by omega), h1, hl]
        · by_cases h2 : jb t b < i
          · rw [if_pos h2, if_pos (by omega)]
          · rw [if_neg h2, if_neg (by omega)]
      · rw [ih.T b hb]
        by_cases h1 : jb t b = i
        · rw [if_neg (by omega), if_neg (by rw [h1]; intro h; exact h.2 hl)]
        · by_cases h2 : jb t b < i
          · by_cases h3 : l (jb t b) = []
            · rw [if_neg (fun h => h.2 h3), if_neg (fun h => h.2 h3)]
            · rw [if_pos ⟨h2, h3⟩, if_pos ⟨by omega, h3⟩]
          · rw [if_neg (by omega), if_neg (by omega)]
    · rw [if_neg hl]
      have hk := kb_lt t i
      have hL := ih.L (kb t i) hk
      have hT := ih.T (kb t i) hk
      rw [jb_kb (by omega), if_neg (by omega)] at hL hT
      have key : ∀ b, b < 3 → ((ordS t l i).retire (kb t i) (t + i : Nat) (l i)).L b = (if b = kb t i then l i else (ordS t l i).L b) ∧ ((ordS t l i).retire (kb t i) (t + i : Nat) (l i)).T b = (if b = kb t i then ((t + i : Nat) : Int) else (ordS t l i).T b) := by
        intro b _
        unfold Lb.retire
        split
        · unfold Lb.add Lb.clear put; dsimp only
          split <;> simp
        · unfold Lb.add put; dsimp only
          split
          · simp [hL]
          · simp
      refine ⟨fun b hb => ?_, fun b hb => ?_, ?_, ?_⟩
      · rw [(key b hb).1]
        by_cases h1 : b = kb t i
        · subst h1; rw [if_pos rfl, jb_kb (by omega), if_pos (by omega)]
        · have h2 : jb t b ≠ i := fun e => h1 (by rw [← e, kb_jb hb])
          rw [if_neg h1, ih.L b hb]
          by_cases h3 : jb t b < i
          · rw [if_pos h3, if_pos (by omega)]
          · rw [if_neg h3, if_neg (by omega)]
      · rw [(key b hb).2]
        by_cases h1 : b = kb t i
        · subst h1; rw [if_pos rfl, jb_kb (by omega), if_pos ⟨by omega, hl⟩]
        · have h2 : jb t b ≠ i := fun e => h1 (by rw [← e, kb_jb hb])
          rw [if_neg h1, ih.T b hb]
          by_cases h3 : jb t b < i
          · by_cases h4 : l (jb t b) = []
            · rw [if_neg (fun h => h.2 h4), if_neg (fun h => h.2 h4)]
            · rw [if_pos ⟨h3, h4⟩, if_pos ⟨by omega, h4⟩]
          · rw [if_neg (by omega), if_neg (by omega)]
      · have : ((ordS t l i).retire (kb t i) (t + i : Nat) (l i)).last = (t + i : Nat) := by unfold Lb.retire; split <;> rfl
        rw [this]; omega
      · exact ih.ok.retire ih.last (by omega) (by unfold kb; omega) hl
theorem ord_size (t : Nat) (l : Nat → List Int) {S : Lb} (h : OrdAt t l 3 S) : S.size = (l 0).length + (l 1).length + (l 2).length := by
  have e : ∀ b, b < 3 → S.L b = l (jb t b) := fun b hb => by rw [h.L b hb, if_pos (jb_lt t b)]
  unfold Lb.size
  rw [e 0 (by omega), e 1 (by omega), e 2 (by omega)]
  have : t % 3 = 0 ∨ t % 3 = 1 ∨ t % 3 = 2 := by omega
  unfold jb
  rcases this with h | h | h <;> rw [h] <;> simp <;> omega
theorem ord_small {t i : Nat} {l : Nat → List Int} {S : Lb} (h : OrdAt t l i S) (hl : ∀ j, (l j).length ≤ 5) : S.size ≤ 15 := by
  have e : ∀ b, b < 3 → (S.L b).length ≤ 5 := fun b hb => by rw [h.L b hb]; split; exact hl _; simp
  unfold Lb.size
  have := e 0 (by omega)
  have := e 1 (by omega)
  have := e 2 (by omega)
  omega
theorem ord_outs {t : Nat} {at_ : Int} {l : Nat → List Int} {S : Lb} (h : OrdAt t l 3 S) : S.outs at_ = ordW t at_ l 3 := by
  have eL : ∀ b, b < 3 → S.L b = l (jb t b) := fun b hb => by rw [h.L b hb, if_pos (jb_lt t b)]
  have eT : ∀ b, b < 3 → S.L b ≠ [] → S.T b = ((t + jb t b : Nat) : Int) := fun b hb hl => by
    rw [h.T b hb, if_pos ⟨jb_lt t b, by rw [← eL b hb]; exact hl⟩]
  have k0 := kb_lt t 0
  have k1 := kb_lt t 1
  have k2 := kb_lt t 2
  have n01 : kb t 1 ≠ kb t 0 := by unfold kb; omega
  have n02 : kb t 2 ≠ kb t 0 := by unfold kb; omega
  have n12 : kb t 2 ≠ kb t 1 := by unfold kb; omega
  have all : ∀ b, b < 3 → b = kb t 0 ∨ b = kb t 1 ∨ b = kb t 2 := by intro b hb; unfold kb; omega
  have l0 : S.L (kb t 0) = l 0 := by rw [eL _ k0, jb_kb (by omega)]
  have l1 : S.L (kb t 1) = l 1 := by rw [eL _ k1, jb_kb (by omega)]
  have l2 : S.L (kb t 2) = l 2 := by rw [eL _ k2, jb_kb (by omega)]
  have T0 : l 0 ≠ [] → S.T (kb t 0) = (t : Int) := fun hl => by rw [eT _ k0 (by rw [l0]; exact hl), jb_kb (by omega)]; simp
  have T1 : l 1 ≠ [] → S.T (kb t 1) = (t : Int) + 1 := fun hl => by rw [eT _ k1 (by rw [l1]; exact hl), jb_kb (by omega)]; simp
  have T2 : l 2 ≠ [] → S.T (kb t 2) = (t : Int) + 2 := fun hl => by rw [eT _ k2 (by rw [l2]; exact hl), jb_kb (by omega)]; simp
  have W : ordW t at_ l 3 = (if l 0 ≠ [] ∧ (t : Int) + 2 ≤ at_ then l 0 else []) ++ (if l 1 ≠ [] ∧ (t : Int) + 3 ≤ at_ then l 1 else []) ++ (if l 2 ≠ [] ∧ (t : Int) + 4 ≤ at_ then l 2 else []) := by
    have a1 : ((t + 1 : Nat) : Int) + 2 = (t : Int) + 3 := by omega
    have a2 : ((t + 2 : Nat) : Int) + 2 = (t : Int) + 4 := by omega
    have a0 : ((t + 0 : Nat) : Int) + 2 = (t : Int) + 2 := by omega
    simp only [ordW, a0, a1, a2]
    repeat' split
    all_goals simp
  rw [W]
  have shutAll : at_ < (t : Int) + 2 → S.outs at_ = [] := fun hlt => Lb.shut (fun j hj hl => by rw [eT j hj hl]; omega)
  by_cases c0 : (t : Int) + 2 ≤ at_
  rotate_left
  · rw [shutAll (by omega), if_neg (by omega), if_neg (by omega), if_neg (by omega)]; rfl
  have p0 := Lb.peel h.ok (now := at_) k0 (fun j hj hne hl hl2 => by
    rw [T0 (l0 ▸ hl), eT j hj hl2]
    rcases all j hj with rfl | rfl | rfl
    · exact absurd rfl hne
    · rw [jb_kb (by omega)]; omega
    · rw [jb_kb (by omega)]; omega) (fun hl => by rw [T0 (l0 ▸ hl)]; exact c0)
  have e0 : (if l 0 ≠ [] ∧ (t : Int) + 2 ≤ at_ then l 0 else []) = l 0 := by
    split
    · rfl
    · rename_i hh
      by_cases hz : l 0 = []
      · exact hz.symm
      · exact absurd ⟨hz, c0⟩ hh
  rw [p0, l0, e0, List.append_assoc]
  congr 1
  have q : ∀ b, b ≠ kb t 0 → (S.clear (kb t 0)).L b = S.L b ∧ (S.clear (kb t 0)).T b = S.T b := fun b hb => ⟨put_other _ _ hb, put_other _ _ hb⟩
  have z0 : (S.clear (kb t 0)).L (kb t 0) = [] := put_same _ _ _
  by_cases c1 : (t : Int) + 3 ≤ at_
  rotate_left
  · rw [if_neg (by omega), if_neg (by omega)]
    refine Lb.shut (fun j hj hl => ?_)
    rcases all j hj with rfl | rfl | rfl
    · exact absurd z0 hl
    · rw [(q _ n01).2]; rw [(q _ n01).1, l1] at hl; rw [T1 hl]; omega
    · rw [(q _ n02).2]; rw [(q _ n02).1, l2] at hl; rw [T2 hl]; omega
  have p1 := Lb.peel (h.ok.clear (kb t 0)) (now := at_) k1 (fun j hj hne hl hl2 => by
    rcases all j hj with rfl | rfl | rfl
    · exact absurd z0 hl2
    · exact absurd rfl hne
    · rw [(q _ n01).2, (q _ n02).2]
      rw [(q _ n01).1, l1] at hl
      rw [(q _ n02).1, l2] at hl2
      rw [T1 hl, T2 hl2]; omega) (fun hl => by rw [(q _ n01).1, l1] at hl; rw [(q _ n01).2, T1 hl]; omega)
  have e1 : (if l 1 ≠ [] ∧ (t : Int) + 3 ≤ at_ then l 1 else []) = l 1 := by
    split
    · rfl
    · rename_i hh
      by_cases hz : l 1 = []
      · exact hz.symm
      · exact absurd ⟨hz, c1⟩ hh
  rw [p1, (q _ n01).1, l1, e1]
  congr 1
  have q2 : ((S.clear (kb t 0)).clear (kb t 1)).L (kb t 2) = l 2 ∧ ((S.clear (kb t 0)).clear (kb t 1)).T (kb t 2) = S.T (kb t 2) := by
    refine ⟨?_, ?_⟩
    · rw [show ((S.clear (kb t 0)).clear (kb t 1)).L (kb t 2) = (S.clear (kb t 0)).L (kb t 2) from put_other _ _ n12, (q _ n02).1, l2]
    · rw [show ((S.clear (kb t 0)).clear (kb t 1)).T (kb t 2) = (S.clear (kb t 0)).T (kb t 2) from put_other _ _ n12, (q _ n02).2]
  have z1 : ((S.clear (kb t 0)).clear (kb t 1)).L (kb t 1) = [] := put_same _ _ _
  have z2 : ((S.clear (kb t 0)).clear (kb t 1)).L (kb t 0) = [] := by rw [show ((S.clear (kb t 0)).clear (kb t 1)).L (kb t 0) = (S.clear (kb t 0)).L (kb t 0) from put_other _ _ (Ne.symm n01), z0]
  by_cases c2 : (t : Int) + 4 ≤ at_
  rotate_left
  · rw [if_neg (by omega)]
    refine Lb.shut (fun j hj hl => ?_)
    rcases all j hj with rfl | rfl | rfl
    · exact absurd z2 hl
    · exact absurd z1 hl
    · rw [q2.2]; rw [q2.1] at hl; rw [T2 hl]; omega
  have p2 := Lb.peel ((h.ok.clear (kb t 0)).clear (kb t 1)) (now := at_) k2 (fun j hj hne hl hl2 => by
    rcases all j hj with rfl | rfl | rfl
    · exact absurd z2 hl2
    · exact absurd z1 hl2
    · exact absurd rfl hne) (fun hl => by rw [q2.1] at hl; rw [q2.2, T2 hl]; omega)
  have e2 : (if l 2 ≠ [] ∧ (t : Int) + 4 ≤ at_ then l 2 else []) = l 2 := by
    split
    · rfl
    · rename_i hh
      by_cases hz : l 2 = []
      · exact hz.symm
      · exact absurd ⟨hz, c2⟩ hh
  rw [p2, q2.1, e2]
  have : (((S.clear (kb t 0)).clear (kb t 1)).clear (kb t 2)).outs at_ = [] := Lb.shut (fun j hj hl => by
    rcases all j hj with rfl | rfl | rfl
    · exact absurd (by rw [show (((S.clear (kb t 0)).clear (kb t 1)).clear (kb t 2)).L (kb t 0) = ((S.clear (kb t 0)).clear (kb t 1)).L (kb t 0) from put_other _ _ (Ne.symm n02), z2]) hl
    · exact absurd (by rw [show (((S.clear (kb t 0)).clear (kb t 1)).clear (kb t 2)).L (kb t 1) = ((S.clear (kb t 0)).clear (kb t 1)).L (kb t 1) from put_other _ _ (Ne.symm n12), z1]) hl
    · exact absurd (put_same _ _ _) hl)
  rw [this, List.append_nil]
end Go.Proofs.Ythajdabdiaogiaa
