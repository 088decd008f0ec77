/-
  Several Advances at once from one epoch (EpochWins): what they are together (Win), a Step of one of them; a slice of machines and append to it.
-/
import Derived.Test.YtngaokhlcdlpfaaEpRun
import Derived.Deep.AppendLies
namespace Go.Proofs.Ytngaokhlcdlpfaa
open Go.RowKit
open W64
set_option maxRecDepth 100000
/-- A function turned at one place. -/
def updA {α : Type} (f : Nat → α) (i : Nat) (v : α) : Nat → α := fun j => if j = i then v else f j
theorem updA_same {α : Type} (f : Nat → α) (i : Nat) (v : α) : updA f i v i = v := by simp [updA]
theorem updA_ne {α : Type} (f : Nat → α) {i j : Nat} (v : α) (h : j ≠ i) : updA f i v j = f j := by simp [updA, h]
theorem updA_id {α : Type} (f : Nat → α) (i : Nat) : updA f i (f i) = f := by
  funext j; unfold updA; split
  · subst_vars; rfl
  · rfl
/-- A sum over the first k. -/
def sumA (f : Nat → Int) : Nat → Int
  | 0 => 0
  | k + 1 => sumA f k + f k
theorem sumA_more {f f' : Nat → Int} {u : Nat} (h : ∀ i, i ≠ u → f' i = f i) : ∀ k, u < k → sumA f' k = sumA f k + (f' u - f u)
  | 0, hk => absurd hk (Nat.not_lt_zero _)
  | k + 1, hk => by
    show sumA f' k + f' k = sumA f k + f k + (f' u - f u)
    by_cases e : u = k
    · subst e
      have : ∀ j, j ≤ u → sumA f' j = sumA f j := by
        intro j
        induction j with
        | zero => intro _; rfl
        | succ j ih => intro hj; show sumA f' j + f' j = sumA f j + f j; rw [ih (by omega), h j (by omega)]
      rw [this u (Nat.le_refl _)]; omega
    · rw [sumA_more h k (by omega), h k (fun e' => e e'.symm)]; omega
theorem sumA_same {f f' : Nat → Int} {k : Nat} (h : ∀ i, i < k → f' i = f i) : sumA f' k = sumA f k := by
  induction k with
  | zero => rfl
  | succ k ih => show sumA f' k + f' k = sumA f k + f k; rw [ih (fun i hi => h i (by omega)), h k (by omega)]
theorem sumA_const (f : Nat → Int) (c : Int) {k : Nat} (h : ∀ i, i < k → f i = c) : sumA f k = c * k := by
  induction k with
  | zero => simp [sumA]
  | succ k ih =>
    show sumA f k + f k = c * ((k + 1 : Nat) : Int)
    rw [ih (fun i hi => h i (by omega)), h k (by omega)]
    have : ((k + 1 : Nat) : Int) = (k : Int) + 1 := by omega
    rw [this, Int.mul_add, Int.mul_one]
def wonN (a : Ad) : Int := if a.won then 1 else 0
/-! ### A slice of machines -/
def Ptrs (w : World) (v : Value) (bs : List Nat) : Prop := w.ownsRow 0 45 1 v bs.length (bs.map fun b => .pointer (some ⟨b, 0, none⟩))
section
variable {w w' : World} {v : Value} {bs : List Nat} {p g q b : Nat}
theorem Else.of_grow {row : Option Nat} (h : w.grownBy w' row) : Else row.toList w w' :=
  ⟨h.os, h.tape, h.output, h.size, fun k hk hs => h.block k hk (fun e => hs (by simp [← e]))⟩
theorem Ptrs.nil (w : World) : Ptrs w (.slice none 0 0) [] := ⟨rfl, .inl ⟨rfl, rfl⟩⟩
theorem Ptrs.up (h : Ptrs w v bs) (u : Up w w') : Ptrs w' v bs := own_up h u
theorem Ptrs.else {l : List Nat} (h : Ptrs w v bs) (u : Else l w w') (a : ∀ k, v.ownBlock = some k → k ∉ l) : Ptrs w' v bs := by
  refine ⟨h.1, ?_⟩
  rcases h.2 with h | ⟨g, cap, cur, rfl, hb, hh, r⟩
  · exact .inl h
  · exact .inr ⟨g, cap, cur, rfl, hb, u.heap hh (a _ rfl), r⟩
theorem Ptrs.lt (h : Ptrs w v bs) {k : Nat} (hk : v.ownBlock = some k) : k < w.heap.size := by
  rcases h.2 with ⟨rfl, _⟩ | ⟨g, cap, cur, rfl, _, hh, _⟩
  · simp [Value.ownBlock] at hk
  · simp [Value.ownBlock] at hk; subst hk; exact some_lt hh
theorem Ptrs.get (h : Ptrs w v bs) {u : Nat} (hu : u < bs.length) : ∃ r cap b, v = .slice (some ⟨r, 0, none⟩) bs.length cap ∧ bs[u]? = some b ∧ w.cell? ⟨r, u, none⟩ = some (.pointer (some ⟨b, 0, none⟩)) := by
  obtain ⟨A, cap, rfl⟩ := own_slice h
  obtain ⟨r, rfl, hc⟩ := own_cell h hu
  refine ⟨r, cap, bs[u], rfl, by simp [hu], ?_⟩
  rw [hc]; simp [hu]
theorem info_ptr : (Try.prog.info? 45).map (fun i => (i.zero, i.size, i.bytes)) = some (some (.pointer none), 1, 8) := by kernel_rfl
theorem info_ptrs : ∃ i9, Try.prog.info? 45 = some i9 ∧ i9.zero = some (.pointer none) ∧ i9.size = 1 ∧ i9.bytes = 8 := by
  have h := info_ptr
  cases hi : Try.prog.info? 45 with
  | none => rw [hi] at h; simp at h
  | some i =>
    rw [hi] at h
    simp at h
    exact ⟨i, rfl, h.1, h.2.1, h.2.2⟩
theorem wpList_ptr {ops : Array Oper} {rest : List Oper} {o : Oper} {a : Act} {Q : Exit → Act → World → Prop} (hgd : o.guard = none) (s x : Operand)
    (ho : o.op = .call { callee := .builtin .append, args := #[s, x], argTypes := #[69, 69] }) (hs : a.eval s = v) (hx : a.eval x = .slice (some ⟨w.heap.size, 0, none⟩) 1 1) (J : Ptrs w v bs) (hl : bs.length ≤ 100)
    (h : ∀ r cap w', Ptrs w' (.slice (some ⟨r, 0, none⟩) (bs.length + 1) cap) (bs ++ [b]) → (w.alloc (.cells #[.pointer (some ⟨b, 0, none⟩)] 45)).grownBy w' v.ownBlock → (v.ownBlock = some r ∨ r = w.heap.size + 1) → wpList Try.prog ops Q rest (a.put o.dst (.slice (some ⟨r, 0, none⟩) (bs.length + 1) cap)) w') :
    wpList Try.prog ops Q (o :: rest) a (w.alloc (.cells #[.pointer (some ⟨b, 0, none⟩)] 45)) := by
  obtain ⟨i9, hi, hz0, hz1, hz2⟩ := info_ptrs
  refine wpList_append_lies _ hgd s x 69 ho 0 45 i9 (.pointer none) 1 8 Try.underlying69 hi hz0 hz1 hz2 rfl (by decide) v bs.length (bs.map fun b => .pointer (some ⟨b, 0, none⟩)) hs (J.up (Up.alloc _ _)) ⟨w.heap.size, 0, none⟩ 1 1 [.pointer (some ⟨b, 0, none⟩)] hx (by simp) (one_new w _ _) (by simp [Value.oneCell']) (by decide) (by unfold maxLen; omega) (by omega) (Nat.zero_le _) (w.heap.size + 1) (by simp) ?_
  intro r cap w' h2 h3 h4 _
  refine h r cap w' ⟨?_, ?_⟩ h3 h4
  · simp
  · have := h2.2
    simpa using this
end
/-! ### All of them -/
/-- The machines bs in the slice v, their states m; x: the epoch. -/
structure Win (W w : World) (p g q : Nat) (v : Value) (bs : List Nat) (m : Nat → Ad) (x : Int) : Prop where
  sit : Sit W w p g q 3 [x, 0, 0, 0] (sumA (fun i => ((m i).i : Int)) bs.length)
  row : Ptrs w v bs
  own : ∀ k, v.ownBlock = some k → W.heap.size ≤ k ∧ k ≠ p ∧ k ≠ g ∧ k ≠ q ∧ k ∉ bs
  mach : ∀ (i b : Nat), bs[i]? = some b → AdM w b q 3 (m i) ∧ W.heap.size ≤ b ∧ Off b p g q
  dist : ∀ (i j b : Nat), bs[i]? = some b → bs[j]? = some b → i = j
  x01 : x = 0 ∨ x = 1
  st : ∀ i, i < bs.length → (m i).old = 0 ∧ 1 ≤ (m i).i ∧ (m i).i ≤ 5 ∧ ((m i).fin = true ↔ (m i).i = 5) ∧ ((m i).won = true → (m i).fin = true)
  wn : sumA (fun i => wonN (m i)) bs.length = x
  dn : ∀ i, i < bs.length → (m i).fin = true → x = 1
  few : bs.length ≤ 5
/-- What a Step of machine u leaves. -/
def WinOut (W : World) (p g q : Nat) (v : Value) (bs : List Nat) (m : Nat → Ad) (u : Nat) (w' : World) : Prop :=
  ∃ a' x', Win W w' p g q v bs (updA m u a') x' ∧ (a'.i = 5 ∨ (m u).i < a'.i)
section
variable {W w w' : World} {p g q b u : Nat} {v : Value} {bs : List Nat} {m : Nat → Ad} {x : Int}
theorem lt_of_get {α : Type} {l : List α} {i : Nat} {a : α} (h : l[i]? = some a) : i < l.length := by
  rcases Nat.lt_or_ge i l.length with h1 | h1
  · exact h1
  · rw [List.getElem?_eq_none h1] at h; cases h
theorem Win.sums (X : Win W w p g q v bs m x) : 0 ≤ sumA (fun i => ((m i).i : Int)) bs.length ∧ sumA (fun i => ((m i).i : Int)) bs.length ≤ 5 * bs.length := by
  have key : ∀ k, k ≤ bs.length → 0 ≤ sumA (fun i => ((m i).i : Int)) k ∧ sumA (fun i => ((m i).i : Int)) k ≤ 5 * k := by
    intro k
    induction k with
    | zero => intro _; simp [sumA]
    | succ k ih =>
      intro hk
      have h1 := ih (by omega)
      have h2 := (X.st k (by omega)).2.2.1
      show 0 ≤ sumA (fun i => ((m i).i : Int)) k + ((m k).i : Int) ∧ sumA (fun i => ((m i).i : Int)) k + ((m k).i : Int) ≤ 5 * ((k + 1 : Nat) : Int)
      omega
  exact key _ (Nat.le_refl _)
/-- One of them has gone on. -/
theorem Win.turn (X : Win W w p g q v bs m x) (hb : bs[u]? = some b) {a' : Ad} {x' : Int} (G : Went W w p g q 3 b [x', 0, 0, 0] (sumA (fun i => ((m i).i : Int)) bs.length + 1) (fun w' => AdM w' b q 3 a') w')
    (h1 : a'.old = 0) (h2 : a'.i = (m u).i + 1) (h3 : a'.i ≤ 5) (h4 : a'.fin = true ↔ a'.i = 5) (h5 : a'.won = true → a'.fin = true) (h6 : x' = 0 ∨ x' = 1) (h7 : wonN a' = wonN (m u) + (x' - x)) (h8 : a'.fin = true → x' = 1) (h9 : x ≤ x') :
    Win W w' p g q v bs (updA m u a') x' := by
  have hu := lt_of_get hb
  have hx01 := X.x01
  have e1 : sumA (fun i => ((updA m u a' i).i : Int)) bs.length = sumA (fun i => ((m i).i : Int)) bs.length + 1 := by
    rw [sumA_more (f := fun i => ((m i).i : Int)) (u := u) (fun i hi => by simp only [updA_ne _ _ hi]) _ hu]
    simp only [updA_same]; omega
  have e2 : sumA (fun i => wonN (updA m u a' i)) bs.length = x' := by
    rw [sumA_more (f := fun i => wonN (m i)) (u := u) (fun i hi => by simp only [updA_ne _ _ hi]) _ hu, X.wn]
    simp only [updA_same]; omega
  refine ⟨by rw [e1]; exact G.sit, X.row.else G.rest ?_, X.own, ?_, X.dist, h6, ?_, e2, ?_, X.few⟩
  · intro k hk hm
    obtain ⟨_, k2, k3, _, k5⟩ := X.own k hk
    simp at hm
    rcases hm with rfl | rfl | rfl
    · exact k5 (List.mem_of_getElem? hb)
    · exact k2 rfl
    · exact k3 rfl
  · intro i c hc
    obtain ⟨P, k1, O⟩ := X.mach i c hc
    by_cases e : i = u
    · subst e
      rw [hb] at hc
      injection hc with hc
      subst hc
      rw [updA_same]
      exact ⟨G.mach, k1, O⟩
    · rw [updA_ne _ _ e]
      refine ⟨P.else G.rest (not_three (fun e' => e (X.dist i u c hc (by rw [hb, e']))) O.bp O.bg), k1, O⟩
  · intro i hi
    by_cases e : i = u
    · subst e; rw [updA_same]
      have := (X.st i hi).2.1
      exact ⟨h1, by omega, h3, h4, h5⟩
    · rw [updA_ne _ _ e]; exact X.st i hi
  · intro i hi hf
    by_cases e : i = u
    · subst e; rw [updA_same] at hf; exact h8 hf
    · rw [updA_ne _ _ e] at hf
      have := X.dn i hi hf
      omega
theorem pinO_cell (x : Int) (i : Nat) (h1 : 1 ≤ i) : pinO (([x, 0, 0, 0] : List Int).getD (1 + (i - 1)) 0) = false := by
  obtain ⟨k, rfl⟩ : ∃ k, i = k + 1 := ⟨i - 1, by omega⟩
  rw [show 1 + (k + 1 - 1) = k + 1 by omega]
  rcases (show k = 0 ∨ k = 1 ∨ k = 2 ∨ 3 ≤ k by omega) with rfl | rfl | rfl | h
  · exact pinO_zero
  · exact pinO_zero
  · exact pinO_zero
  · have : ([x, 0, 0, 0] : List Int).getD (k + 1) 0 = 0 := by
      unfold List.getD
      rw [List.getElem?_eq_none (by simp; omega)]; rfl
    rw [this]; exact pinO_zero
theorem win_step (X : Win W w p g q v bs m x) (hb : bs[u]? = some b) :
    Calls Try.prog 23 #[.pointer (some ⟨b, 0, none⟩)] w fun r w' => ∃ d, r = .returned (.bool d) ∧ WinOut W p g q v bs m u w' := by
  have hu := lt_of_get hb
  obtain ⟨P, k1, O⟩ := X.mach u b hb
  obtain ⟨s1, s2, s3, s4, s5⟩ := X.st u hu
  have hf5 := X.few
  obtain ⟨c0, c1⟩ := X.sums
  have hw : wrap64 (sumA (fun i => ((m i).i : Int)) bs.length + 1) = sumA (fun i => ((m i).i : Int)) bs.length + 1 := wrap64_in (by omega) (by omega)
  cases hfin : (m u).fin
  · have hi : (m u).i ≠ 5 := fun h => by rw [s4.2 h] at hfin; cases hfin
    have hwn : (m u).won = false := by
      cases hh : (m u).won
      · rfl
      · rw [s5 hh] at hfin; cases hfin
    by_cases h3 : (m u).i ≤ 3
    · have e1 : (m u).xs 0 3 [x, 0, 0, 0] = [x, 0, 0, 0] := by unfold Ad.xs; rw [if_neg (by omega)]
      have e2 : (m u).go 0 1 3 [x, 0, 0, 0] = ⟨(m u).i + 1, 0, false, false⟩ := by
        unfold Ad.go Ad.bar
        rw [if_neg (by omega), if_pos h3, pinO_cell x _ s2, s1, hwn]
        rfl
      refine (adStep_to X.sit O k1 P hfin e1 e2 hw).mono ?_
      rintro r w' ⟨rfl, G⟩
      refine ⟨true, rfl, _, x, X.turn hb G rfl rfl (by dsimp only; omega) (by dsimp only; constructor; intro h; cases h; intro h; omega) (by simp) X.x01 ?_ (by simp) (by omega), .inr (by dsimp only; omega)⟩
      unfold wonN; rw [hwn]; dsimp only; omega
    · have h4 : (m u).i = 4 := by omega
      rcases X.x01 with rfl | rfl
      · have e1 : (m u).xs 0 3 [0, 0, 0, 0] = [1, 0, 0, 0] := by
          unfold Ad.xs; rw [if_pos ⟨by omega, by rw [s1]; rfl⟩, s1, upN_small (by omega) (by omega)]; rfl
        have e2 : (m u).go 0 1 3 [0, 0, 0, 0] = ⟨(m u).i + 1, 0, true, true⟩ := by
          unfold Ad.go
          rw [if_neg (by omega), if_neg (by omega), s1]
          rfl
        refine (adStep_to X.sit O k1 P hfin e1 e2 hw).mono ?_
        rintro r w' ⟨rfl, G⟩
        refine ⟨true, rfl, _, 1, X.turn hb G rfl rfl (by dsimp only; omega) (by dsimp only; constructor; intro _; omega; intro _; rfl) (fun _ => rfl) (.inr rfl) ?_ (fun _ => rfl) (by omega), .inl (by dsimp only; omega)⟩
        unfold wonN; rw [hwn]; rfl
      · have e1 : (m u).xs 0 3 [1, 0, 0, 0] = [1, 0, 0, 0] := by
          unfold Ad.xs; rw [if_neg (by rw [s1]; simp)]
        have e2 : (m u).go 0 1 3 [1, 0, 0, 0] = ⟨(m u).i + 1, 0, false, true⟩ := by
          unfold Ad.go
          rw [if_neg (by omega), if_neg (by omega), s1]
          rfl
        refine (adStep_to X.sit O k1 P hfin e1 e2 hw).mono ?_
        rintro r w' ⟨rfl, G⟩
        refine ⟨true, rfl, _, 1, X.turn hb G rfl rfl (by dsimp only; omega) (by dsimp only; constructor; intro _; omega; intro _; rfl) (by simp) (.inr rfl) ?_ (fun _ => rfl) (by omega), .inl (by dsimp only; omega)⟩
        unfold wonN; rw [hwn]; rfl
  · refine (adStep_no P hfin).mono ?_
    rintro r w' ⟨rfl, rfl⟩
    refine ⟨false, rfl, m u, x, ?_, .inl (s4.1 hfin)⟩
    rw [updA_id]; exact X
end
end Go.Proofs.Ytngaokhlcdlpfaa
