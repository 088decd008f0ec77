/-
  EpochWins: one machine more; what holds at each loop.
-/
import Derived.Test.YtngaokhlcdlpfaaEpWin
namespace Go.Proofs.Ytngaokhlcdlpfaa
open Go.RowKit
open W64
set_option maxRecDepth 100000
def ad1 : Ad := ⟨1, 0, false, false⟩
section
variable {W w w2 w3 w' : World} {p g q b r cap : Nat} {v : Value} {bs : List Nat}
theorem Win.nil (S : Sit W w p g q 3 [0, 0, 0, 0] 0) : Win W w p g q (.slice none 0 0) [] (fun _ => ad1) 0 :=
  ⟨S, Ptrs.nil _, fun k hk => by simp [Value.ownBlock] at hk, fun i b h => by simp at h, fun i j b h => by simp at h, .inl rfl, fun i hi => absurd hi (Nat.not_lt_zero _), rfl, fun i hi => absurd hi (Nat.not_lt_zero _), by simp⟩
theorem Win.count (X : Win W w p g q v bs (fun _ => ad1) 0) : Sit W w p g q 3 [0, 0, 0, 0] bs.length := by
  have h := X.sit
  rw [sumA_const (fun _ => ((ad1.i : Nat) : Int)) 1 (fun _ _ => rfl), Int.one_mul] at h
  exact h
theorem Win.row3 (X : Win W w p g q v bs (fun _ => ad1) 0) (U2 : Up w w2) (hb : w.heap.size ≤ b) {xs : List Int} {c : Int} {M : World → Prop} (G : Went W w2 p g q 3 b xs c M w3) : Ptrs w3 v bs := by
  refine (X.row.up U2).else G.rest ?_
  intro k hk hm
  obtain ⟨_, k2, k3, _, _⟩ := X.own k hk
  have := X.row.lt hk
  simp at hm
  rcases hm with rfl | rfl | rfl
  · omega
  · exact k2 rfl
  · exact k3 rfl
theorem Win.push (X : Win W w p g q v bs (fun _ => ad1) 0) (hf : bs.length ≤ 4) (U2 : Up w w2) (hb : w.heap.size ≤ b) (hb2 : b < w2.heap.size) (O : Off b p g q) {c : Int} (hc : c = (bs.length : Int) + 1) (G : Went W w2 p g q 3 b [0, 0, 0, 0] c (fun w' => AdM w' b q 3 ad1) w3)
    (J : Ptrs w' (.slice (some ⟨r, 0, none⟩) (bs.length + 1) cap) (bs ++ [b])) (gr : (w3.alloc (.cells #[.pointer (some ⟨b, 0, none⟩)] 45)).grownBy w' v.ownBlock) (hr : v.ownBlock = some r ∨ r = w3.heap.size + 1) :
    Win W w' p g q (.slice (some ⟨r, 0, none⟩) (bs.length + 1) cap) (bs ++ [b]) (fun _ => ad1) 0 := by
  have ST := G.sit.lt
  have w23 := G.rest.size
  have w12 := U2.size
  have hWw := X.sit.up.size
  have own3 : ∀ k, v.ownBlock = some k → k < w.heap.size ∧ k ≠ p ∧ k ≠ g ∧ k ≠ q ∧ k ∉ bs ∧ W.heap.size ≤ k := fun k hk => by
    obtain ⟨k1, k2, k3, k4, k5⟩ := X.own k hk
    exact ⟨X.row.lt hk, k2, k3, k4, k5, k1⟩
  have EG : Else v.ownBlock.toList w3 w' := (Else.of_up (Up.alloc _ _)).trans (Else.of_grow gr)
  have mem : ∀ k, k ∈ v.ownBlock.toList → v.ownBlock = some k := fun k hk => by
    cases h : v.ownBlock with
    | none => rw [h] at hk; simp at hk
    | some x => rw [h] at hk; simp at hk; rw [hk]
  have lens : ∀ i c, bs[i]? = some c → c < w.heap.size := fun i c h => (X.mach i c h).1.row.lt
  have nb : b ∉ bs := fun h => by
    obtain ⟨i, hi⟩ := List.getElem?_of_mem h
    have := lens i b hi
    omega
  refine ⟨?_, J, ?_, ?_, ?_, .inl rfl, ?_, ?_, ?_, by simp; omega⟩
  · rw [sumA_const (fun _ => ((ad1.i : Nat) : Int)) 1 (fun _ _ => rfl), Int.one_mul]
    have S := G.sit.else EG (fun k hk => (own3 k (mem k hk)).2.2.2.2.2) ⟨fun h => (own3 p (mem p h)).2.1 rfl, fun h => (own3 g (mem g h)).2.2.1 rfl, fun h => (own3 q (mem q h)).2.2.2.1 rfl⟩
    rw [hc] at S
    rw [List.length_append]
    exact S
  · intro k hk
    have hk' : r = k := by simpa [Value.ownBlock] using hk
    subst hk'
    rcases hr with h | h
    · obtain ⟨k1, k2, k3, k4, k5, k6⟩ := own3 r h
      exact ⟨k6, k2, k3, k4, by simp; exact ⟨k5, by omega⟩⟩
    · have hbs : r ∉ bs := fun h' => by
        obtain ⟨i, hi⟩ := List.getElem?_of_mem h'
        have := lens i r hi
        omega
      exact ⟨by omega, by omega, by omega, by omega, by simp; exact ⟨hbs, by omega⟩⟩
  · intro i c' hi
    rcases Nat.lt_or_ge i bs.length with h | h
    · rw [List.getElem?_append_left h] at hi
      obtain ⟨P, k1, O'⟩ := X.mach i c' hi
      have := lens i c' hi
      refine ⟨((P.up U2).else G.rest (not_three (by omega) O'.bp O'.bg)).else EG (fun hm => ?_), k1, O'⟩
      exact (own3 c' (mem c' hm)).2.2.2.2.1 (List.mem_of_getElem? hi)
    · rw [List.getElem?_append_right h] at hi
      have e : i - bs.length = 0 := by
        have := lt_of_get hi
        simp at this; omega
      rw [e] at hi
      simp at hi
      subst hi
      refine ⟨G.mach.else EG (fun hm => ?_), by omega, O⟩
      have := (own3 b (mem b hm)).1
      omega
  · intro i j c' hi hj
    have key : ∀ i, (bs ++ [b])[i]? = some c' → (bs[i]? = some c' ∧ i < bs.length) ∨ (i = bs.length ∧ c' = b) := by
      intro i hi
      rcases Nat.lt_or_ge i bs.length with h | h
      · rw [List.getElem?_append_left h] at hi; exact .inl ⟨hi, h⟩
      · rw [List.getElem?_append_right h] at hi
        have e : i - bs.length = 0 := by
          have := lt_of_get hi
          simp at this; omega
        rw [e] at hi
        simp at hi
        exact .inr ⟨by omega, hi.symm⟩
    rcases key i hi with ⟨h1, _⟩ | ⟨h1, h2⟩
    · rcases key j hj with ⟨h3, _⟩ | ⟨_, h4⟩
      · exact X.dist i j c' h1 h3
      · subst h4; exact absurd (List.mem_of_getElem? h1) nb
    · rcases key j hj with ⟨h3, _⟩ | ⟨h3, _⟩
      · subst h2; exact absurd (List.mem_of_getElem? h3) nb
      · omega
  · intro i _; simp [ad1]
  · rw [sumA_const (fun _ => wonN ad1) 0 (fun _ _ => rfl)]; simp
  · intro i _ h; simp [ad1] at h
end
theorem wa_1 : Ad.go 0 1 3 [0, 0, 0, 0] ⟨0, 0, false, false⟩ = ad1 := by simp [Ad.go, ad1]
theorem wx_1 : Ad.xs 0 3 [0, 0, 0, 0] ⟨0, 0, false, false⟩ = [0, 0, 0, 0] := by decide
/-- The loops of EpochWins. -/
def WinA (W : World) (p g q k : Nat) (v i : Value) (wr : World) : Prop := ∃ bs : List Nat, i = .int .i64 bs.length ∧ bs.length ≤ k ∧ Win W wr p g q v bs (fun _ => ad1) 0
def WinB (W : World) (p g q : Nat) (v : Value) (bs : List Nat) (len : Nat) (i : Value) (wr : World) : Prop := ∃ (j : Nat) (m : Nat → Ad) (x : Int), i = .int .i64 j ∧ j ≤ len ∧ Win W wr p g q v bs m x
def WinC (W : World) (p g q : Nat) (v : Value) (bs : List Nat) (wn i : Value) (wr : World) : Prop :=
  ∃ (j : Nat) (m : Nat → Ad) (x : Int), i = .int .i64 j ∧ j ≤ bs.length ∧ wn = .int .i64 (sumA (fun i => wonN (m i)) j) ∧ (∀ i, i < j → (m i).i = 5) ∧ Win W wr p g q v bs m x
def WinD (W : World) (p g q : Nat) (v : Value) (bs : List Nat) (j : Nat) (wn : Int) (s : Value) (wr : World) : Prop :=
  ∃ (t : Nat) (m : Nat → Ad) (x : Int), s = .int .i64 t ∧ t ≤ 6 ∧ sumA (fun i => wonN (m i)) j = wn ∧ (∀ i, i < j → (m i).i = 5) ∧ ((m j).i = 5 ∨ t < (m j).i) ∧ Win W wr p g q v bs m x
section
variable {W w : World} {p g q : Nat} {v : Value} {bs : List Nat} {m : Nat → Ad} {x : Int}
theorem win_d {j t : Nat} {wn : Int} (hj : j < bs.length) (h1 : sumA (fun i => wonN (m i)) j = wn) (h2 : ∀ i, i < j → (m i).i = 5) (h3 : (m j).i = 5 ∨ t < (m j).i) {w' : World} (O : WinOut W p g q v bs m j w') (ht : t < 6) :
    WinD W p g q v bs j wn (.int .i64 ((t + 1 : Nat) : Int)) w' := by
  obtain ⟨a', x', X', h⟩ := O
  refine ⟨t + 1, _, x', rfl, by omega, ?_, ?_, ?_, X'⟩
  · rw [← h1]; exact sumA_same fun i hi => by rw [updA_ne _ _ (by omega)]
  · intro i hi; rw [updA_ne _ _ (by omega)]; exact h2 i hi
  · have h5 := (X'.st j hj).2.2.1
    rw [updA_same] at h5 ⊢
    omega
theorem Win.mach_get (X : Win W w p g q v bs m x) {u : Nat} (hu : u < bs.length) : ∃ r cap b, v = .slice (some ⟨r, 0, none⟩) bs.length cap ∧ bs[u]? = some b ∧ w.cell? ⟨r, u, none⟩ = some (.pointer (some ⟨b, 0, none⟩)) := X.row.get hu
theorem Win.shape (X : Win W w p g q v bs m x) (h : 0 < bs.length) : ∃ r cap, v = .slice (some ⟨r, 0, none⟩) bs.length cap := by
  obtain ⟨r, cap, b, e, _⟩ := X.row.get h
  exact ⟨r, cap, e⟩
theorem Win.at_ {r cap : Nat} (X : Win W w p g q (.slice (some ⟨r, 0, none⟩) bs.length cap) bs m x) {u : Nat} (hu : u < bs.length) : ∃ b, bs[u]? = some b ∧ w.cell? ⟨r, u, none⟩ = some (.pointer (some ⟨b, 0, none⟩)) := by
  obtain ⟨r', cap', b, e, h1, h2⟩ := X.row.get hu
  injection e with e1
  injection e1 with e1
  injection e1 with e1
  subst e1
  exact ⟨b, h1, h2⟩
/-- All are done. -/
theorem Win.over (X : Win W w p g q v bs m x) (h : ∀ i, i < bs.length → (m i).i = 5) (h0 : 0 < bs.length) : x = 1 ∧ sumA (fun i => wonN (m i)) bs.length = 1 ∧ Sit W w p g q 3 [1, 0, 0, 0] (5 * (bs.length : Int)) := by
  have hx : x = 1 := X.dn 0 h0 ((X.st 0 h0).2.2.2.1.2 (h 0 h0))
  subst hx
  refine ⟨rfl, X.wn, ?_⟩
  have hs := X.sit
  rw [sumA_const _ 5 (fun i hi => by rw [h i hi]; rfl)] at hs
  exact hs
end
end Go.Proofs.Ytngaokhlcdlpfaa
