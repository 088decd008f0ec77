/-
  Four who share a stack: what each of them holds in memory (HM: the machine; HD: all four, each with blocks of his own); four cells of an array as a function.
-/
import Derived.Test.YtalhbebpoohgkaaStepAny
namespace Go.Proofs.Ytalhbebpoohgkaa
open Go.RowKit
set_option maxRecDepth 100000

/-- An array's four cells. -/
def arr4 (f : Nat → Value) : Array Value := #[f 0, f 1, f 2, f 3]
theorem arr4_get {f : Nat → Value} {u : Nat} (h : u < 4) : (arr4 f)[u]? = some (f u) := by
  rcases (show u = 0 ∨ u = 1 ∨ u = 2 ∨ u = 3 by omega) with rfl | rfl | rfl | rfl <;> rfl
theorem arr4_set (f : Nat → Value) {u : Nat} (h : u < 4) (x : Value) : (arr4 f).setIfInBounds u x = arr4 (Stk.upd f u x) := by
  rcases (show u = 0 ∨ u = 1 ∨ u = 2 ∨ u = 3 by omega) with rfl | rfl | rfl | rfl <;> rfl
/-- What one's machine is in memory; the blocks that are its own. -/
inductive HM (w : World) (q : Nat) : Stk.Mach → Value → Value → List Nat → Prop
  | idle : HM w q .idle (.pointer none) (.pointer none) []
  | push {b r k cap : Nat} {l : List Nat} {i : Nat} {old : Int} (P : PushM w b q (.slice (some ⟨r, 0, none⟩) k cap) l i old) : HM w q (.push l i old) (.pointer (some ⟨b, 0, none⟩)) (.pointer none) [b, r]
  | pop {b : Nat} {v : Value} {l : List Nat} {most i : Nat} {deep old : Int} (P : PopM w b q v l most i deep old) : HM w q (.pop most i deep old (if i = 0 then [] else l)) (.pointer none) (.pointer (some ⟨b, 0, none⟩)) (b :: v.ownBlock.toList)
theorem HM.else {w w' : World} {q : Nat} {M : Stk.Mach} {a c : Value} {o x : List Nat} (h : HM w q M a c o) (u : Else x w w') (hx : ∀ k ∈ o, k ∉ x) : HM w' q M a c o := by
  cases h with
  | idle => exact .idle
  | push P => exact .push (P.else u (hx _ (by simp)) (fun k hk e => hx k (by simp [Value.ownBlock] at e; simp [e]) hk))
  | pop P => exact .pop (P.else u (hx _ (by simp)) (fun k hk e => hx k (by simp [e]) hk))
/-- One's blocks: the machine's, and those of two lists. -/
def ob (o : List Nat) (h k : Value) : List Nat := o ++ (h.ownBlock.toList ++ k.ownBlock.toList)
/-- All four. -/
structure HD (wB w : World) (p g q n t : Nat) (S : List Nat) (m : Nat → Stk.Mach) (has : Nat → List Nat) (vP vO vH vQ : Nat → Value) (oM : Nat → List Nat) : Prop where
  sys : ∃ s, Sys w p g q n s t S m has
  hm : ∀ u, u < 4 → HM w q (m u) (vP u) (vO u) (oM u)
  ih : ∀ u, u < 4 → Ints w (vH u) (I (has u))
  iq : ∀ u, u < 4 → Ints w (vQ u) (I (Stk.puts (m u)))
  lo : ∀ u, u < 4 → ∀ k ∈ ob (oM u) (vH u) (vQ u), wB.heap.size ≤ k ∧ k < w.heap.size
  nd : ∀ u, u < 4 → (ob (oM u) (vH u) (vQ u)).Nodup
  dj : ∀ u v, u < 4 → v < 4 → u ≠ v → ∀ k ∈ ob (oM u) (vH u) (vQ u), k ∉ ob (oM v) (vH v) (vQ v)
  base : p < wB.heap.size ∧ g < wB.heap.size ∧ q < wB.heap.size
section
variable {wB w w' : World} {p g q n t t' : Nat} {S S' : List Nat} {m : Nat → Stk.Mach} {has : Nat → List Nat} {vP vO vH vQ : Nat → Value} {oM : Nat → List Nat}
theorem away_in {v : Value} {x : List Nat} (h : ∀ k ∈ v.ownBlock.toList, k ∉ x) : Away v x := fun k hk e => h k (by simp [e]) hk
/-- Elder blocks that are nobody's. -/
theorem HD.else (D : HD wB w p g q n t S m has vP vO vH vQ oM) {x : List Nat} (u : Else x w w') (hx : ∀ k ∈ x, k < wB.heap.size) (hs : p ∉ x ∧ g ∉ x ∧ q ∉ x) : HD wB w' p g q n t S m has vP vO vH vQ oM := by
  have key : ∀ i, i < 4 → ∀ k ∈ ob (oM i) (vH i) (vQ i), k ∉ x := fun i hi k hk hkx => by
    have := (D.lo i hi k hk).1; have := hx k hkx; omega
  obtain ⟨s, Y⟩ := D.sys
  refine ⟨⟨s, ⟨Y.env.else u hs.1 hs.2.1 hs.2.2, Y.len, Y.gi⟩⟩, fun i hi => (D.hm i hi).else u (fun k hk => key i hi k (by simp [ob, hk])), fun i hi => (D.ih i hi).else u (away_in fun k hk => key i hi k (by simp only [ob, List.mem_append]; exact .inr (.inl hk))),
    fun i hi => (D.iq i hi).else u (away_in fun k hk => key i hi k (by simp only [ob, List.mem_append]; exact .inr (.inr hk))), fun i hi k hk => ⟨(D.lo i hi k hk).1, Nat.lt_of_lt_of_le (D.lo i hi k hk).2 u.size⟩, D.nd, D.dj, D.base⟩
theorem HD.up (D : HD wB w p g q n t S m has vP vO vH vQ oM) (u : Up w w') : HD wB w' p g q n t S m has vP vO vH vQ oM := D.else (x := []) (Else.of_up u) (by simp) (by simp)
/-- One of them has gone on. -/
theorem HD.turn (D : HD wB w p g q n t S m has vP vO vH vQ oM) {u : Nat} (hu : u < 4) {x : List Nat} (E : Else x w w') (hx : ∀ k ∈ x, k ∈ ob (oM u) (vH u) (vQ u) ∨ k < wB.heap.size) {M' : Stk.Mach} {h' : List Nat} {a c h k : Value} {o : List Nat}
    (Y : ∃ s, Sys w' p g q n s t' S' (Stk.upd m u M') (Stk.upd has u h')) (hm' : HM w' q M' a c o) (ih' : Ints w' h (I h')) (iq' : Ints w' k (I (Stk.puts M')))
    (hnew : ∀ j ∈ ob o h k, (j ∈ ob (oM u) (vH u) (vQ u) ∨ w.heap.size ≤ j) ∧ j < w'.heap.size) (nd' : (ob o h k).Nodup) (hb : wB.heap.size ≤ w.heap.size) :
    HD wB w' p g q n t' S' (Stk.upd m u M') (Stk.upd has u h') (Stk.upd vP u a) (Stk.upd vO u c) (Stk.upd vH u h) (Stk.upd vQ u k) (Stk.upd oM u o) := by
  have key : ∀ i, i < 4 → i ≠ u → ∀ k ∈ ob (oM i) (vH i) (vQ i), k ∉ x := fun i hi hne k hk hkx => by
    rcases hx k hkx with h | h
    · exact D.dj i u hi hu hne k hk h
    · have := (D.lo i hi k hk).1; omega
  have fr : ∀ i, i < 4 → i ≠ u → ∀ j ∈ ob o h k, j ∉ ob (oM i) (vH i) (vQ i) := fun i hi hne j hj hji => by
    rcases (hnew j hj).1 with h | h
    · exact D.dj u i hu hi (Ne.symm hne) j h hji
    · have := (D.lo i hi j hji).2; omega
  refine ⟨Y, fun i hi => ?_, fun i hi => ?_, fun i hi => ?_, fun i hi => ?_, fun i hi => ?_, fun i j hi hj hne => ?_, D.base⟩
  · by_cases e : i = u
    · subst e; simp only [Stk.upd_same]; exact hm'
    · simp only [Stk.upd_ne _ _ e]; exact (D.hm i hi).else E (fun k hk => key i hi e k (by simp [ob, hk]))
  · by_cases e : i = u
    · subst e; simp only [Stk.upd_same]; exact ih'
    · simp only [Stk.upd_ne _ _ e]; exact (D.ih i hi).else E (away_in fun k hk => key i hi e k (by simp only [ob, List.mem_append]; exact .inr (.inl hk)))
  · by_cases e : i = u
    · subst e; simp only [Stk.upd_same]; exact iq'
    · simp only [Stk.upd_ne _ _ e]; exact (D.iq i hi).else E (away_in fun k hk => key i hi e k (by simp only [ob, List.mem_append]; exact .inr (.inr hk)))
  · by_cases e : i = u
    · subst e; simp only [Stk.upd_same]
      intro j hj
      refine ⟨?_, (hnew j hj).2⟩
      rcases (hnew j hj).1 with h | h
      · exact (D.lo i hi j h).1
      · omega
    · simp only [Stk.upd_ne _ _ e]; exact fun j hj => ⟨(D.lo i hi j hj).1, Nat.lt_of_lt_of_le (D.lo i hi j hj).2 E.size⟩
  · by_cases e : i = u
    · subst e; simp only [Stk.upd_same]; exact nd'
    · simp only [Stk.upd_ne _ _ e]; exact D.nd i hi
  · by_cases e : i = u
    · subst e
      have e2 : j ≠ i := Ne.symm hne
      simp only [Stk.upd_same, Stk.upd_ne _ _ e2]; exact fr j hj e2
    · by_cases e2 : j = u
      · subst e2; simp only [Stk.upd_same, Stk.upd_ne _ _ e]; exact fun k hk hk2 => fr i hi e k hk2 hk
      · simp only [Stk.upd_ne _ _ e, Stk.upd_ne _ _ e2]; exact D.dj i j hi hj hne
/-- The arrays in which they stand. -/
structure AR (w : World) (b1 b2 b3 b4 : Nat) (vP vO vH vQ : Nat → Value) : Prop where
  aP : Whole w b1 36 (arr4 vP)
  aO : Whole w b2 38 (arr4 vO)
  aH : Whole w b3 43 (arr4 vH)
  aQ : Whole w b4 43 (arr4 vQ)
  ne : b1 < b2 ∧ b2 < b3 ∧ b3 < b4
variable {b1 b2 b3 b4 : Nat}
theorem AR.else (A : AR w b1 b2 b3 b4 vP vO vH vQ) {x : List Nat} (u : Else x w w') (h1 : b1 ∉ x) (h2 : b2 ∉ x) (h3 : b3 ∉ x) (h4 : b4 ∉ x) : AR w' b1 b2 b3 b4 vP vO vH vQ :=
  ⟨u.whole A.aP h1, u.whole A.aO h2, u.whole A.aH h3, u.whole A.aQ h4, A.ne⟩
theorem AR.up (A : AR w b1 b2 b3 b4 vP vO vH vQ) (u : Up w w') : AR w' b1 b2 b3 b4 vP vO vH vQ := A.else (x := []) (Else.of_up u) (by simp) (by simp) (by simp) (by simp)
theorem AR.setP (A : AR w b1 b2 b3 b4 vP vO vH vQ) {u : Nat} (hu : u < 4) (x : Value) : AR (w.setCell ⟨b1, u, none⟩ x) b1 b2 b3 b4 (Stk.upd vP u x) vO vH vQ := by
  have ne := A.ne
  exact ⟨arr4_set vP hu x ▸ A.aP.set u x, A.aO.far (by dsimp; omega) x, A.aH.far (by dsimp; omega) x, A.aQ.far (by dsimp; omega) x, ne⟩
theorem AR.setO (A : AR w b1 b2 b3 b4 vP vO vH vQ) {u : Nat} (hu : u < 4) (x : Value) : AR (w.setCell ⟨b2, u, none⟩ x) b1 b2 b3 b4 vP (Stk.upd vO u x) vH vQ := by
  have ne := A.ne
  exact ⟨A.aP.far (by dsimp; omega) x, arr4_set vO hu x ▸ A.aO.set u x, A.aH.far (by dsimp; omega) x, A.aQ.far (by dsimp; omega) x, ne⟩
theorem AR.setH (A : AR w b1 b2 b3 b4 vP vO vH vQ) {u : Nat} (hu : u < 4) (x : Value) : AR (w.setCell ⟨b3, u, none⟩ x) b1 b2 b3 b4 vP vO (Stk.upd vH u x) vQ := by
  have ne := A.ne
  exact ⟨A.aP.far (by dsimp; omega) x, A.aO.far (by dsimp; omega) x, arr4_set vH hu x ▸ A.aH.set u x, A.aQ.far (by dsimp; omega) x, ne⟩
theorem AR.setQ (A : AR w b1 b2 b3 b4 vP vO vH vQ) {u : Nat} (hu : u < 4) (x : Value) : AR (w.setCell ⟨b4, u, none⟩ x) b1 b2 b3 b4 vP vO vH (Stk.upd vQ u x) := by
  have ne := A.ne
  exact ⟨A.aP.far (by dsimp; omega) x, A.aO.far (by dsimp; omega) x, A.aH.far (by dsimp; omega) x, arr4_set vQ hu x ▸ A.aQ.set u x, ne⟩
theorem AR.cells (A : AR w b1 b2 b3 b4 vP vO vH vQ) {u : Nat} (hu : u < 4) : w.cell? ⟨b1, u, none⟩ = some (vP u) ∧ w.cell? ⟨b2, u, none⟩ = some (vO u) ∧ w.cell? ⟨b3, u, none⟩ = some (vH u) ∧ w.cell? ⟨b4, u, none⟩ = some (vQ u) :=
  ⟨A.aP.cell (arr4_get hu), A.aO.cell (arr4_get hu), A.aH.cell (arr4_get hu), A.aQ.cell (arr4_get hu)⟩
end
end Go.Proofs.Ytalhbebpoohgkaa
