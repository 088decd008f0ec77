/-
  Four who share a stack, the program's machines and the reference's in step (HX); all four (XD); the struct hands as five arrays of four (arr20).
-/
import Derived.Test.YtalhbebpoohgkaaBoth
namespace Go.Proofs.Ytalhbebpoohgkaa
open Go.RowKit
set_option maxRecDepth 100000

/-- Five arrays of four. -/
def arr20 (a b c d e : Nat → Value) : Array Value := #[a 0, a 1, a 2, a 3, b 0, b 1, b 2, b 3, c 0, c 1, c 2, c 3, d 0, d 1, d 2, d 3, e 0, e 1, e 2, e 3]
section
variable {a b c d e : Nat → Value} {u : Nat}
theorem arr20_get (h : u < 4) : (arr20 a b c d e)[u]? = some (a u) ∧ (arr20 a b c d e)[4 + u]? = some (b u) ∧ (arr20 a b c d e)[8 + u]? = some (c u) ∧ (arr20 a b c d e)[12 + u]? = some (d u) ∧ (arr20 a b c d e)[16 + u]? = some (e u) := by
  rcases (show u = 0 ∨ u = 1 ∨ u = 2 ∨ u = 3 by omega) with rfl | rfl | rfl | rfl <;> exact ⟨rfl, rfl, rfl, rfl, rfl⟩
theorem arr20_set (h : u < 4) (x : Value) : (arr20 a b c d e).setIfInBounds u x = arr20 (Stk.upd a u x) b c d e ∧ (arr20 a b c d e).setIfInBounds (4 + u) x = arr20 a (Stk.upd b u x) c d e ∧ (arr20 a b c d e).setIfInBounds (8 + u) x = arr20 a b (Stk.upd c u x) d e ∧
    (arr20 a b c d e).setIfInBounds (12 + u) x = arr20 a b c (Stk.upd d u x) e ∧ (arr20 a b c d e).setIfInBounds (16 + u) x = arr20 a b c d (Stk.upd e u x) := by
  rcases (show u = 0 ∨ u = 1 ∨ u = 2 ∨ u = 3 by omega) with rfl | rfl | rfl | rfl <;> exact ⟨rfl, rfl, rfl, rfl, rfl⟩
end
/-- One's machine, the program's and the reference's in step; the blocks that are its own. -/
inductive HX (w : World) (q qr : Nat) : Stk.Mach → Value → Value → Value → Value → List Nat → Prop
  | idle {x y : Value} : HX w q qr .idle (.pointer none) (.pointer none) x y []
  | push {b r k cap rb : Nat} {rv y : Value} {l : List Nat} {i : Nat} {old : Int} (P : PushM w b q (.slice (some ⟨r, 0, none⟩) k cap) l i old) (R : RPushAt w rb qr rv l i old false) : HX w q qr (.push l i old) (.pointer (some ⟨b, 0, none⟩)) (.pointer none) (.pointer (some ⟨rb, 0, none⟩)) y (b :: r :: rb :: rv.ownBlock.toList)
  | pop {b rb : Nat} {v rv x : Value} {l : List Nat} {most i : Nat} {deep old : Int} (P : PopM w b q v l most i deep old) (R : RPopAt w rb qr rv l most i deep old false) : HX w q qr (.pop most i deep old (if i = 0 then [] else l)) (.pointer none) (.pointer (some ⟨b, 0, none⟩)) x (.pointer (some ⟨rb, 0, none⟩)) (b :: (v.ownBlock.toList ++ rb :: rv.ownBlock.toList))
theorem HX.else {w w' : World} {q qr : Nat} {M : Stk.Mach} {a c x y : Value} {o z : List Nat} (h : HX w q qr M a c x y o) (u : Else z w w') (hx : ∀ k ∈ o, k ∉ z) : HX w' q qr M a c x y o := by
  cases h with
  | idle => exact .idle
  | push P R => exact .push (P.else u (hx _ (by simp)) (fun k hk e => hx k (by simp [Value.ownBlock] at e; simp [e]) hk)) (R.else u (hx _ (by simp)) (fun k hk e => hx k (by simp [e]) hk))
  | pop P R => exact .pop (P.else u (hx _ (by simp)) (fun k hk e => hx k (by simp [e]) hk)) (R.else u (hx _ (by simp)) (fun k hk e => hx k (by simp [e]) hk))
theorem HX.ways {w : World} {q qr : Nat} {M : Stk.Mach} {a c x y : Value} {o : List Nat} (h : HX w q qr M a c x y o) : (M = .idle ∧ a = .pointer none ∧ c = .pointer none ∧ o = []) ∨
    (∃ b r k cap rb rv l i old, M = .push l i old ∧ a = .pointer (some ⟨b, 0, none⟩) ∧ c = .pointer none ∧ x = .pointer (some ⟨rb, 0, none⟩) ∧ o = b :: r :: rb :: Option.toList (Value.ownBlock rv) ∧ PushM w b q (.slice (some ⟨r, 0, none⟩) k cap) l i old ∧ RPushAt w rb qr rv l i old false) ∨
    (∃ b rb v rv l most i deep old, M = .pop most i deep old (if i = 0 then [] else l) ∧ a = .pointer none ∧ c = .pointer (some ⟨b, 0, none⟩) ∧ y = .pointer (some ⟨rb, 0, none⟩) ∧ o = b :: (Option.toList (Value.ownBlock v) ++ rb :: Option.toList (Value.ownBlock rv)) ∧ PopM w b q v l most i deep old ∧ RPopAt w rb qr rv l most i deep old false) := by
  cases h with
  | idle => exact .inl ⟨rfl, rfl, rfl, rfl⟩
  | push P R => exact .inr (.inl ⟨_, _, _, _, _, _, _, _, _, rfl, rfl, rfl, rfl, rfl, P, R⟩)
  | pop P R => exact .inr (.inr ⟨_, _, _, _, _, _, _, _, _, rfl, rfl, rfl, rfl, rfl, P, R⟩)
/-- One's blocks. -/
def ow (o : List Nat) (h : Value) : List Nat := o ++ h.ownBlock.toList
/-- All four, the two stacks in step. -/
structure XD (wB w : World) (p g q pr gr qr n t : Nat) (S : List Nat) (m : Nat → Stk.Mach) (has : Nat → List Nat) (vP vO vX vY vL : Nat → Value) (oM : Nat → List Nat) : Prop where
  sys : ∃ s, Sys w p g q n s t S m has ∧ REnv w pr gr qr 0 2 n s.xs s.c
  hm : ∀ u, u < 4 → HX w q qr (m u) (vP u) (vO u) (vX u) (vY u) (oM u)
  il : ∀ u, u < 4 → Ints w (vL u) (I (has u))
  lo : ∀ u, u < 4 → ∀ k ∈ ow (oM u) (vL u), wB.heap.size ≤ k ∧ k < w.heap.size
  nd : ∀ u, u < 4 → (ow (oM u) (vL u)).Nodup
  dj : ∀ u v, u < 4 → v < 4 → u ≠ v → ∀ k ∈ ow (oM u) (vL u), k ∉ ow (oM v) (vL v)
  base : p < wB.heap.size ∧ g < wB.heap.size ∧ q < wB.heap.size ∧ pr < wB.heap.size ∧ gr < wB.heap.size ∧ qr < wB.heap.size
section
variable {wB w w' : World} {p g q pr gr qr n t t' u : Nat} {S S' : List Nat} {m : Nat → Stk.Mach} {has : Nat → List Nat} {vP vO vX vY vL : Nat → Value} {oM : Nat → List Nat}
theorem XD.else (D : XD wB w p g q pr gr qr n t S m has vP vO vX vY vL oM) {x : List Nat} (E : Else x w w') (hx : ∀ k ∈ x, k < wB.heap.size) (hs : p ∉ x ∧ g ∉ x ∧ q ∉ x) (hr : pr ∉ x ∧ gr ∉ x ∧ qr ∉ x) : XD wB w' p g q pr gr qr n t S m has vP vO vX vY vL oM := by
  have key : ∀ i, i < 4 → ∀ k ∈ ow (oM i) (vL i), k ∉ x := fun i hi k hk hkx => by
    have := (D.lo i hi k hk).1; have := hx k hkx; omega
  obtain ⟨s, Y, R⟩ := D.sys
  refine ⟨⟨s, ⟨Y.env.else E hs.1 hs.2.1 hs.2.2, Y.len, Y.gi⟩, R.else E hr.1 hr.2.1 hr.2.2⟩, fun i hi => (D.hm i hi).else E (fun k hk => key i hi k (by simp [ow, hk])), fun i hi => (D.il i hi).else E (away_in fun k hk => key i hi k (by simp only [ow, List.mem_append]; exact .inr hk)),
    fun i hi k hk => ⟨(D.lo i hi k hk).1, Nat.lt_of_lt_of_le (D.lo i hi k hk).2 E.size⟩, D.nd, D.dj, D.base⟩
theorem XD.up (D : XD wB w p g q pr gr qr n t S m has vP vO vX vY vL oM) (E : Up w w') : XD wB w' p g q pr gr qr n t S m has vP vO vX vY vL oM := D.else (x := []) (Else.of_up E) (by simp) (by simp) (by simp)
/-- One of them has gone on. -/
theorem XD.turn (D : XD wB w p g q pr gr qr n t S m has vP vO vX vY vL oM) (hu : u < 4) {x : List Nat} (E : Else x w w') (hx : ∀ k ∈ x, k ∈ ow (oM u) (vL u) ∨ k < wB.heap.size) {M' : Stk.Mach} {h' : List Nat} {a c X Yv h : Value} {o : List Nat}
    (Y : ∃ s, Sys w' p g q n s t' S' (Stk.upd m u M') (Stk.upd has u h') ∧ REnv w' pr gr qr 0 2 n s.xs s.c) (hm' : HX w' q qr M' a c X Yv o) (ih' : Ints w' h (I h'))
    (hnew : ∀ j ∈ ow o h, (j ∈ ow (oM u) (vL u) ∨ w.heap.size ≤ j) ∧ j < w'.heap.size) (nd' : (ow o h).Nodup) (hb : wB.heap.size ≤ w.heap.size) :
    XD wB w' p g q pr gr qr n t' S' (Stk.upd m u M') (Stk.upd has u h') (Stk.upd vP u a) (Stk.upd vO u c) (Stk.upd vX u X) (Stk.upd vY u Yv) (Stk.upd vL u h) (Stk.upd oM u o) := by
  have key : ∀ i, i < 4 → i ≠ u → ∀ k ∈ ow (oM i) (vL i), k ∉ x := fun i hi hne k hk hkx => by
    rcases hx k hkx with h | h
    · exact D.dj i u hi hu hne k hk h
    · have := (D.lo i hi k hk).1; omega
  have fr : ∀ i, i < 4 → i ≠ u → ∀ j ∈ ow o h, j ∉ ow (oM i) (vL i) := fun i hi hne j hj hji => by
    rcases (hnew j hj).1 with h | h
    · exact D.dj u i hu hi (Ne.symm hne) j h hji
    · have := (D.lo i hi j hji).2; omega
  refine ⟨Y, fun i hi => ?_, fun i hi => ?_, fun i hi => ?_, fun i hi => ?_, fun i j hi hj hne => ?_, D.base⟩
  · by_cases e : i = u
    · subst e; simp only [Stk.upd_same]; exact hm'
    · simp only [Stk.upd_ne _ _ e]; exact (D.hm i hi).else E (fun k hk => key i hi e k (by simp [ow, hk]))
  · by_cases e : i = u
    · subst e; simp only [Stk.upd_same]; exact ih'
    · simp only [Stk.upd_ne _ _ e]; exact (D.il i hi).else E (away_in fun k hk => key i hi e k (by simp only [ow, List.mem_append]; exact .inr hk))
  · by_cases e : i = u
    · subst e; simp only [Stk.upd_same]
      intro j hj
      refine ⟨?_, (hnew j hj).2⟩
      rcases (hnew j hj).1 with h | h
      · exact (D.lo i hi j h).1
      · omega
    · simp only [Stk.upd_ne _ _ e]; exact fun j hj => ⟨(D.lo i hi j hj).1, Nat.lt_of_lt_of_le (D.lo i hi j hj).2 E.size⟩
  · by_cases e : i = u
    · subst e; simp only [Stk.upd_same]; exact nd'
    · simp only [Stk.upd_ne _ _ e]; exact D.nd i hi
  · by_cases e : i = u
    · subst e
      have e2 : j ≠ i := Ne.symm hne
      simp only [Stk.upd_same, Stk.upd_ne _ _ e2]; exact fr j hj e2
    · by_cases e2 : j = u
      · subst e2; simp only [Stk.upd_same, Stk.upd_ne _ _ e]; exact fun k hk hk2 => fr i hi e k hk2 hk
      · simp only [Stk.upd_ne _ _ e, Stk.upd_ne _ _ e2]; exact D.dj i j hi hj hne
theorem XD.lt (D : XD wB w p g q pr gr qr n t S m has vP vO vX vY vL oM) (hu : u < 4) {j : Nat} (hj : j ∈ oM u) : wB.heap.size ≤ j ∧ j < w.heap.size := D.lo u hu j (by simp [ow, hj])
theorem XD.hlt (D : XD wB w p g q pr gr qr n t S m has vP vO vX vY vL oM) (hu : u < 4) {j : Nat} (hj : (vL u).ownBlock = some j) : wB.heap.size ≤ j ∧ j < w.heap.size := D.lo u hu j (by simp [ow, hj])
theorem XD.apart (D : XD wB w p g q pr gr qr n t S m has vP vO vX vY vL oM) (hu : u < 4) {b : Nat} {v : Value} (hb : b ∈ oM u) (hv : ∀ j, v.ownBlock = some j → j ∈ oM u) : Apart b p g q v ∧ Apart b pr gr qr v := by
  obtain ⟨h1, h2, h3, h4, h5, h6⟩ := D.base
  have hb := (D.lt hu hb).1
  have key : ∀ z, z < wB.heap.size → v.ownBlock ≠ some z := fun z hz e => by have := (D.lt hu (hv _ e)).1; omega
  exact ⟨⟨by omega, by omega, by omega, key _ h1, key _ h2, key _ h3⟩, ⟨by omega, by omega, by omega, key _ h4, key _ h5, key _ h6⟩⟩
theorem XD.parts (D : XD wB w p g q pr gr qr n t S m has vP vO vX vY vL oM) (hu : u < 4) : (oM u).Nodup ∧ ∀ j ∈ (vL u).ownBlock.toList, j ∉ oM u := by
  have nd := D.nd u hu
  unfold ow at nd
  rw [List.nodup_append] at nd
  exact ⟨nd.1, fun j hj hk => nd.2.2 j hk j hj rfl⟩
theorem XD.ilK (D : XD wB w p g q pr gr qr n t S m has vP vO vX vY vL oM) (hu : u < 4) {x : List Nat} (E : Else x w w') (hx : ∀ j ∈ x, j ∈ oM u ∨ j < wB.heap.size) : Ints w' (vL u) (I (has u)) := by
  refine (D.il u hu).else E (away_in fun j hj hjx => ?_)
  rcases hx j hjx with h | h
  · exact (D.parts hu).2 j hj h
  · have := (D.hlt hu (by simpa using hj)).1; omega
theorem XD.small (D : XD wB w p g q pr gr qr n t S m has vP vO vX vY vL oM) (hu : u < 4) : (has u).length ≤ n := by
  obtain ⟨s, Y, _⟩ := D.sys
  have h := (Y.gi.once rfl).1
  simp only [List.length_append] at h
  rcases (show u = 0 ∨ u = 1 ∨ u = 2 ∨ u = 3 by omega) with rfl | rfl | rfl | rfl <;> omega
end
end Go.Proofs.Ytalhbebpoohgkaa
