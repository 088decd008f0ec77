/-
  EpochHolds: one that enters, three others who advance, enter and leave: what all of them are together (Hold), each one's Step.
-/
import Derived.Test.YtngaokhlcdlpfaaEpWin2
namespace Go.Proofs.Ytngaokhlcdlpfaa
open Go.RowKit
open W64
set_option maxRecDepth 100000
/-- Blocks of unlike types are two. -/
theorem Whole.ne_type {w : World} {a b : Nat} {t s : TypeId} {x y : Array Value} (h : Whole w a t x) (k : Whole w b s y) (hne : t ≠ s) : a ≠ b := by
  intro e
  subst e
  unfold Whole at h k
  rw [h] at k
  injection k with k
  injection k with _ k
  exact hne k
/-- An array's four cells. -/
def four (f : Nat → Value) : Array Value := #[f 0, f 1, f 2, f 3]
theorem four_get {f : Nat → Value} {u : Nat} (h : u < 4) : (four f)[u]? = some (f u) := by
  rcases (show u = 0 ∨ u = 1 ∨ u = 2 ∨ u = 3 by omega) with rfl | rfl | rfl | rfl <;> rfl
theorem four_set (f : Nat → Value) {u : Nat} (h : u < 4) (x : Value) : (four f).setIfInBounds u x = four (updA f u x) := by
  rcases (show u = 0 ∨ u = 1 ∨ u = 2 ∨ u = 3 by omega) with rfl | rfl | rfl | rfl <;> rfl
abbrev ptr (b : Nat) : Value := .pointer (some ⟨b, 0, none⟩)
theorem ptr_inj {a b : Nat} (h : ptr a = ptr b) : a = b := by
  injection h with h; injection h with h; injection h with h
theorem ptr_ne {b : Nat} : (.pointer none : Value) ≠ ptr b := by intro h; injection h with h; cases h
/-- What one's Enter is in memory. -/
def EnAt (W w : World) (q u : Nat) (v : Value) : Prop := v = .pointer none ∨ ∃ b e, v = ptr b ∧ EnM w b q u e ∧ e.i < 2 ∧ W.heap.size ≤ b
/-- What one's Advance is: the epoch that it loaded is no later one; and, once one is pinned, behind that one's announcement: none later than it was then. -/
def AdAt (W w : World) (q : Nat) (E at_ : Int) (pinned : Prop) (v : Value) : Prop :=
  v = .pointer none ∨ ∃ b a, v = ptr b ∧ AdM w b q 4 a ∧ a.fin = false ∧ W.heap.size ≤ b ∧ (1 ≤ a.i → a.old ≤ E) ∧ (pinned → 2 ≤ a.i → a.old ≤ at_)
/-- All of them. -/
structure Hold (W w : World) (p g q bn : Nat) (ve va : Nat → Value) (e0 : En) (E at_ : Int) (j : Nat) : Prop where
  sit : ∃ xs c, Sit W w p g q 4 xs c ∧ xs.getD 0 0 = E ∧ (e0.i = 2 → xs.getD 1 0 = pinV e0.ep)
  en0 : EnM w bn q 0 e0
  l0 : W.heap.size ≤ bn
  ep0 : 1 ≤ e0.i → 0 ≤ e0.ep ∧ e0.ep ≤ E
  at2 : e0.i = 2 → e0.ep ≤ at_ ∧ at_ ≤ E ∧ E ≤ at_ + 1
  at1 : e0.i ≠ 2 → at_ = -1
  lo : 0 ≤ E
  hi : E ≤ j
  few : j ≤ 120
  hE : ∀ u, u < 4 → EnAt W w q u (ve u)
  hA : ∀ u, u < 4 → AdAt W w q E at_ (e0.i = 2) (va u)
  dE : ∀ u v b, u < 4 → v < 4 → ve u = ptr b → ve v = ptr b → u = v
  dA : ∀ u v b, u < 4 → v < 4 → va u = ptr b → va v = ptr b → u = v
  d0 : ∀ u, u < 4 → ve u ≠ ptr bn
section
variable {W w w' : World} {p g q bn b u : Nat} {ve va : Nat → Value} {e0 : En} {E at_ : Int} {j : Nat} {v : Value}
theorem EnAt.else (h : EnAt W w q u v) {x : List Nat} (U : Else x w w') (hx : ∀ b, v = ptr b → b ∉ x) : EnAt W w' q u v := by
  rcases h with h | ⟨b, e, h1, h2, h3⟩
  · exact .inl h
  · exact .inr ⟨b, e, h1, h2.else U (hx b h1), h3⟩
theorem AdAt.else {P : Prop} (h : AdAt W w q E at_ P v) {x : List Nat} (U : Else x w w') (hx : ∀ b, v = ptr b → b ∉ x) : AdAt W w' q E at_ P v := by
  rcases h with h | ⟨b, a, h1, h2, h3⟩
  · exact .inl h
  · exact .inr ⟨b, a, h1, h2.else U (hx b h1), h3⟩
theorem Sit.types {n : Nat} {xs : List Int} {c : Int} (S : Sit W w p g q n xs c) : (∃ x, Whole w p 82 x) ∧ (∃ x, Whole w g 22 x) ∧ (∃ x, Whole w q 88 x) := by
  obtain ⟨s, E, _⟩ := S.epo
  exact ⟨⟨_, E.mem.top⟩, ⟨_, E.mem.row⟩, ⟨_, E.obj⟩⟩
theorem Sit.off {n : Nat} {xs : List Int} {c : Int} (S : Sit W w p g q n xs c) {t : TypeId} {x : Array Value} (h : Whole w b t x) (h1 : t ≠ 82) (h2 : t ≠ 22) (h3 : t ≠ 88) : Off b p g q := by
  obtain ⟨⟨_, k1⟩, ⟨_, k2⟩, ⟨_, k3⟩⟩ := S.types
  exact ⟨h.ne_type k1 h1, h.ne_type k2 h2, h.ne_type k3 h3⟩
theorem EnM.off {wk : Nat} {e : En} {n : Nat} {xs : List Int} {c : Int} (P : EnM w b q wk e) (S : Sit W w p g q n xs c) : Off b p g q := S.off P.row (by decide) (by decide) (by decide)
theorem LeM.off {wk : Nat} {d : Bool} {n : Nat} {xs : List Int} {c : Int} (P : LeM w b q wk d) (S : Sit W w p g q n xs c) : Off b p g q := S.off P.row (by decide) (by decide) (by decide)
theorem AdM.off {a : Ad} {m n : Nat} {xs : List Int} {c : Int} (P : AdM w b q m a) (S : Sit W w p g q n xs c) : Off b p g q := S.off P.row (by decide) (by decide) (by decide)
theorem Hold.up (H : Hold W w p g q bn ve va e0 E at_ j) (U : Up w w') : Hold W w' p g q bn ve va e0 E at_ j := by
  obtain ⟨xs, c, S, h1, h2⟩ := H.sit
  exact ⟨⟨xs, c, S.ups U, h1, h2⟩, H.en0.up U, H.l0, H.ep0, H.at2, H.at1, H.lo, H.hi, H.few, fun u hu => (H.hE u hu).else (x := []) (Else.of_up U) (by simp), fun u hu => (H.hA u hu).else (x := []) (Else.of_up U) (by simp), H.dE, H.dA, H.d0⟩
/-- A store into an array of the machines. -/
theorem Hold.store (H : Hold W w p g q bn ve va e0 E at_ j) {t : TypeId} {x : Array Value} (h : Whole w b t x) (hb : W.heap.size ≤ b) (h1 : t ≠ 82) (h2 : t ≠ 22) (h3 : t ≠ 88) (h4 : t ≠ 91) (h5 : t ≠ 94) (o : Nat) (y : Value) : Hold W (w.setCell ⟨b, o, none⟩ y) p g q bn ve va e0 E at_ j := by
  obtain ⟨xs, c, S, k1, k2⟩ := H.sit
  have O := S.off h h1 h2 h3
  have U : Else [b] w (w.setCell ⟨b, o, none⟩ y) := (Else.refl [b] w).set (.inl (by simp)) y
  have key : ∀ {b'} {t'} {x'}, Whole w b' t' x' → t ≠ t' → b' ∉ [b] := fun k hne => by simp; exact fun e => (h.ne_type k hne) e.symm
  refine ⟨⟨xs, c, S.else U (by simp; exact hb) (by simp [O.bp.symm, O.bg.symm, O.bq.symm]), k1, k2⟩, H.en0.else U (key H.en0.row h4), H.l0, H.ep0, H.at2, H.at1, H.lo, H.hi, H.few, fun u hu => ?_, fun u hu => ?_, H.dE, H.dA, H.d0⟩
  · rcases H.hE u hu with k | ⟨b', e, e1, e2, e3⟩
    · exact .inl k
    · exact .inr ⟨b', e, e1, e2.else U (key e2.row h4), e3⟩
  · rcases H.hA u hu with k | ⟨b', e, e1, e2, e3⟩
    · exact .inl k
    · exact .inr ⟨b', e, e1, e2.else U (key e2.row h5), e3⟩
theorem Hold.grow (H : Hold W w p g q bn ve va e0 E at_ j) {j' : Nat} (h : j ≤ j') (h' : j' ≤ 120) : Hold W w p g q bn ve va e0 E at_ j' :=
  ⟨H.sit, H.en0, H.l0, H.ep0, H.at2, H.at1, H.lo, by have := H.hi; omega, h', H.hE, H.hA, H.dE, H.dA, H.d0⟩
theorem hold_now (H : Hold W w p g q bn ve va e0 E at_ j) : Calls Try.prog 18 #[.pointer (some ⟨q, 0, none⟩)] w fun r w' => r = .returned (.int .i64 E) ∧ Up w w' := by
  obtain ⟨xs, c, S, h1, _⟩ := H.sit
  have h2 := H.hi
  have h3 := H.few
  exact now_to S (by rw [h1, epN_small (by omega)])
/-! ### Worker 0 -/
theorem hold_load (H : Hold W w p g q bn ve va e0 E at_ j) (h : e0.i = 0) :
    Calls Try.prog 22 #[.pointer (some ⟨bn, 0, none⟩)] w fun r w' => r = .returned (.bool true) ∧ Hold W w' p g q bn ve va ⟨1, E⟩ E at_ j ∧ Else [bn, p, g] w w' := by
  obtain ⟨xs, c, S, h1, h2⟩ := H.sit
  have b1 := H.hi
  have b2 := H.few
  have e1 : e0.xs 1 0 xs = xs := by unfold En.xs; rw [if_pos h]
  have e2 : e0.go 0 xs = ⟨1, E⟩ := by unfold En.go; rw [if_pos h, h1, epN_small (by omega)]
  refine (enStep_to S (H.en0.off S) H.l0 (by decide) H.en0 (by omega) e1 e2 rfl).mono ?_
  rintro r w' ⟨rfl, G⟩
  refine ⟨rfl, ⟨⟨_, _, G.sit, h1, by simp⟩, G.mach, H.l0, fun _ => ⟨H.lo, by dsimp only; omega⟩, by simp, fun _ => H.at1 (by omega), H.lo, H.hi, H.few, fun u hu => ?_, fun u hu => ?_, H.dE, H.dA, H.d0⟩, G.rest⟩
  · rcases H.hE u hu with k | ⟨b', e, k1, k2, k3⟩
    · exact .inl k
    · have O := k2.off S
      exact .inr ⟨b', e, k1, k2.else G.rest (not_three (fun e' => H.d0 u hu (by rw [k1, e'])) O.bp O.bg), k3⟩
  · rcases H.hA u hu with k | ⟨b', a, k1, k2, k3, k4, k5, k6⟩
    · exact .inl k
    · have O := k2.off S
      exact .inr ⟨b', a, k1, k2.else G.rest (not_three (k2.row.ne_type H.en0.row (by decide)) O.bp O.bg), k3, k4, k5, by simp⟩
theorem hold_pin (H : Hold W w p g q bn ve va e0 E at_ j) (h : e0.i = 1) :
    Calls Try.prog 22 #[.pointer (some ⟨bn, 0, none⟩)] w fun r w' => r = .returned (.bool true) ∧ Hold W w' p g q bn ve va ⟨2, e0.ep⟩ E E j ∧ Else [bn, p, g] w w' := by
  obtain ⟨xs, c, S, h1, h2⟩ := H.sit
  have hl := S.len
  have e1 : e0.xs 1 0 xs = xs.set 1 (pinV e0.ep) := by unfold En.xs; rw [if_neg (by omega)]
  have e2 : e0.go 0 xs = ⟨2, e0.ep⟩ := by unfold En.go; rw [if_neg (by omega)]
  refine (enStep_to S (H.en0.off S) H.l0 (by decide) H.en0 (by omega) e1 e2 rfl).mono ?_
  rintro r w' ⟨rfl, G⟩
  have hep := H.ep0 (by omega)
  refine ⟨rfl, ⟨⟨_, _, G.sit, by rw [getD_set, if_neg (by omega)]; exact h1, fun _ => by rw [getD_set, if_pos ⟨rfl, by omega⟩]⟩, G.mach, H.l0, fun _ => hep, fun _ => ⟨hep.2, by omega, by omega⟩, by simp, H.lo, H.hi, H.few, fun u hu => ?_, fun u hu => ?_, H.dE, H.dA, H.d0⟩, G.rest⟩
  · rcases H.hE u hu with k | ⟨b', e, k1, k2, k3⟩
    · exact .inl k
    · have O := k2.off S
      exact .inr ⟨b', e, k1, k2.else G.rest (not_three (fun e' => H.d0 u hu (by rw [k1, e'])) O.bp O.bg), k3⟩
  · rcases H.hA u hu with k | ⟨b', a, k1, k2, k3, k4, k5, k6⟩
    · exact .inl k
    · have O := k2.off S
      exact .inr ⟨b', a, k1, k2.else G.rest (not_three (k2.row.ne_type H.en0.row (by decide)) O.bp O.bg), k3, k4, k5, fun _ hi => k5 (by omega)⟩
/-! ### The others -/
/-- Cells turned elsewhere than at 0 and 1; a machine that is no Advance. -/
theorem Hold.other (H : Hold W w p g q bn ve va e0 E at_ j) {xs : List Int} {c c' : Int} (S : Sit W w p g q 4 xs c) (h1 : xs.getD 0 0 = E) (h2 : e0.i = 2 → xs.getD 1 0 = pinV e0.ep) {k : Nat} {y : Int} (hk : 2 ≤ k) {M : World → Prop} (G : Went W w p g q 4 b (xs.set k y) c' M w')
    (hbn : b ≠ bn) (hb : ∀ v b', v < 4 → ve v = ptr b' → b' ≠ b) (hA : ∀ v b', v < 4 → va v = ptr b' → b' ≠ b) : Hold W w' p g q bn ve va e0 E at_ j := by
  have ne : ∀ {m}, m < 2 → (xs.set k y).getD m 0 = xs.getD m 0 := fun hm => by rw [getD_set, if_neg (by omega)]
  refine ⟨⟨_, _, G.sit, by rw [ne (by decide)]; exact h1, fun h => by rw [ne (by decide)]; exact h2 h⟩, H.en0.else G.rest (not_three (Ne.symm hbn) (H.en0.off S).bp (H.en0.off S).bg), H.l0, H.ep0, H.at2, H.at1, H.lo, H.hi, H.few, fun v hv => ?_, fun v hv => ?_, H.dE, H.dA, H.d0⟩
  · rcases H.hE v hv with k' | ⟨b', e', k1, k2, k3⟩
    · exact .inl k'
    · have O' := k2.off S
      exact .inr ⟨b', e', k1, k2.else G.rest (not_three (hb v b' hv k1) O'.bp O'.bg), k3⟩
  · rcases H.hA v hv with k' | ⟨b', a', k1, k2, k3⟩
    · exact .inl k'
    · have O' := k2.off S
      exact .inr ⟨b', a', k1, k2.else G.rest (not_three (hA v b' hv k1) O'.bp O'.bg), k3⟩
theorem set_same (xs : List Int) (k : Nat) : xs.set k (xs.getD k 0) = xs := by
  refine List.ext_getElem? fun i => ?_
  rw [List.getElem?_set]
  split
  · rename_i e; subst e
    split
    · rename_i h; simp [List.getD, h]
    · rename_i h; simp at h; simp [h]
  · rfl
/-- An Enter of another one: its Load. -/
theorem hold_enter0 (H : Hold W w p g q bn ve va e0 E at_ j) (hu : u < 4) {e : En} (hv : ve u = ptr b) (P : EnM w b q u e) (hb : W.heap.size ≤ b) (h : e.i = 0) :
    Calls Try.prog 22 #[.pointer (some ⟨b, 0, none⟩)] w fun r w' => r = .returned (.bool true) ∧ (∃ e', EnM w' b q u e' ∧ e'.i = 1) ∧ Hold W w' p g q bn ve va e0 E at_ j ∧ Else [b, p, g] w w' := by
  obtain ⟨xs, c, S, h1, h2⟩ := H.sit
  have O := P.off S
  have e1 : e.xs 1 u xs = xs := by unfold En.xs; rw [if_pos h]
  have e2 : e.go 0 xs = ⟨1, epN (xs.getD 0 0)⟩ := by unfold En.go; rw [if_pos h]
  refine (enStep_to S O hb hu P (by omega) e1 e2 rfl).mono ?_
  rintro r w' ⟨rfl, G⟩
  refine ⟨rfl, ⟨_, G.mach, rfl⟩, ⟨⟨_, _, G.sit, h1, h2⟩, H.en0.else G.rest (not_three (fun e' => H.d0 u hu (by rw [hv, e'])) (H.en0.off S).bp (H.en0.off S).bg), H.l0, H.ep0, H.at2, H.at1, H.lo, H.hi, H.few, fun v hv' => ?_, fun v hv' => ?_, H.dE, H.dA, H.d0⟩, G.rest⟩
  · by_cases ev : v = u
    · subst ev
      exact .inr ⟨b, _, hv, G.mach, by simp, hb⟩
    · rcases H.hE v hv' with k' | ⟨b', e', k1, k2, k3⟩
      · exact .inl k'
      · have O' := k2.off S
        exact .inr ⟨b', e', k1, k2.else G.rest (not_three (fun e'' => ev (H.dE v u b' hv' hu k1 (by rw [hv, e'']))) O'.bp O'.bg), k3⟩
  · rcases H.hA v hv' with k' | ⟨b', a', k1, k2, k3⟩
    · exact .inl k'
    · have O' := k2.off S
      exact .inr ⟨b', a', k1, k2.else G.rest (not_three (k2.row.ne_type P.row (by decide)) O'.bp O'.bg), k3⟩
theorem upd_none {f : Nat → Value} {u v b : Nat} (h : updA f u (.pointer none) v = ptr b) : v ≠ u ∧ f v = ptr b := by
  by_cases e : v = u
  · subst e; rw [updA_same] at h; exact absurd h ptr_ne
  · rw [updA_ne _ _ e] at h; exact ⟨e, h⟩
/-- One's Enter is struck. -/
theorem Hold.noEnter (H : Hold W w p g q bn ve va e0 E at_ j) (u : Nat) : Hold W w p g q bn (updA ve u (.pointer none)) va e0 E at_ j := by
  refine ⟨H.sit, H.en0, H.l0, H.ep0, H.at2, H.at1, H.lo, H.hi, H.few, fun v hv => ?_, H.hA, fun v v' b h h' k k' => ?_, H.dA, fun v hv k => ?_⟩
  · by_cases e : v = u
    · subst e; rw [updA_same]; exact .inl rfl
    · rw [updA_ne _ _ e]; exact H.hE v hv
  · exact H.dE v v' b h h' (upd_none k).2 (upd_none k').2
  · exact H.d0 v hv (upd_none k).2
/-- An Enter of another one: its Store. -/
theorem hold_enter1 (H : Hold W w p g q bn ve va e0 E at_ j) (hu : u < 4) (h0 : 0 < u) {e : En} (hv : ve u = ptr b) (P : EnM w b q u e) (hb : W.heap.size ≤ b) (h : e.i = 1) :
    Calls Try.prog 22 #[.pointer (some ⟨b, 0, none⟩)] w fun r w' => r = .returned (.bool true) ∧ (∃ e', EnM w' b q u e' ∧ e'.i = 2) ∧ Hold W w' p g q bn (updA ve u (.pointer none)) va e0 E at_ j ∧ Else [b, p, g] w w' := by
  have H' := H.noEnter u
  obtain ⟨xs, c, S, h1, h2⟩ := H.sit
  have O := P.off S
  have e1 : e.xs 1 u xs = xs.set (1 + u) (pinV e.ep) := by unfold En.xs; rw [if_neg (by omega)]
  have e2 : e.go 0 xs = ⟨2, e.ep⟩ := by unfold En.go; rw [if_neg (by omega)]
  refine (enStep_to S O hb hu P (by omega) e1 e2 rfl).mono ?_
  rintro r w' ⟨rfl, G⟩
  refine ⟨rfl, ⟨_, G.mach, rfl⟩, H'.other S h1 h2 (by omega) G (fun e' => H.d0 u hu (by rw [hv, e'])) (fun v b' hv' k => ?_) (fun v b' hv' k => ?_), G.rest⟩
  · obtain ⟨k1, k2⟩ := upd_none k
    intro e'
    subst e'
    exact k1 (H.dE v u b' hv' hu k2 hv)
  · rcases H.hA v hv' with k' | ⟨b2, a', k1, k2, k3⟩
    · rw [k] at k'; exact absurd k'.symm ptr_ne
    · rw [k] at k1
      have := ptr_inj k1
      subst this
      exact k2.row.ne_type P.row (by decide)
/-- A Leave of another one. -/
theorem hold_leave (H : Hold W w p g q bn ve va e0 E at_ j) (hu : u < 4) (h0 : 0 < u) (P : LeM w b q u false) (hb : W.heap.size ≤ b) :
    Calls Try.prog 26 #[.pointer (some ⟨b, 0, none⟩)] w fun r w' => r = .returned (.bool true) ∧ Hold W w' p g q bn ve va e0 E at_ j ∧ Else [b, p, g] w w' := by
  obtain ⟨xs, c, S, h1, h2⟩ := H.sit
  refine (leStep_to S (P.off S) hb hu P rfl rfl).mono ?_
  rintro r w' ⟨rfl, G⟩
  refine ⟨rfl, H.other S h1 h2 (by omega) G (P.row.ne_type H.en0.row (by decide)) (fun v b' hv' k => ?_) (fun v b' hv' k => ?_), G.rest⟩
  · rcases H.hE v hv' with k' | ⟨b2, a', k1, k2, k3⟩
    · rw [k] at k'; exact absurd k'.symm ptr_ne
    · rw [k] at k1
      have := ptr_inj k1
      subst this
      exact k2.row.ne_type P.row (by decide)
  · rcases H.hA v hv' with k' | ⟨b2, a', k1, k2, k3⟩
    · rw [k] at k'; exact absurd k'.symm ptr_ne
    · rw [k] at k1
      have := ptr_inj k1
      subst this
      exact k2.row.ne_type P.row (by decide)
end
end Go.Proofs.Ytngaokhlcdlpfaa
