/-
  EpochHolds: a Step of another one's Advance; the machines begin; the arrays in which they stand.
-/
import Derived.Test.YtngaokhlcdlpfaaEpHold
namespace Go.Proofs.Ytngaokhlcdlpfaa
open Go.RowKit
open W64
set_option maxRecDepth 100000
section
variable {W w w' : World} {p g q bn b u : Nat} {ve va : Nat → Value} {e0 : En} {E at_ : Int} {j : Nat} {v : Value}
/-- The arrays stay. -/
def Keep (w w' : World) : Prop := ∀ bb t x, Whole w bb t x → (t = 42 ∨ t = 46) → Whole w' bb t x
theorem Keep.of_up (u : Up w w') : Keep w w' := fun _ _ _ h _ => h.up u
theorem Keep.of_else {n : Nat} {xs : List Int} {c : Int} (S : Sit W w p g q n xs c) {t : TypeId} {x : Array Value} (hb : Whole w b t x) (h1 : t ≠ 42) (h2 : t ≠ 46) (U : Else [b, p, g] w w') : Keep w w' := by
  intro bb t' x' h ht
  obtain ⟨⟨_, k1⟩, ⟨_, k2⟩, _⟩ := S.types
  refine U.whole h (not_three ?_ ?_ ?_)
  · exact h.ne_type hb (fun e => by rcases ht with rfl | rfl
                                    · exact h1 e.symm
                                    · exact h2 e.symm)
  · exact h.ne_type k1 (by rcases ht with rfl | rfl <;> decide)
  · exact h.ne_type k2 (by rcases ht with rfl | rfl <;> decide)
theorem Hold.keep (H : Hold W w p g q bn ve va e0 E at_ j) {t : TypeId} {x : Array Value} (hb : Whole w b t x) (h1 : t ≠ 42) (h2 : t ≠ 46) (U : Else [b, p, g] w w') : Keep w w' := by
  obtain ⟨_, _, S, _⟩ := H.sit
  exact Keep.of_else S hb h1 h2 U
/-- One's Advance is struck. -/
theorem Hold.noAdv (H : Hold W w p g q bn ve va e0 E at_ j) (u : Nat) : Hold W w p g q bn ve (updA va u (.pointer none)) e0 E at_ j := by
  refine ⟨H.sit, H.en0, H.l0, H.ep0, H.at2, H.at1, H.lo, H.hi, H.few, H.hE, fun v hv => ?_, H.dE, fun v v' b h h' k k' => ?_, H.d0⟩
  · by_cases e : v = u
    · subst e; rw [updA_same]; exact .inl rfl
    · rw [updA_ne _ _ e]; exact H.hA v hv
  · exact H.dA v v' b h h' (upd_none k).2 (upd_none k').2
theorem upd_some {f : Nat → Value} {u v b b' : Nat} (h : updA f u (ptr b) v = ptr b') : (v = u ∧ b' = b) ∨ (v ≠ u ∧ f v = ptr b') := by
  by_cases e : v = u
  · subst e; rw [updA_same] at h; exact .inl ⟨rfl, (ptr_inj h).symm⟩
  · rw [updA_ne _ _ e] at h; exact .inr ⟨e, h⟩
/-- One has an Advance. -/
theorem Hold.setAdv (H : Hold W w p g q bn ve va e0 E at_ j) {a : Ad} (P : AdM w b q 4 a) (hf : a.fin = false) (hb : W.heap.size ≤ b) (k5 : 1 ≤ a.i → a.old ≤ E) (k6 : e0.i = 2 → 2 ≤ a.i → a.old ≤ at_) (fr : ∀ v b', v < 4 → v ≠ u → va v = ptr b' → b' ≠ b) :
    Hold W w p g q bn ve (updA va u (ptr b)) e0 E at_ j := by
  refine ⟨H.sit, H.en0, H.l0, H.ep0, H.at2, H.at1, H.lo, H.hi, H.few, H.hE, fun v hv => ?_, H.dE, fun v v' b' h h' k k' => ?_, H.d0⟩
  · by_cases e : v = u
    · subst e; rw [updA_same]; exact .inr ⟨b, a, rfl, P, hf, hb, k5, k6⟩
    · rw [updA_ne _ _ e]; exact H.hA v hv
  · rcases upd_some k with ⟨e1, e2⟩ | ⟨e1, e2⟩
    · rcases upd_some k' with ⟨e3, _⟩ | ⟨e3, e4⟩
      · omega
      · exact absurd e2 (fr v' b' h' e3 e4)
    · rcases upd_some k' with ⟨_, e4⟩ | ⟨_, e4⟩
      · exact absurd e4 (fr v b' h e1 e2)
      · exact H.dA v v' b' h h' e2 e4
theorem Hold.setEnter (H : Hold W w p g q bn ve va e0 E at_ j) {e : En} (P : EnM w b q u e) (hf : e.i < 2) (hb : W.heap.size ≤ b) (hbn : b ≠ bn) (fr : ∀ v b', v < 4 → v ≠ u → ve v = ptr b' → b' ≠ b) :
    Hold W w p g q bn (updA ve u (ptr b)) va e0 E at_ j := by
  refine ⟨H.sit, H.en0, H.l0, H.ep0, H.at2, H.at1, H.lo, H.hi, H.few, fun v hv => ?_, H.hA, fun v v' b' h h' k k' => ?_, H.dA, fun v hv k => ?_⟩
  · by_cases e : v = u
    · subst e; rw [updA_same]; exact .inr ⟨b, _, rfl, P, hf, hb⟩
    · rw [updA_ne _ _ e]; exact H.hE v hv
  · rcases upd_some k with ⟨e1, e2⟩ | ⟨e1, e2⟩
    · rcases upd_some k' with ⟨e3, _⟩ | ⟨e3, e4⟩
      · omega
      · exact absurd e2 (fr v' b' h' e3 e4)
    · rcases upd_some k' with ⟨_, e4⟩ | ⟨_, e4⟩
      · exact absurd e4 (fr v b' h e1 e2)
      · exact H.dE v v' b' h h' e2 e4
  · rcases upd_some k with ⟨_, e2⟩ | ⟨_, e2⟩
    · exact hbn e2.symm
    · exact H.d0 v hv e2
/-- Behind one's Advance's access, that one aside. -/
theorem Hold.advTurn (H : Hold W w p g q bn ve va e0 E at_ j) (hu : u < 4) {a : Ad} (hv : va u = ptr b) (P : AdM w b q 4 a) {xs xs' : List Int} {c c' E' : Int} (S : Sit W w p g q 4 xs c) (h2 : e0.i = 2 → xs.getD 1 0 = pinV e0.ep) {M : World → Prop} (G : Went W w p g q 4 b xs' c' M w')
    (x0 : xs'.getD 0 0 = E') (x1 : xs'.getD 1 0 = xs.getD 1 0) (g1 : E ≤ E') (g2 : E' ≤ E + 1) (g3 : e0.i = 2 → E' ≤ at_ + 1) (hj : j < 120) :
    Hold W w' p g q bn ve (updA va u (.pointer none)) e0 E' at_ (j + 1) := by
  have hlo := H.lo
  have hhi := H.hi
  refine ⟨⟨_, _, G.sit, x0, fun h => by rw [x1]; exact h2 h⟩, H.en0.else G.rest (not_three (H.en0.row.ne_type P.row (by decide)) (H.en0.off S).bp (H.en0.off S).bg), H.l0, fun h => ?_, fun h => ?_, H.at1, by omega, by omega, by omega, fun v hv' => ?_, fun v hv' => ?_, H.dE, fun v v' b' h h' k k' => ?_, H.d0⟩
  · have := H.ep0 h; omega
  · have := H.at2 h; have := g3 h; omega
  · rcases H.hE v hv' with k' | ⟨b', e', k1, k2, k3⟩
    · exact .inl k'
    · have O' := k2.off S
      exact .inr ⟨b', e', k1, k2.else G.rest (not_three (k2.row.ne_type P.row (by decide)) O'.bp O'.bg), k3⟩
  · by_cases e : v = u
    · subst e; rw [updA_same]; exact .inl rfl
    · rw [updA_ne _ _ e]
      rcases H.hA v hv' with k' | ⟨b', a', k1, k2, k3, k4, k5, k6⟩
      · exact .inl k'
      · have O' := k2.off S
        exact .inr ⟨b', a', k1, k2.else G.rest (not_three (fun e'' => e (H.dA v u b' hv' hu k1 (by rw [hv, e'']))) O'.bp O'.bg), k3, k4, fun h => by have := k5 h; omega, k6⟩
  · exact H.dA v v' b' h h' (upd_none k).2 (upd_none k').2
theorem updA_back {f : Nat → Value} {u : Nat} {x y : Value} (h : f u = y) : updA (updA f u x) u y = f := by
  funext k
  by_cases e : k = u
  · subst e; rw [updA_same, h]
  · rw [updA_ne _ _ e, updA_ne _ _ e]
/-- What a Step of one's Advance leaves: it goes on, or it is done. -/
def AdvOut (W : World) (p g q bn b u : Nat) (ve va : Nat → Value) (e0 : En) (at_ : Int) (j : Nat) (w' : World) : Prop :=
  (∃ a' E', AdM w' b q 4 a' ∧ a'.fin = false ∧ Hold W w' p g q bn ve va e0 E' at_ j) ∨
  (∃ a' E', AdM w' b q 4 a' ∧ a'.fin = true ∧ Hold W w' p g q bn ve (updA va u (.pointer none)) e0 E' at_ j)
theorem hold_adv (H : Hold W w p g q bn ve va e0 E at_ j) (hu : u < 4) {a : Ad} (hv : va u = ptr b) (P : AdM w b q 4 a) (hf : a.fin = false) (hb : W.heap.size ≤ b) (k5 : 1 ≤ a.i → a.old ≤ E) (k6 : e0.i = 2 → 2 ≤ a.i → a.old ≤ at_) (hj : j < 120) :
    Calls Try.prog 23 #[.pointer (some ⟨b, 0, none⟩)] w fun r w' => r = .returned (.bool true) ∧ AdvOut W p g q bn b u ve va e0 at_ (j + 1) w' ∧ Keep w w' := by
  obtain ⟨xs, c, S, h1, h2⟩ := H.sit
  have hlen := S.len
  have htop := P.top hf
  have O := P.off S
  have hlo := H.lo
  have hhi := H.hi
  have hfew := H.few
  have fr : ∀ v b', v < 4 → v ≠ u → updA va u (.pointer none) v = ptr b' → b' ≠ b := fun v b' hv' hne k e => hne (by
    subst e; exact H.dA v u b' hv' hu (upd_none k).2 hv)
  have g30 : e0.i = 2 → E ≤ at_ + 1 := fun h => (H.at2 h).2.2
  by_cases i0 : a.i = 0
  · have e1 : a.xs 0 4 xs = xs := by unfold Ad.xs; rw [if_neg (by omega)]
    have e2 : a.go 0 1 4 xs = ⟨1, E, a.won, false⟩ := by unfold Ad.go; rw [if_pos i0, h1]
    refine (adStep_to S O hb P hf e1 e2 rfl).mono ?_
    rintro r w' ⟨rfl, G⟩
    have T := H.advTurn hu hv P S h2 G h1 rfl (by omega) (by omega) g30 hj
    have T2 := T.setAdv (u := u) G.mach rfl hb (fun _ => by dsimp only; omega) (fun _ h => by dsimp only at h; omega) fr
    rw [updA_back hv] at T2
    exact ⟨rfl, .inl ⟨_, E, G.mach, rfl, T2⟩, Keep.of_else S P.row (by decide) (by decide) G.rest⟩
  · by_cases i4 : a.i ≤ 4
    · have e1 : a.xs 0 4 xs = xs := by unfold Ad.xs; rw [if_neg (by omega)]
      have e2 : a.go 0 1 4 xs = ⟨a.i + 1, a.old, a.won, a.bar 1 xs⟩ := by unfold Ad.go; rw [if_neg i0, if_pos i4]
      refine (adStep_to S O hb P hf e1 e2 rfl).mono ?_
      rintro r w' ⟨rfl, G⟩
      have T := H.advTurn hu hv P S h2 G h1 rfl (by omega) (by omega) g30 hj
      have KP := Keep.of_else S P.row (by decide) (by decide) G.rest
      cases hbar : a.bar 1 xs
      · rw [hbar] at G
        have kk : e0.i = 2 → a.old ≤ at_ := fun h => by
          by_cases i1 : a.i = 1
          · have hep := H.ep0 (by omega)
            have hat := H.at2 h
            have ho := k5 (by omega)
            unfold Ad.bar at hbar
            rw [i1, show 1 + (1 - 1) = 1 from rfl, h2 h] at hbar
            have hpv : pinV e0.ep = 2 * e0.ep + 1 := by
              unfold pinV pinN; rw [if_pos (by unfold pinB; rw [inB_iff]; omega)]
            rw [hpv, pinO_odd, pinE_odd, epN_small (by omega)] at hbar
            simp at hbar
            omega
          · exact k6 h (by omega)
        have T2 := T.setAdv (u := u) G.mach rfl hb (fun _ => by dsimp only; exact k5 (by omega)) (fun h _ => kk h) fr
        rw [updA_back hv] at T2
        exact ⟨rfl, .inl ⟨_, E, G.mach, rfl, T2⟩, KP⟩
      · rw [hbar] at G
        exact ⟨rfl, .inr ⟨_, E, G.mach, rfl, T⟩, KP⟩
    · by_cases hx : E = a.old
      · have e1 : a.xs 0 4 xs = xs.set 0 (E + 1) := by
          unfold Ad.xs; rw [if_pos ⟨by omega, by rw [h1]; exact hx⟩, ← hx, upN_small (by omega) (by omega)]
        have e2 : a.go 0 1 4 xs = ⟨a.i + 1, a.old, true, true⟩ := by unfold Ad.go; rw [if_neg i0, if_neg i4, decide_eq_true (by rw [h1]; exact hx)]
        refine (adStep_to S O hb P hf e1 e2 rfl).mono ?_
        rintro r w' ⟨rfl, G⟩
        have T := H.advTurn (E' := E + 1) hu hv P S h2 G (by rw [getD_set, if_pos ⟨rfl, by omega⟩]) (by rw [getD_set, if_neg (by omega)]) (by omega) (by omega) (fun h => by have := k6 h (by omega); omega) hj
        exact ⟨rfl, .inr ⟨_, _, G.mach, rfl, T⟩, Keep.of_else S P.row (by decide) (by decide) G.rest⟩
      · have e1 : a.xs 0 4 xs = xs := by unfold Ad.xs; rw [if_neg (by rw [h1]; exact fun h => hx h.2)]
        have e2 : a.go 0 1 4 xs = ⟨a.i + 1, a.old, false, true⟩ := by unfold Ad.go; rw [if_neg i0, if_neg i4, decide_eq_false (by rw [h1]; exact hx)]
        refine (adStep_to S O hb P hf e1 e2 rfl).mono ?_
        rintro r w' ⟨rfl, G⟩
        have T := H.advTurn hu hv P S h2 G h1 rfl (by omega) (by omega) g30 hj
        exact ⟨rfl, .inr ⟨_, _, G.mach, rfl, T⟩, Keep.of_else S P.row (by decide) (by decide) G.rest⟩
/-! ### The machines begin -/
theorem Hold.old (H : Hold W w p g q bn ve va e0 E at_ j) : bn < w.heap.size ∧ (∀ v b', v < 4 → ve v = ptr b' → b' < w.heap.size) ∧ (∀ v b', v < 4 → va v = ptr b' → b' < w.heap.size) := by
  refine ⟨H.en0.row.lt, fun v b' hv k => ?_, fun v b' hv k => ?_⟩
  · rcases H.hE v hv with k' | ⟨b2, a', k1, k2, k3⟩
    · rw [k] at k'; exact absurd k'.symm ptr_ne
    · rw [k] at k1; rw [ptr_inj k1]; exact k2.row.lt
  · rcases H.hA v hv with k' | ⟨b2, a', k1, k2, k3⟩
    · rw [k] at k'; exact absurd k'.symm ptr_ne
    · rw [k] at k1; rw [ptr_inj k1]; exact k2.row.lt
theorem hold_newAdv (H : Hold W w p g q bn ve va e0 E at_ j) (u : Nat) :
    Calls Try.prog 27 #[.pointer (some ⟨q, 0, none⟩)] w fun r w' => ∃ b, r = .returned (ptr b) ∧ Hold W w' p g q bn ve (updA va u (ptr b)) e0 E at_ j ∧ Keep w w' := by
  obtain ⟨xs, c, S, h1, h2⟩ := H.sit
  refine (adBegin S).mono ?_
  rintro r w' ⟨b, rfl, b1, b2, O, P, S', U⟩
  have hW := S.up.size
  refine ⟨b, rfl, (H.up U).setAdv P rfl (by omega) (fun h => by simp at h) (fun _ h => by simp at h) (fun v b' hv _ k => ?_), Keep.of_up U⟩
  have := H.old.2.2 v b' hv k
  omega
theorem hold_newEnter (H : Hold W w p g q bn ve va e0 E at_ j) (hu : u < 4) :
    Calls Try.prog 20 #[.pointer (some ⟨q, 0, none⟩), .int .i64 u] w fun r w' => ∃ b, r = .returned (.tuple #[ptr b, .int .i64 0]) ∧ Hold W w' p g q bn (updA ve u (ptr b)) va e0 E at_ j ∧ Keep w w' := by
  obtain ⟨xs, c, S, h1, h2⟩ := H.sit
  refine (enBegin S hu).mono ?_
  rintro r w' ⟨b, rfl, b1, b2, O, P, S', U⟩
  have hW := S.up.size
  have := H.old.1
  refine ⟨b, rfl, (H.up U).setEnter P (by simp) (by omega) (by omega) (fun v b' hv _ k => ?_), Keep.of_up U⟩
  have := H.old.2.1 v b' hv k
  omega
theorem hold_newLeave (H : Hold W w p g q bn ve va e0 E at_ j) (hu : u < 4) :
    Calls Try.prog 25 #[.pointer (some ⟨q, 0, none⟩), .int .i64 u] w fun r w' => ∃ b, r = .returned (.tuple #[ptr b, .int .i64 0]) ∧ LeM w' b q u false ∧ W.heap.size ≤ b ∧ Hold W w' p g q bn ve va e0 E at_ j ∧ Keep w w' := by
  obtain ⟨xs, c, S, h1, h2⟩ := H.sit
  refine (leBegin S hu).mono ?_
  rintro r w' ⟨b, rfl, b1, b2, O, P, S', U⟩
  have hW := S.up.size
  exact ⟨b, rfl, P, by omega, H.up U, Keep.of_up U⟩
/-! ### The arrays -/
structure Arr (W w : World) (bE bA : Nat) (ve va : Nat → Value) : Prop where
  e : Whole w bE 42 (four ve)
  a : Whole w bA 46 (four va)
  le : W.heap.size ≤ bE
  la : W.heap.size ≤ bA
variable {bE bA : Nat}
theorem Arr.keep (A : Arr W w bE bA ve va) (k : Keep w w') : Arr W w' bE bA ve va := ⟨k _ _ _ A.e (.inl rfl), k _ _ _ A.a (.inr rfl), A.le, A.la⟩
theorem Arr.ne (A : Arr W w bE bA ve va) : bE ≠ bA := A.e.ne_type A.a (by decide)
theorem Arr.setE (A : Arr W w bE bA ve va) (hu : u < 4) (x : Value) : Arr W (w.setCell ⟨bE, u, none⟩ x) bE bA (updA ve u x) va :=
  ⟨four_set ve hu x ▸ A.e.set u x, A.a.far (p := ⟨bE, u, none⟩) A.ne.symm x, A.le, A.la⟩
theorem Arr.setA (A : Arr W w bE bA ve va) (hu : u < 4) (x : Value) : Arr W (w.setCell ⟨bA, u, none⟩ x) bE bA ve (updA va u x) :=
  ⟨A.e.far (p := ⟨bA, u, none⟩) A.ne x, four_set va hu x ▸ A.a.set u x, A.le, A.la⟩
theorem Hold.storeE (H : Hold W w p g q bn ve va e0 E at_ j) {ve' va' : Nat → Value} (A : Arr W w bE bA ve' va') (o : Nat) (y : Value) : Hold W (w.setCell ⟨bE, o, none⟩ y) p g q bn ve va e0 E at_ j :=
  H.store A.e A.le (by decide) (by decide) (by decide) (by decide) (by decide) o y
theorem Hold.storeA (H : Hold W w p g q bn ve va e0 E at_ j) {ve' va' : Nat → Value} (A : Arr W w bE bA ve' va') (o : Nat) (y : Value) : Hold W (w.setCell ⟨bA, o, none⟩ y) p g q bn ve va e0 E at_ j :=
  H.store A.a A.la (by decide) (by decide) (by decide) (by decide) (by decide) o y
end
/-- The loop of EpochHolds. -/
def HoldRel (W : World) (p g q bn bE bA len : Nat) (a i : Value) (wr : World) : Prop :=
  ∃ (j : Nat) (at_ E : Int) (ve va : Nat → Value) (e0 : En), i = .int .i64 j ∧ j ≤ len ∧ a = .int .i64 at_ ∧ Hold W wr p g q bn ve va e0 E at_ j ∧ Arr W wr bE bA ve va
end Go.Proofs.Ytngaokhlcdlpfaa
