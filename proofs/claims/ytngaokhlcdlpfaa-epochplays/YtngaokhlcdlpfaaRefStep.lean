/-
  The reference's machines told by plain data (En, Ad), over a memory of its own (RSit).
-/
import Derived.Test.YtngaokhlcdlpfaaRefEpoch2
namespace Go.Proofs.Ytngaokhlcdlpfaa
open Go.RowKit
open W64
set_option maxRecDepth 100000
structure REnM (w : World) (b q wk : Nat) (e : En) : Prop where
  row : Whole w b 84 (renRow q wk (min e.i 1) e.ep (decide (e.i = 2)))
  pin : e.i = 1 → pinB e.ep = true
structure RLeM (w : World) (b q wk : Nat) (d : Bool) : Prop where
  row : Whole w b 100 (rleRow q wk d)
structure RAdM (w : World) (b q n : Nat) (a : Ad) : Prop where
  row : Whole w b 86 (radRow q a.i a.old a.won a.fin)
  o0 : 0 ≤ a.old
  top : a.fin = false → a.i ≤ n + 1
structure RSit (W w : World) (p g q n : Nat) (xs : List Int) (c : Int) : Prop where
  epo : REpo w p g q 0 1 n xs c
  lp : W.heap.size ≤ p
  lg : W.heap.size ≤ g
  lq : W.heap.size ≤ q
structure RWent (W w : World) (p g q n b : Nat) (xs : List Int) (c : Int) (M : World → Prop) (w' : World) : Prop where
  sit : RSit W w' p g q n xs c
  mach : M w'
  rest : Else [b, p, g] w w'
section
variable {W w w' : World} {p g q n b wk : Nat} {xs : List Int} {c : Int} {e : En} {a : Ad} {d : Bool}
theorem REnM.else (P : REnM w b q wk e) {x : List Nat} (u : Else x w w') (h : b ∉ x) : REnM w' b q wk e := ⟨u.whole P.row h, P.pin⟩
theorem RLeM.else (P : RLeM w b q wk d) {x : List Nat} (u : Else x w w') (h : b ∉ x) : RLeM w' b q wk d := ⟨u.whole P.row h⟩
theorem RAdM.else (P : RAdM w b q n a) {x : List Nat} (u : Else x w w') (h : b ∉ x) : RAdM w' b q n a := ⟨u.whole P.row h, P.o0, P.top⟩
theorem RSit.else (S : RSit W w p g q n xs c) {l : List Nat} (u : Else l w w') (hs : p ∉ l ∧ g ∉ l ∧ q ∉ l) : RSit W w' p g q n xs c := ⟨S.epo.else u hs.1 hs.2.1 hs.2.2, S.lp, S.lg, S.lq⟩
theorem RSit.ups (S : RSit W w p g q n xs c) (u : Up w w') : RSit W w' p g q n xs c := ⟨S.epo.up u, S.lp, S.lg, S.lq⟩
theorem renStep (S : RSit W w p g q n xs c) (A : Off b p g q) (hw : wk < n) (P : REnM w b q wk e) (h : e.i < 2) :
    Calls Try.prog 33 #[.pointer (some ⟨b, 0, none⟩)] w fun r w' => r = .returned (.bool true) ∧ RWent W w p g q n b (e.xs 1 wk xs) (wrap64 (c + 1)) (fun w' => REnM w' b q wk (e.go 0 xs)) w' := by
  obtain ⟨i, ep⟩ := e
  have hr := P.row
  dsimp only at h hr
  have E := S.epo
  rcases (show i = 0 ∨ i = 1 by omega) with rfl | rfl
  · refine (renter_load E A hr rfl).mono ?_
    rintro r w1 ⟨rfl, R1, M1, E1⟩
    exact ⟨rfl, ⟨E.turn M1 E1 (E.q3 A) E.ok rfl, S.lp, S.lg, S.lq⟩, ⟨R1, fun _ => epN_pin (E.ok 0).1⟩, E1⟩
  · have ho := pinV_in ep
    refine (renter_store E A hw hr (P.pin rfl) rfl).mono ?_
    rintro r w1 ⟨rfl, R1, M1, E1⟩
    exact ⟨rfl, ⟨E.turn M1 E1 (E.q3 A) (ok_set E.ok _ ho.1 ho.2) List.length_set, S.lp, S.lg, S.lq⟩, ⟨R1, by simp [En.go]⟩, E1⟩
theorem rleStep (S : RSit W w p g q n xs c) (A : Off b p g q) (hw : wk < n) (P : RLeM w b q wk false) :
    Calls Try.prog 35 #[.pointer (some ⟨b, 0, none⟩)] w fun r w' => r = .returned (.bool true) ∧ RWent W w p g q n b (xs.set (1 + wk) 0) (wrap64 (c + 1)) (fun w' => RLeM w' b q wk true) w' := by
  have E := S.epo
  refine (rleave_store E A hw P.row).mono ?_
  rintro r w1 ⟨rfl, R1, M1, E1⟩
  exact ⟨rfl, ⟨E.turn M1 E1 (E.q3 A) (ok_set E.ok _ (by decide) (by decide)) List.length_set, S.lp, S.lg, S.lq⟩, ⟨R1⟩, E1⟩
theorem radStep (S : RSit W w p g q n xs c) (A : Off b p g q) (P : RAdM w b q n a) (h : a.fin = false) :
    Calls Try.prog 37 #[.pointer (some ⟨b, 0, none⟩)] w fun r w' => r = .returned (.bool true) ∧ RWent W w p g q n b (a.xs 0 n xs) (wrap64 (c + 1)) (fun w' => RAdM w' b q n (a.go 0 1 n xs)) w' := by
  obtain ⟨i, old, won, fin⟩ := a
  obtain ⟨hr, o0, top⟩ := P
  dsimp only at h hr o0 top
  subst h
  have hi := top rfl
  have E := S.epo
  have hn1 := E.n1
  by_cases h0 : i = 0
  · subst h0
    have e1 : Ad.xs 0 n xs ⟨0, old, won, false⟩ = xs := by unfold Ad.xs; rw [if_neg (by simp)]
    have e2 : Ad.go 0 1 n xs ⟨0, old, won, false⟩ = ⟨1, xs.getD 0 0, won, false⟩ := by simp [Ad.go]
    rw [e1, e2]
    refine (radv_load E A hr rfl).mono ?_
    rintro r w1 ⟨rfl, R1, M1, E1⟩
    exact ⟨rfl, ⟨E.turn M1 E1 (E.q3 A) E.ok rfl, S.lp, S.lg, S.lq⟩, ⟨R1, (E.ok 0).1, fun _ => by simp⟩, E1⟩
  · by_cases h1 : i ≤ n
    · have e1 : Ad.xs 0 n xs ⟨i, old, won, false⟩ = xs := by unfold Ad.xs; rw [if_neg (by dsimp only; omega)]
      have e2 : Ad.go 0 1 n xs ⟨i, old, won, false⟩ = ⟨i + 1, old, won, Ad.bar 1 xs ⟨i, old, won, false⟩⟩ := by simp [Ad.go, h0, h1]
      rw [e1, e2]
      refine (radv_pin E A h0 h1 o0 hr).mono ?_
      rintro r w1 ⟨rfl, R1, M1, E1⟩
      exact ⟨rfl, ⟨E.turn M1 E1 (E.q3 A) E.ok rfl, S.lp, S.lg, S.lq⟩, ⟨R1, o0, fun _ => by dsimp only; omega⟩, E1⟩
    · by_cases h2 : xs.getD 0 0 = old
      · have hu := upN_in old
        have e1 : Ad.xs 0 n xs ⟨i, old, won, false⟩ = xs.set 0 (upN old) := by unfold Ad.xs; rw [if_pos ⟨by dsimp only; omega, h2⟩]
        have e2 : Ad.go 0 1 n xs ⟨i, old, won, false⟩ = ⟨i + 1, old, true, true⟩ := by
          unfold Ad.go; dsimp only; rw [if_neg h0, if_neg h1, decide_eq_true h2]
        rw [e1, e2]
        refine (radv_turn E A (by omega) (by omega) hr (fun m => rcas_yes (upN old) m E.ha h2)).mono ?_
        rintro r w1 ⟨rfl, R1, M1, E1⟩
        exact ⟨rfl, ⟨E.turn M1 E1 (E.q3 A) (ok_set E.ok _ hu.1 hu.2) List.length_set, S.lp, S.lg, S.lq⟩, ⟨R1, o0, by simp⟩, E1⟩
      · have e1 : Ad.xs 0 n xs ⟨i, old, won, false⟩ = xs := by unfold Ad.xs; rw [if_neg (fun h => h2 h.2)]
        have e2 : Ad.go 0 1 n xs ⟨i, old, won, false⟩ = ⟨i + 1, old, false, true⟩ := by
          unfold Ad.go; dsimp only; rw [if_neg h0, if_neg h1, decide_eq_false h2]
        rw [e1, e2]
        refine (radv_turn E A (by omega) (by omega) hr (fun m => rcas_no (upN old) m E.ha h2)).mono ?_
        rintro r w1 ⟨rfl, R1, M1, E1⟩
        exact ⟨rfl, ⟨E.turn M1 E1 (E.q3 A) E.ok rfl, S.lp, S.lg, S.lq⟩, ⟨R1, o0, by simp⟩, E1⟩
theorem rnow_to (S : RSit W w p g q n xs c) {y : Int} (hy : epN (xs.getD 0 0) = y) :
    Calls Try.prog 19 #[.pointer (some ⟨q, 0, none⟩)] w fun r w' => r = .returned (.int .i64 y) ∧ Up w w' := rnow_any S.epo hy
end
end Go.Proofs.Ytngaokhlcdlpfaa
