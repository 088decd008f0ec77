/-
  StackWhole, proved for every n and every list of steps: whoever goes on when, each item is on the stack once, or in one machine's hands, or was got by one.
-/
import Derived.Test.YtalhbebpoohgkaaRows
import Derived.Test.YtalhbebpoohgkaaWholeLaws
import Derived.Test.YtalhbebpoohgkaaWholeFrame
import Derived.WalkKit
import Derived.ProofKit
import Derived.OpenShut
import Derived.ShutString
import Derived.ChangeOld
import Derived.Below
import Derived.Carry
import Derived.Lib.SmallJoins
import Derived.BigQuiet
import Derived.Deep.CutBlock
import Derived.Deep.CutRange
import Derived.Deep.DeepCutAuto
import Derived.Deep.QuietTactic
import Derived.LoopTactic
import Derived.OwnWalk
import Derived.StillTailTactics
import Derived.Deep.RegionLaw
namespace Go.Proofs.Ytalhbebpoohgkaa.stackWhole
open Go.ChangeShapes Go.WideShapes Go.ChangeAt Go.RowKit Go.Joins Go.Proofs.Ytalhbebpoohgkaa W64
open Go.ChangeMaps (open_string shut_string)
set_option linter.unusedVariables false

theorem own : ownKnob Try.prog.godebug = none := by kernel_rfl
theorem laidOut : laidOutB Try.prog = true := by kernel_rfl

/-- At the loop's head: behind k rounds. -/
def WRel (wB : World) (p g q n b1 b2 b3 b4 len : Nat) (i : Value) (wr : World) : Prop := ∃ (k t : Nat) (S : List Nat) (m : Nat → Stk.Mach) (has : Nat → List Nat) (vP vO vH vQ : Nat → Value) (oM : Nat → List Nat),
  i = .int .i64 k ∧ k ≤ len ∧ t ≤ k ∧ HD wB wr p g q n t S m has vP vO vH vQ oM ∧ AR wr b1 b2 b3 b4 vP vO vH vQ ∧ Up wB wB ∧ wB.heap.size ≤ wr.heap.size ∧ Else [p, g, b1, b2, b3, b4] wB wr
/-- Behind the switch. -/
def WAft (wB : World) (p g q n b1 b2 b3 b4 k : Nat) (wr : World) : Prop := ∃ (t : Nat) (S : List Nat) (m : Nat → Stk.Mach) (has : Nat → List Nat) (vP vO vH vQ : Nat → Value) (oM : Nat → List Nat),
  t ≤ k + 1 ∧ HD wB wr p g q n t S m has vP vO vH vQ oM ∧ AR wr b1 b2 b3 b4 vP vO vH vQ ∧ wB.heap.size ≤ wr.heap.size ∧ Else [p, g, b1, b2, b3, b4] wB wr
theorem row_wf {kd : IntKind} {w : World} {a : Option Addr} {len cap : Nat} {zs : List Int} (h : IsRow kd w a len cap zs) {k : Nat} (hk : k < len) : (Lit.int kd (zs.getD k 0)).wf = true := by
  rcases h with ⟨_, rfl, _, _⟩ | ⟨x, rfl, hl, hm, hz, hc, hw⟩
  · omega
  · exact hw _ (by simp [List.getD, show k < zs.length by omega])
theorem quo4 {z : Int} (h : (Lit.int .i64 z).wf = true) : IntKind.i64.wrap (z.tdiv 4) = z.tdiv 4 ∧ wrap64 (z.tdiv 4) = z.tdiv 4 := by
  have := W64.i64_in h
  have h2 : -9223372036854775808 ≤ z.tdiv 4 ∧ z.tdiv 4 < 9223372036854775808 := by
    rcases Int.le_total 0 z with h | h
    · rw [Int.tdiv_eq_ediv_of_nonneg h]; omega
    · have := Int.neg_tdiv z 4
      have e : z.tdiv 4 = -((-z).tdiv 4) := by rw [Int.neg_tdiv]; omega
      rw [e, Int.tdiv_eq_ediv_of_nonneg (by omega)]; omega
  exact ⟨IntWalk.i64_in _ (by omega), wrap64_in h2.1 h2.2⟩
theorem else6 {w w' : World} {p g b1 b2 b3 b4 : Nat} {wB : World} {x : List Nat} (E0 : Else [p, g, b1, b2, b3, b4] wB w) (E : Else x w w') (hx : ∀ j ∈ x, j ∈ [p, g, b1, b2, b3, b4] ∨ wB.heap.size ≤ j) : Else [p, g, b1, b2, b3, b4] wB w' :=
  ⟨E.os.trans E0.os, E.tape.trans E0.tape, E.output.trans E0.output, Nat.le_trans E0.size E.size, fun k hk hs => (E.block k (Nat.lt_of_lt_of_le hk E0.size) (fun h => by
    rcases hx k h with h | h
    · exact hs h
    · omega)).trans (E0.block k hk hs)⟩
theorem meet_of {wB wr : World} {p g q n b1 b2 b3 b4 k t : Nat} {S : List Nat} {m : Nat → Stk.Mach} {has : Nat → List Nat} {vP vO vH vQ : Nat → Value} {oM : Nat → List Nat} (D : HD wB wr p g q n t S m has vP vO vH vQ oM) (A : AR wr b1 b2 b3 b4 vP vO vH vQ) (E : Else [p, g, b1, b2, b3, b4] wB wr) (ht : t ≤ k + 1) : WAft wB p g q n b1 b2 b3 b4 k wr :=
  ⟨t, S, m, has, vP, vO, vH, vQ, oM, ht, D, A, E.size, E⟩
/-- Behind a Push's Step, done, its cells turned to nil. -/
theorem way_push {wB w w5 : World} {p g q n b1 b2 b3 b4 k t u b r : Nat} {s : St} {S S' : List Nat} {m : Nat → Stk.Mach} {has : Nat → List Nat} {vP vO vH vQ : Nat → Value} {oM : Nat → List Nat} (D : HD wB w p g q n t S m has vP vO vH vQ oM) (A5 : AR w5 b1 b2 b3 b4 vP vO vH vQ) (E0 : Else [p, g, b1, b2, b3, b4] wB w) (hu : u < 4) (ec : vO u = .pointer none) (eo : oM u = [b, r])
    (hB : b1 < wB.heap.size ∧ b4 < wB.heap.size ∧ p < b1 ∧ g < b1 ∧ q < b1 ∧ b1 < b4) (ht : t ≤ k) (E : Else [b, p, g] w w5) (Y : Sys w5 p g q n s (t + 1) S' (Stk.upd m u .idle) has) :
    WAft wB p g q n b1 b2 b3 b4 k ((w5.setCell ⟨b1, u, none⟩ (.pointer none)).setCell ⟨b4, u, none⟩ (.slice none 0 0)) := by
  have D5 := D.push_done hu ec eo E0.size E Y
  have E6 : Else [b1, b4] w5 ((w5.setCell ⟨b1, u, none⟩ (.pointer none)).setCell ⟨b4, u, none⟩ (.slice none 0 0)) := ((Else.refl [b1, b4] w5).set (.inl (by simp)) _).set (.inl (by simp)) _
  have bl := D.lt (j := b) hu (by rw [eo]; simp)
  obtain ⟨h1, h2, h3, h4, h5, h6⟩ := hB
  have D6 := D5.else E6 (by intro j hj; simp at hj; omega) (by simp; omega)
  exact meet_of D6 ((A5.setP hu _).setQ hu _) (else6 (else6 E0 E (by intro j hj; simp at hj ⊢; omega)) E6 (by intro j hj; simp at hj ⊢; omega)) (by omega)
def LRel (wc : World) (S : List Nat) (has : Nat → List Nat) (m : Nat → Stk.Mach) (v i : Value) (wr : World) : Prop := ∃ j : Nat, j ≤ 4 ∧ i = .int .i64 j ∧ Ints wr v (I (S ++ accL has m j)) ∧ Fresh wc v ∧ Up wc wr
theorem pop_far {wB w : World} {p g q n t u b c : Nat} {S : List Nat} {m : Nat → Stk.Mach} {has : Nat → List Nat} {vP vO vH vQ : Nat → Value} {oM : Nat → List Nat} {v : Value} (D : HD wB w p g q n t S m has vP vO vH vQ oM) (hu : u < 4) (eo : oM u = b :: v.ownBlock.toList) (hc : c < wB.heap.size) (h1 : c ≠ p) (h2 : c ≠ g) : c ∉ b :: (v.ownBlock.toList ++ [p, g]) := by
  intro h
  have key : ∀ j ∈ oM u, wB.heap.size ≤ j := fun j hj => (D.lt hu hj).1
  rw [eo] at key
  simp only [List.mem_cons, List.mem_append, List.not_mem_nil, or_false] at h key
  rcases h with h | h | h | h
  · have := key c (.inl h); omega
  · have := key c (.inr h); omega
  · exact h1 h
  · exact h2 h
theorem own_six {wB w : World} {p g q n t u b : Nat} {S : List Nat} {m : Nat → Stk.Mach} {has : Nat → List Nat} {vP vO vH vQ : Nat → Value} {oM : Nat → List Nat} {v : Value} (D : HD wB w p g q n t S m has vP vO vH vQ oM) (hu : u < 4) (eo : oM u = b :: v.ownBlock.toList) (b1 b2 b3 b4 : Nat) : ∀ j ∈ b :: (v.ownBlock.toList ++ [p, g]), j ∈ [p, g, b1, b2, b3, b4] ∨ wB.heap.size ≤ j := by
  intro j h
  have key : ∀ j ∈ oM u, wB.heap.size ≤ j := fun j hj => (D.lt hu hj).1
  rw [eo] at key
  simp only [List.mem_cons, List.mem_append, List.not_mem_nil, or_false] at h key ⊢
  rcases h with h | h | h | h
  · exact .inr (key j (.inl h))
  · exact .inr (key j (.inr h))
  · exact .inl (.inl h)
  · exact .inl (.inr (.inl h))
/-- Behind a Pop that is done, what it got appended to what one has. -/
theorem way_pop {wB w w5 w6 w7 : World} {p g q n b1 b2 b3 b4 k t t' u b : Nat} {s : St} {S S' l2 : List Nat} {m : Nat → Stk.Mach} {has : Nat → List Nat} {vP vO vH vQ : Nat → Value} {oM : Nat → List Nat} {v h : Value} (D : HD wB w p g q n t S m has vP vO vH vQ oM) (A7 : AR w7 b1 b2 b3 b4 vP vO vH vQ) (E0 : Else [p, g, b1, b2, b3, b4] wB w) (hu : u < 4) (em : Stk.puts (m u) = []) (ea : vP u = .pointer none) (eo : oM u = b :: v.ownBlock.toList)
    (hB : b1 < wB.heap.size ∧ b4 < wB.heap.size ∧ p < b1 ∧ g < b1 ∧ q < b1 ∧ b1 < b4) (hB2 : b1 < b2 ∧ b2 < b3 ∧ b3 < b4) (ht : t ≤ k) (ht' : t' ≤ t + 1) (E5 : Else (b :: (v.ownBlock.toList ++ [p, g])) w w5) (U6 : Up w5 w6) (G7 : w6.grownBy w7 (vH u).ownBlock) (J7 : Ints w7 h (I (has u ++ l2))) (a7 : h.ownBlock = (vH u).ownBlock ∨ h.ownBlock = some w6.heap.size)
    (Y5 : Sys w5 p g q n s t' S' (Stk.upd m u .idle) (Stk.upd has u (has u ++ l2))) :
    WAft wB p g q n b1 b2 b3 b4 k ((w7.setCell ⟨b3, u, none⟩ h).setCell ⟨b2, u, none⟩ (.pointer none)) := by
  obtain ⟨h1, h2, h3, h4, h5, h6⟩ := hB
  have EG := Else.of_grown G7
  have hvH : ∀ j ∈ (vH u).ownBlock.toList, wB.heap.size ≤ j := fun j hj => (D.hlt hu (by simpa using hj)).1
  have far : ∀ c, c < wB.heap.size → c ∉ (vH u).ownBlock.toList := fun c hc hin => by have := hvH c hin; omega
  have Y7 : Sys w7 p g q n s t' S' (Stk.upd m u .idle) (Stk.upd has u (has u ++ l2)) := ⟨((Y5.up U6).env).else EG (far _ (by omega)) (far _ (by omega)) (far _ (by omega)), Y5.len, Y5.gi⟩
  have ET : Else (b :: (v.ownBlock.toList ++ [p, g]) ++ (vH u).ownBlock.toList) w w7 :=
    ((E5.more (by intro j hj; exact List.mem_append_left _ hj)).up U6).trans (EG.more (by intro j hj; exact List.mem_append_right _ hj))
  have D7 := D.pop_done hu em ea E0.size ET (fun j hj => by
    rcases List.mem_append.1 hj with hj | hj
    · simp only [List.mem_cons, List.mem_append, List.not_mem_nil, or_false] at hj
      rw [eo]; simp only [List.mem_cons]
      rcases hj with h | h | h | h
      · exact .inl (.inl h)
      · exact .inl (.inr h)
      · exact .inr (.inr (by omega))
      · exact .inr (.inr (by omega))
    · exact .inr (.inl hj)) J7 (a7.imp id fun e => ⟨_, e, Nat.le_trans E5.size U6.size⟩) ⟨s, Y7⟩
  have E8 : Else [b3, b2] w7 ((w7.setCell ⟨b3, u, none⟩ h).setCell ⟨b2, u, none⟩ (.pointer none)) := ((Else.refl [b3, b2] w7).set (.inl (by simp)) _).set (.inl (by simp)) _
  have D8 := D7.else E8 (by intro j hj; simp at hj; omega) (by simp; omega)
  refine meet_of D8 ((A7.setH hu _).setO hu _) (else6 (else6 E0 ET (fun j hj => ?_)) E8 (by intro j hj; simp at hj ⊢; omega)) (by omega)
  rcases List.mem_append.1 hj with hj | hj
  · exact own_six D hu eo b1 b2 b3 b4 j hj
  · exact .inr (hvH j hj)
/-- Behind a new Pop. -/
theorem way_popnew {wB w w5 : World} {p g q n b1 b2 b3 b4 k t u b most : Nat} {S : List Nat} {m : Nat → Stk.Mach} {has : Nat → List Nat} {vP vO vH vQ : Nat → Value} {oM : Nat → List Nat} (D : HD wB w p g q n t S m has vP vO vH vQ oM) (A : AR w b1 b2 b3 b4 vP vO vH vQ) (E0 : Else [p, g, b1, b2, b3, b4] wB w) (hu : u < 4) (em : m u = .idle) (ea : vP u = .pointer none)
    (hB : b1 < wB.heap.size ∧ b4 < wB.heap.size ∧ p < b1 ∧ g < b1 ∧ q < b1 ∧ b1 < b4) (hB2 : b1 < b2 ∧ b2 < b3 ∧ b3 < b4) (ht : t ≤ k) (U5 : Up w w5) (hb : b = w.heap.size) (P : PopAt w5 b q (.slice none 0 0) [] most 0 0 (meth 52 b)) (m1 : 1 ≤ most) (m8 : most ≤ 8) :
    WAft wB p g q n b1 b2 b3 b4 k (w5.setCell ⟨b2, u, none⟩ (.pointer (some ⟨b, 0, none⟩))) := by
  obtain ⟨h1, h2, h3, h4, h5, h6⟩ := hB
  have hz := E0.size
  have E6 : Else [b2] w (w5.setCell ⟨b2, u, none⟩ (.pointer (some ⟨b, 0, none⟩))) := (Else.of_up U5).set (.inl (by simp)) _
  have P2 : PopM (w5.setCell ⟨b2, u, none⟩ (.pointer (some ⟨b, 0, none⟩))) b q (.slice none 0 0) [] most 0 0 0 := by
    have P3 : PopM w5 b q (.slice none 0 0) [] most 0 0 0 := ⟨P, by omega, by omega, m1, m8, by simp⟩
    exact P3.else ((Else.refl [b2] w5).set (.inl (by simp)) _) (by simp; omega) (fun j hj e => by simp [Value.ownBlock] at e)
  have D6 := D.pop_new hu em ea hz E6 (by intro j hj; simp at hj; omega) (by simp; omega) P2 (by omega)
  exact meet_of D6 ((A.up U5).setO hu _) (else6 E0 E6 (by intro j hj; simp at hj ⊢; omega)) (by omega)
/-- Behind a new Push. -/
theorem way_pushnew {wB w w6 w7 w10 : World} {p g q n b1 b2 b3 b4 k t u b r cap : Nat} {S l rr : List Nat} {m : Nat → Stk.Mach} {has : Nat → List Nat} {vP vO vH vQ : Nat → Value} {oM : Nat → List Nat} {v7 v8 : Value} (D : HD wB w p g q n t S m has vP vO vH vQ oM) (A : AR w10 b1 b2 b3 b4 (Stk.upd vP u (.pointer (some ⟨b, 0, none⟩))) vO (Stk.upd vH u v8) (Stk.upd vQ u v7)) (E0 : Else [p, g, b1, b2, b3, b4] wB w) (hu : u < 4) (em : m u = .idle) (ec : vO u = .pointer none)
    (hB : b1 < wB.heap.size ∧ b4 < wB.heap.size ∧ p < b1 ∧ g < b1 ∧ q < b1 ∧ b1 < b4) (hB2 : b1 < b2 ∧ b2 < b3 ∧ b3 < b4) (ht : t ≤ k) (U6 : Up w w6) (hb : w.heap.size ≤ b) (hr : w.heap.size ≤ r) (P : PushAt w6 b q (.slice (some ⟨r, 0, none⟩) l.length cap) l 0 0 (nxL b l.length 0)) (h0 : l ≠ []) (hh : has u = l ++ rr)
    (E : Else [b1, b4, b3] w6 w10) (J7 : Ints w10 v7 (I l)) (J8 : Ints w10 v8 (I rr)) (f7 : ∀ j, v7.ownBlock = some j → w6.heap.size ≤ j ∧ j < w7.heap.size) (f8 : ∀ j, v8.ownBlock = some j → w7.heap.size ≤ j) (h67 : w6.heap.size ≤ w7.heap.size) :
    WAft wB p g q n b1 b2 b3 b4 k w10 := by
  obtain ⟨h1, h2, h3, h4, h5, h6⟩ := hB
  have hz := E0.size
  have hbl := P.top.lt
  have hrl := P.row.lt (k := r) rfl
  have hbr : b ≠ r := fun e => P.away (by rw [e]; rfl)
  have P2 : PushM w10 b q (.slice (some ⟨r, 0, none⟩) l.length cap) l 0 0 := (P.begins h0).else E (by simp; omega) (fun j hj e => by simp [Value.ownBlock] at e hj; omega)
  have E6 : Else [b1, b4, b3] w w10 := (Else.of_up U6).trans E
  have D6 := D.push_new hu em ec hz hh h0 E6 (by intro j hj; simp at hj; omega) (by simp; omega) P2 J8 J7 ⟨hb, hr, hbr⟩ (fun j hj => by have := f8 j hj; exact ⟨by omega, by omega, by omega⟩)
    (fun j hj => by
      have := f7 j hj
      exact ⟨by omega, by omega, by omega, fun e => by have := f8 j e; omega⟩)
  exact meet_of D6 A (else6 E0 E6 (by intro j hj; simp at hj ⊢; omega)) (by omega)
theorem fresh_of {w : World} {v v' : Value} (h : v'.ownBlock = v.ownBlock ∨ v'.ownBlock = some w.heap.size) (hv : v.ownBlock = none) : ∀ j, v'.ownBlock = some j → w.heap.size ≤ j := by
  intro j hj
  rcases h with h | h
  · rw [h, hv] at hj; cases hj
  · rw [h] at hj; injection hj with hj; omega
theorem I_tk (l : List Nat) (c : Nat) : I (l.take c) = (I l).take c := by simp [I, List.map_take]
theorem I_dr (l : List Nat) (c : Nat) : I (l.drop c) = (I l).drop c := by simp [I, List.map_drop]
theorem Ints.shape {w : World} {v : Value} {xs : List Int} (h : Ints w v xs) : ∃ A N c, v = .slice A N c := by
  obtain ⟨A, c, e⟩ := h.slice
  exact ⟨A, _, c, e⟩
theorem fresh_nil (w : World) : Fresh w (.slice none 0 0) := fun k hk => by simp [Value.ownBlock] at hk
theorem size_set (w : World) (a : Addr) (v : Value) : w.heap.size ≤ (w.setCell a v).heap.size := (Below.setCell (Below.refl a.block w) (Nat.le_refl _) v).size
/-- The end of a new Push: three cells turned. -/
theorem end_pushnew {wB w w6 w7 w9 : World} {p g q n b1 b2 b3 b4 k t u b r cap : Nat} {S l rr : List Nat} {m : Nat → Stk.Mach} {has : Nat → List Nat} {vP vO vH vQ : Nat → Value} {oM : Nat → List Nat} {v7 v9 : Value} (D : HD wB w p g q n t S m has vP vO vH vQ oM) (A : AR w b1 b2 b3 b4 vP vO vH vQ) (E0 : Else [p, g, b1, b2, b3, b4] wB w) (hu : u < 4) (em : m u = .idle) (ec : vO u = .pointer none)
    (hB : b1 < wB.heap.size ∧ b4 < wB.heap.size ∧ p < b1 ∧ g < b1 ∧ q < b1 ∧ b1 < b4) (hB2 : b1 < b2 ∧ b2 < b3 ∧ b3 < b4) (ht : t ≤ k) (U6 : Up w w6) (hb : w.heap.size ≤ b) (hr : w.heap.size ≤ r) (P : PushAt w6 b q (.slice (some ⟨r, 0, none⟩) l.length cap) l 0 0 (nxL b l.length 0)) (h0 : l ≠ []) (hh : has u = l ++ rr)
    (U7 : Up w6 w7) (J7 : Ints w7 v7 (I l)) (f7 : ∀ j, v7.ownBlock = some j → w6.heap.size ≤ j) (U9 : Up ((w7.setCell ⟨b1, u, none⟩ (.pointer (some ⟨b, 0, none⟩))).setCell ⟨b4, u, none⟩ v7) w9) (J9 : Ints w9 v9 (I rr)) (f9 : ∀ j, v9.ownBlock = some j → ((w7.setCell ⟨b1, u, none⟩ (.pointer (some ⟨b, 0, none⟩))).setCell ⟨b4, u, none⟩ v7).heap.size ≤ j) :
    WAft wB p g q n b1 b2 b3 b4 k (w9.setCell ⟨b3, u, none⟩ v9) := by
  have hz := E0.size
  have z6 := U6.size
  have z7 := U7.size
  have zs : w7.heap.size ≤ ((w7.setCell ⟨b1, u, none⟩ (.pointer (some ⟨b, 0, none⟩))).setCell ⟨b4, u, none⟩ v7).heap.size := Nat.le_trans (size_set _ _ _) (size_set _ _ _)
  have A10 := ((((((A.up U6).up U7).setP hu (.pointer (some ⟨b, 0, none⟩))).setQ hu v7).up U9).setH hu v9)
  have E7 : Else [b1, b4, b3] w7 (w9.setCell ⟨b3, u, none⟩ v9) := ((((Else.refl _ w7).set (.inl (by simp)) _).set (.inl (by simp)) _).up U9).set (.inl (by simp)) _
  obtain ⟨h1, h2, h3, h4, h5, h6⟩ := id hB
  refine way_pushnew (w6 := w6) (w7 := w7) D A10 E0 hu em ec hB hB2 ht U6 hb hr P h0 hh ((Else.of_up U7).trans E7) (J7.else E7 (fun j hj e => by have := f7 j e; simp at hj; omega)) (J9.else ((Else.refl [b3] w9).set (.inl (by simp)) _) (fun j hj e => by have := f9 j e; simp at hj; omega)) (fun j hj => ⟨f7 j hj, J7.lt hj⟩) (fun j hj => Nat.le_trans zs (f9 j hj)) z7

set_option maxRecDepth 100000 in
set_option maxHeartbeats 2000000 in
theorem walk (a0 : Int) (a1 : Option Addr) (len1 cap1 : Nat) (z1 : List Int) (w : World) (w0 : (Lit.int .i64 a0).wf = true) (w1 : IsRow .i64 w a1 len1 cap1 z1) :
    Calls Try.prog 4 #[.int .i64 a0, .slice a1 len1 cap1] w fun e w' => e = .returned (.bool true) ∧ Up w w' := by
  have HR1 := Lib.hid w1
  have hl1 := row_len w1
  unfold maxLen at hl1
  clear w0 w1
  obtain ⟨x, hx, _, x0, x1⟩ := emod_letter a0 9 (by decide)
  obtain ⟨n, hn⟩ : ∃ n : Nat, 1 + x = n := ⟨(1 + x).toNat, by omega⟩
  have HX := Lib.hid hx
  have n0 : 1 ≤ n := by omega
  have n1 : n ≤ 9 := by omega
  have n2 : n ≤ 400 := by omega
  have HN := Lib.hid hn
  clear hx hn
  go_enter Try.func4, Try.ntmps4
  go_upto_region 4 with (first
    | (go_at_call 9; refine (first_any _).mono ?_; rintro e w1 ⟨rfl, U1⟩))
  have HU1 := Lib.hid U1
  clear U1
  by_cases h120 : 120 < len1
  · have i1 : (120 : Int) < (len1 : Int) := by omega
    go_wp2_with fail
    go_ret
    exact ⟨rfl, HU1.out⟩
  have i1 : ¬ (120 : Int) < (len1 : Int) := by omega
  go_upto_region 11 with (first
    | (go_at_call 10; (with_reducible refine (number_is HX.out (by decide) (by decide) _).mono ?_); rintro e w' ⟨rfl, rfl⟩)
    | (go_at_call 11; refine (table_in n HN.out (by omega) n2 _).mono ?_; rintro e w2 ⟨p, g, q, rfl, E2, hp, hg, hq, U2⟩; have HE2 := Lib.hid E2; have HU2 := Lib.hid U2; clear E2 U2)
    | (go_at_call 12; refine (fill_in HE2.out).mono ?_; rintro e w3 ⟨rfl, M3, X3⟩; have HX3 := Lib.hid X3; have HY3 := Lib.hid (sys_fill HE2.out M3 X3); clear M3 X3))
  rw [HN.out]
  go_wp2_with fail
  have gp := HE2.out.mem.top.lt
  have gg := HE2.out.mem.row.lt
  have gq := HE2.out.stk.lt
  have z3 := HX3.out.size
  have zu := HU1.out.size
  have HUB := Lib.hid ((((Up.alloc w3 (.cells (arr4 fun _ => .pointer none) 36)).then_alloc (.cells (arr4 fun _ => .pointer none) 38)).then_alloc (.cells (arr4 fun _ => .slice none 0 0) 43)).then_alloc (.cells (arr4 fun _ => .slice none 0 0) 43))
  have HAR : AR ((((w3.alloc (.cells (arr4 fun _ => .pointer none) 36)).alloc (.cells (arr4 fun _ => .pointer none) 38)).alloc (.cells (arr4 fun _ => .slice none 0 0) 43)).alloc (.cells (arr4 fun _ => .slice none 0 0) 43)) w3.heap.size (w3.heap.size + 1) (w3.heap.size + 1 + 1) (w3.heap.size + 1 + 1 + 1) (fun _ => .pointer none) (fun _ => .pointer none) (fun _ => .slice none 0 0) (fun _ => .slice none 0 0) := by
    refine ⟨?_, ?_, ?_, ?_, by omega⟩
    · exact (((Whole.new w3 _ _).alloc _).alloc _).alloc _
    · exact (((by simpa using Whole.new (w3.alloc (.cells (arr4 fun _ => .pointer none) 36)) 38 (arr4 fun _ => .pointer none)) : Whole _ (w3.heap.size + 1) _ _).alloc _).alloc _
    · exact ((by simpa using Whole.new ((w3.alloc (.cells (arr4 fun _ => .pointer none) 36)).alloc (.cells (arr4 fun _ => .pointer none) 38)) 43 (arr4 fun _ => .slice none 0 0)) : Whole _ (w3.heap.size + 1 + 1) _ _).alloc _
    · exact (by simpa using Whole.new (((w3.alloc (.cells (arr4 fun _ => .pointer none) 36)).alloc (.cells (arr4 fun _ => .pointer none) 38)).alloc (.cells (arr4 fun _ => .slice none 0 0) 43)) 43 (arr4 fun _ => .slice none 0 0))
  have zB : ((((w3.alloc (.cells (arr4 fun _ => .pointer none) 36)).alloc (.cells (arr4 fun _ => .pointer none) 38)).alloc (.cells (arr4 fun _ => .slice none 0 0) 43)).alloc (.cells (arr4 fun _ => .slice none 0 0) 43)).heap.size = w3.heap.size + 4 := by simp
  replace HAR := Lib.hid HAR
  unfold arr4 at HUB HAR zB
  generalize hwB : ((((w3.alloc (.cells #[.pointer none, .pointer none, .pointer none, .pointer none] 36)).alloc (.cells #[.pointer none, .pointer none, .pointer none, .pointer none] 38)).alloc (.cells #[.slice none 0 0, .slice none 0 0, .slice none 0 0, .slice none 0 0] 43)).alloc (.cells #[.slice none 0 0, .slice none 0 0, .slice none 0 0, .slice none 0 0] 43)) = wB at *
  clear hwB
  obtain ⟨b1, hb1⟩ : ∃ b, w3.heap.size = b := ⟨_, rfl⟩
  obtain ⟨b2, hb2⟩ : ∃ b, b1 + 1 = b := ⟨_, rfl⟩
  obtain ⟨b3, hb3⟩ : ∃ b, b2 + 1 = b := ⟨_, rfl⟩
  obtain ⟨b4, hb4⟩ : ∃ b, b3 + 1 = b := ⟨_, rfl⟩
  rw [hb1, hb2, hb3, hb4] at HAR ⊢
  have D0 : HD wB wB p g q n 0 (List.range n) (fun _ => .idle) (fun _ => []) (fun _ => .pointer none) (fun _ => .pointer none) (fun _ => .slice none 0 0) (fun _ => .slice none 0 0) (fun _ => []) :=
    ⟨⟨_, HY3.out.up HUB.out⟩, fun _ _ => .idle, fun _ _ => Ints.nil _, fun _ _ => Ints.nil _, fun _ _ k hk => by simp [ob, Value.ownBlock] at hk, fun _ _ => by simp [ob, Value.ownBlock], fun _ _ _ _ _ k hk => by simp [ob, Value.ownBlock] at hk, by omega, by omega, by omega⟩
  have HD0 := Lib.hid D0
  clear D0
  refine wp_loop (fun a w' => ∃ i, WHead (.slice a1 len1 cap1) n q b1 b2 b3 b4 i a ∧ WRel wB p g q n b1 b2 b3 b4 len1 i w') (WHeadMu len1) ?atStart ?round
  case atStart => exact ⟨_, ⟨rfl, rfl, rfl, rfl, rfl, rfl, rfl, rfl, rfl, rfl, rfl⟩, 0, 0, _, _, _, _, _, _, _, _, rfl, Nat.zero_le _, Nat.le_refl _, HD0.out, HAR.out, Up.refl _, Nat.le_refl _, Else.refl _ _⟩
  case round =>
    rintro a wr ⟨i, hd, k, t, S, m, has, vP, vO, vH, vQ, oM, rfl, hk, ht, D, A, _, hz, E⟩
    rw [hd.mu len1 wr]
    refine hd.wp ?_
    intro u0 u2 u3 u4 u7 u14 u15 u16 u17 u18 u19 u20 u21 u22 u23 u24 u25 u26 u27 u28 u29 u30 u31 u32 u33 u34 u35 u36 u37 u38 u39 u40 u41 u42 u43 u44 u45 u46 u47 u48 u49 u50 u51 u52 u53 u54 u55 u56 u57 u58 u59 u60 u61 u62 u63 u64 u65 u66 u67 u68 u69 u70 u71 u72 u73 u74 u75 u76 u77 u78 u79 u80 u81 u82 u83 u84 u85 u86 u87 u88 u89 u90 u91 u92 u93 u94 u95 u96 u97 u98 u99 u100 u101 u102 u103 u104 u105 u106 u107 u108 u109 u110 u111 u112 u113 u114 u115 u116 u117 u118 u119 u120 u121 u122 u123 u124 u125 u126 u127 u128 u129 u130 u131 u132 u133 u134 u135 u136 u137 u138 u139 u140 u141 u142 u143 u144 u145 u146 u147 u148 u149 u150 u151 u152 u153 u154 u155 u156 u157 u158 u159 u160 u161 u162 u163 u164 u165 u166 u167 u168 u169 u170 u171 u172 u173 u174 u175 u176 u177 u178 u179 u180 u181 u182 u183 u184
    clear hd
    have HD_ := Lib.hid D
    have HA := Lib.hid A
    have HE := Lib.hid E
    clear D A E HD0 HAR
    have i0 : (0 : Int) ≤ (k : Int) := Int.natCast_nonneg _
    by_cases hlt : k < len1
    · obtain ⟨b, off, rfl, hb, hc⟩ := row_cell HR1.out hlt
      have hc2 := HUB.out.kept (HX3.out.kept (p := ⟨b, off + k, none⟩) (HU2.out.kept (HU1.out.kept hc)) (by simp; omega))
      have hc3 := HE.out.kept (p := ⟨b, off + k, none⟩) hc2 (by simp; omega)
      clear hc hc2
      have hwf := row_wf HR1.out hlt
      generalize z1.getD k 0 = z at *
      obtain ⟨q1, q2⟩ := quo4 hwf
      clear hwf
      have i2 : (k : Int) < (len1 : Int) := by omega
      obtain ⟨u', hu', _, u0', u1'⟩ := emod_letter z 4 (by decide)
      obtain ⟨u, hu⟩ : ∃ u : Nat, u' = u := ⟨u'.toNat, by omega⟩
      subst hu
      have hu4 : u < 4 := by omega
      obtain ⟨c, hcc, _, c0, c1⟩ := emod_letter (Int.tdiv z 4) 64 (by decide)
      have HZ := Lib.hid hu'
      have HC := Lib.hid hcc
      clear hu' hcc u0' u1'
      go_upto_region 17 with fail
      go_quiet (first
        | (go_at_call 10; (with_reducible exact quiet_eq (number_is HZ.out (by decide) (by decide) _)))
        | (go_at_call 10; (with_reducible exact quiet_eq (number_is HC.out (by decide) (by decide) _))))
      have HD2 := Lib.hid (HD_.out.up (Up.drewN wr nq))
      have HA2 := Lib.hid (HA.out.up (Up.drewN wr nq))
      have HE2' := Lib.hid (HE.out.up (Up.drewN wr nq))
      clear hc3 HD_ HA HE
      go_upto_block 2 with fail
      generalize wr.drewN nq = wr at *
      have hord : b1 < wB.heap.size ∧ b4 < wB.heap.size ∧ p < b1 ∧ g < b1 ∧ q < b1 ∧ b1 < b4 := by omega
      have HO := Lib.hid hord
      clear hord
      have HB2 := Lib.hid (show b1 < b2 ∧ b2 < b3 ∧ b3 < b4 by omega)
      refine wp_cut (fun a' w' => WHead (.slice (some ⟨b, off, none⟩) len1 cap1) n q b1 b2 b3 b4 (.int .i64 k) a' ∧ WAft wB p g q n b1 b2 b3 b4 k w') ?rest ?first
      case first =>
        intro J Kx hJ hKx
        obtain ⟨k1, k2, k3, k4⟩ := HA2.out.cells hu4
        have f1 := HA2.out.aP.frozen u
        have f2 := HA2.out.aO.frozen u
        have f3 := HA2.out.aH.frozen u
        have f4 := HA2.out.aQ.frozen u
        have j0 : (0 : Int) ≤ (u : Int) := Int.natCast_nonneg _
        have j1 : (u : Int) < 4 := by omega
        have hz := HE2'.out.size
        rcases (HD2.out.hm u hu4).ways with ⟨em, ea, ec, eo⟩ | ⟨pb, pr, pk, pcap, pl, pi, pold, em, ea, ec, eo, P⟩ | ⟨pb, pv, pl, pmost, pi, pdeep, pold, em, ea, ec, eo, P⟩
        · rw [ea] at k1
          rw [ec] at k2
          have EA := Lib.hid ea
          have EC := Lib.hid ec
          have EO := Lib.hid eo
          have EM := Lib.hid em
          obtain ⟨Ah, Nh, ch, eh⟩ := Ints.shape (HD2.out.ih u hu4)
          rw [eh] at k3
          have HIH := HD2.out.ih u hu4
          rw [eh] at HIH
          have hcap := HIH.cap
          have hNl : Nh = (has u).length := by
            obtain ⟨A9, c9, e9⟩ := HIH.slice
            injection e9 with _ e9 _; rw [e9, I_len]
          have EH := Lib.hid eh
          have HI := Lib.hid HIH
          have HNL := Lib.hid hNl
          obtain ⟨z1, z2, z3, z4⟩ := HD2.out.small hu4
          clear ea ec eo em eh HIH hNl
          by_cases hnew : c % 2 = 1 ∧ 0 < Nh
          · obtain ⟨h1, hNp⟩ := hnew
            have e1 : c.tmod 2 = 1 := (Int.tmod_eq_emod_of_nonneg c0).trans h1
            have e2 : (0 : Int) < (Nh : Int) := by omega
            obtain ⟨e', he', _, e0', e1'⟩ := emod_letter (c.tdiv 2) Nh (by omega)
            obtain ⟨cc, hcc⟩ : ∃ cc : Nat, 1 + e' = cc := ⟨(1 + e').toNat, by omega⟩
            have cc1 : 1 ≤ cc := by omega
            have cc2 : cc ≤ Nh := by omega
            have HNM := Lib.hid he'
            have HCC := Lib.hid hcc
            clear he' hcc
            have q3 : 0 ≤ c.tdiv 2 := Int.tdiv_nonneg c0 (by decide)
            have q4 : c.tdiv 2 < 64 := by rw [Int.tdiv_eq_ediv_of_nonneg c0]; omega
            have d2 : (Nh : Int) < 9223372036854775808 := by have := HNL.out; omega
            go_upto_region 32 with (first
              | (go_at_call 10; (with_reducible refine (number_is HNM.out e2 d2 _).mono ?_); rintro e w' ⟨rfl, rfl⟩))
            rw [HCC.out]
            have hcH := run_cutHi Ah Nh ch cc (by omega)
            have hcL := run_cutLo Ah Nh ch cc (by omega)
            have HRH := Lib.hid (cutHi_rd (c := cc) HI.out.rd (by rw [I_len, ← HNL.out]; omega))
            have HRL := Lib.hid (cutLo_rd (c := cc) HI.out.rd (by rw [I_len, ← HNL.out]; omega) hcap)
            rw [← I_tk] at HRH
            rw [← I_dr] at HRL
            obtain ⟨s0, Y0⟩ := HD2.out.sys
            have HTD := Lib.hid (List.take_append_drop cc (has u)).symm
            have HGD := Lib.hid (Y0.good hu4 HTD.out)
            have HY0 := Lib.hid Y0
            have HNE : (has u).take cc ≠ [] := by
              intro e; have := congrArg List.length e
              rw [List.length_take, ← HNL.out] at this; simp at this; omega
            replace HNE := Lib.hid HNE
            have hown : ∀ j, (vH u).ownBlock = some j → wB.heap.size ≤ j ∧ j < wr.heap.size := fun j hj => HD2.out.hlt hu4 hj
            rw [EH.out] at hown
            have HOW := Lib.hid hown
            clear Y0 hown
            go_upto_region 35 with (first
              | (at_builtin; refine wpList_app (v := .slice none 0 0) rfl _ _ rfl rfl rfl (Ints.nil _) HRH.out (by rw [I_len, List.length_take, ← HNL.out]; simp; have := HNL.out; omega) ?_; intro v5 w5 J5 G5 A5; obtain ⟨A5v, N5, c5, rfl⟩ := Ints.shape J5; have HJ5 := Lib.hid J5; have HU5 := Lib.hid (up_app (Up.refl _) G5 (fresh_nil _)); clear J5 G5 A5)
              | (go_at_call 25; refine (spush_yes (HY0.out.up HU5.out).env HJ5.out.rd HNE.out HGD.out.1 (by have := HGD.out.2; omega)).mono ?_; rintro e w6 ⟨pb, pr, pcap, rfl, P6, hb6, hr6, U6⟩; have HP6 := Lib.hid P6; have HU6 := Lib.hid (HU5.out.trans U6); have HB6 := Lib.hid hb6; have HR6 := Lib.hid hr6; clear P6 U6 hb6 hr6))
            clear k1 k2 k3 k4 f1 f2 f3 f4
            have k3 := ((HA2.out.up HU6.out).cells hu4).2.2.1
            rw [EH.out] at k3
            go_region_law (first
              | (refine step_app (v := .slice none 0 0) (by rfl) _ _ (by rfl) (by rfl) (by rfl) (Ints.nil _) ((HRH.out.up HU6.out).up (up_drew _)) (by rw [I_len, List.length_take, ← HNL.out]; simp; have := HNL.out; omega) ?_; intro v7 w7 J7 G7 A7; obtain ⟨A7v, N7, c7, rfl⟩ := Ints.shape J7; have HJ7 := Lib.hid J7; have HU7 := Lib.hid (up_app (up_drew w6) G7 (fresh_nil _)); have HAT7 := Lib.hid (fresh_of A7 rfl); have HA7 := Lib.hid ((HA2.out.up HU6.out).up HU7.out); have y1 := (HA7.out.cells hu4).1; have g1 := HA7.out.aP.frozen u; have y4 := ((HA7.out.setP hu4 (.pointer (some ⟨pb, 0, none⟩))).cells hu4).2.2.2; have g4 := (HA7.out.setP hu4 (.pointer (some ⟨pb, 0, none⟩))).aQ.frozen u; clear J7 G7 A7))
            all_goals
              have HA8 := Lib.hid ((HA7.out.setP hu4 (.pointer (some ⟨pb, 0, none⟩))).setQ hu4 (.slice A7v N7 c7))
              clear k3
              have k3 := (HA8.out.cells hu4).2.2.1
              rw [EH.out] at k3
              have HR8 := Lib.hid (Rd.else ((HRL.out.up HU6.out).up HU7.out) (((Else.refl [b1, b4] w7).set (p := ⟨b1, u, none⟩) (.inl (by simp)) (.pointer (some ⟨pb, 0, none⟩))).set (p := ⟨b4, u, none⟩) (.inl (by simp)) (.slice A7v N7 c7)) (fun j hj e => by rw [cutLo_own] at e; have := (HOW.out j e).1; have := HO.out; simp at hj; omega))
              go_wp2_with (first
                | (at_builtin; refine wpList_app (v := .slice none 0 0) rfl _ _ rfl rfl rfl (Ints.nil _) HR8.out (by rw [I_len, List.length_drop, ← HNL.out]; simp; have := HNL.out; omega) ?_; intro v9 w9 J9 G9 A9; obtain ⟨A9v, N9, c9, rfl⟩ := Ints.shape J9; have HJ9 := Lib.hid J9; have HU9 := Lib.hid (up_app (Up.refl _) G9 (fresh_nil _)); have HAT9 := Lib.hid (fresh_of A9 rfl); have y3 := ((HA8.out.up HU9.out).cells hu4).2.2.1; have g3 := (HA8.out.up HU9.out).aH.frozen u; clear J9 G9 A9))
              refine Met.intro (hJ _ _ ⟨⟨rfl, rfl, rfl, rfl, rfl, rfl, rfl, rfl, rfl, rfl, rfl⟩, ?_⟩)
              exact end_pushnew HD2.out HA2.out HE2'.out hu4 EM.out EC.out HO.out HB2.out ht HU6.out (Nat.le_trans HU5.out.size HB6.out) (Nat.le_trans HU5.out.size HR6.out) HP6.out HNE.out HTD.out HU7.out HJ7.out (fun j hj => Nat.le_trans (up_drew w6).size (HAT7.out j hj)) HU9.out HJ9.out HAT9.out
          · obtain ⟨most, hmost, m1, m8⟩ : ∃ most : Nat, min (max (1 + c.tdiv 8) 1) 8 = (most : Int) ∧ 1 ≤ most ∧ most ≤ 8 := ⟨(min (max (1 + c.tdiv 8) 1) 8).toNat, by omega, by omega, by omega⟩
            have HMO := Lib.hid hmost
            clear hmost
            have q3 : 0 ≤ c.tdiv 8 := Int.tdiv_nonneg c0 (by decide)
            have q4 : c.tdiv 8 < 64 := by rw [Int.tdiv_eq_ediv_of_nonneg c0]; omega
            have hmod : c.tmod 2 = c % 2 := Int.tmod_eq_emod_of_nonneg c0
            by_cases h1 : c % 2 = 1
            · have e1 : c.tmod 2 = 1 := hmod.trans h1
              have e2 : ¬ (0 : Int) < (Nh : Int) := by omega
              clear hmod
              go_wp2_with (first
                | (go_at_call 26; refine (spop_in _ HMO.out).mono ?_; rintro e w5 ⟨rfl, P5, U5⟩; have HP5 := Lib.hid P5; have HU5 := Lib.hid U5; clear P5 U5; have y2 := ((HA2.out.up HU5.out).cells hu4).2.1; have g2 := (HA2.out.up HU5.out).aO.frozen u))
              refine Met.intro (hJ _ _ ⟨⟨rfl, rfl, rfl, rfl, rfl, rfl, rfl, rfl, rfl, rfl, rfl⟩, ?_⟩)
              exact way_popnew HD2.out HA2.out HE2'.out hu4 EM.out EA.out HO.out HB2.out ht HU5.out rfl HP5.out m1 m8
            · have e1 : (c.tmod 2 == 1) = false := by rw [hmod]; simpa using h1
              clear hmod
              go_wp2_with (first
                | (go_at_call 26; refine (spop_in _ HMO.out).mono ?_; rintro e w5 ⟨rfl, P5, U5⟩; have HP5 := Lib.hid P5; have HU5 := Lib.hid U5; clear P5 U5; have y2 := ((HA2.out.up HU5.out).cells hu4).2.1; have g2 := (HA2.out.up HU5.out).aO.frozen u))
              refine Met.intro (hJ _ _ ⟨⟨rfl, rfl, rfl, rfl, rfl, rfl, rfl, rfl, rfl, rfl, rfl⟩, ?_⟩)
              exact way_popnew HD2.out HA2.out HE2'.out hu4 EM.out EA.out HO.out HB2.out ht HU5.out rfl HP5.out m1 m8
        · rw [ea] at k1
          obtain ⟨s0, Y0⟩ := HD2.out.sys
          have HS := Lib.hid (pushStep_any Y0 hu4 em (by omega) P (HD2.out.apart hu4 (by rw [eo]; simp) (by intro j hj; simp [Value.ownBlock] at hj; rw [eo]; simp [hj])))
          have bl := HD2.out.lt (j := pb) hu4 (by rw [eo]; simp)
          have EA := Lib.hid ea
          have EC := Lib.hid ec
          have EO := Lib.hid eo
          have EM := Lib.hid em
          clear Y0 P ea ec eo em
          go_upto_region 23 with (first
            | (go_at_call 20; (with_reducible refine HS.out.mono ?_); rintro e w5 ⟨rfl, E5, O5⟩; have HE5 := Lib.hid E5; have HO5 := Lib.hid O5; clear E5 O5))
          have HA5 := Lib.hid (HA2.out.else HE5.out (by simp; omega) (by simp; omega) (by simp; omega) (by simp; omega))
          clear k1 k2 k3 k4 f1 f2 f3 f4
          obtain ⟨k1, k2, k3, k4⟩ := HA5.out.cells hu4
          have f1 := HA5.out.aP.frozen u
          have f4 := (HA5.out.setP hu4 (.pointer none)).aQ.frozen u
          have k4' := ((HA5.out.setP hu4 (.pointer none)).cells hu4).2.2.2
          rw [EA.out] at k1
          rcases HO5.out with ⟨f5, s5, i5, o5, c5, P5, Y5⟩ | ⟨s5, c5, Y5⟩
          · have C5 := Lib.hid c5
            have HY5 := Lib.hid Y5
            have HP5 := Lib.hid P5
            clear c5 Y5 P5
            go_wp2_with (first
              | (go_at_call 21; refine (pushDone_no C5.out).mono ?_; rintro e w6 ⟨rfl, rfl⟩))
            refine Met.intro (hJ _ _ ⟨⟨rfl, rfl, rfl, rfl, rfl, rfl, rfl, rfl, rfl, rfl, rfl⟩, ?_⟩)
            exact meet_of (HD2.out.push_go hu4 EM.out EA.out EC.out EO.out hz HE5.out HP5.out HY5.out) HA5.out (else6 HE2'.out HE5.out (by intro j hj; simp at hj ⊢; omega)) (by omega)
          · have C5 := Lib.hid c5
            have HY5 := Lib.hid Y5
            clear c5 Y5
            go_wp2_with (first
              | (go_at_call 21; refine (pushDone_yes C5.out).mono ?_; rintro e w6 ⟨rfl, rfl⟩))
            refine Met.intro (hJ _ _ ⟨⟨rfl, rfl, rfl, rfl, rfl, rfl, rfl, rfl, rfl, rfl, rfl⟩, ?_⟩)
            exact way_push HD2.out HA5.out HE2'.out hu4 EC.out EO.out HO.out ht HE5.out HY5.out
        · rw [ea] at k1
          rw [ec] at k2
          obtain ⟨s0, Y0⟩ := HD2.out.sys
          have HS := Lib.hid (popStep_any Y0 hu4 em rfl (by omega) P (HD2.out.apart hu4 (by rw [eo]; simp) (by intro j hj; rw [eo]; simp [hj])))
          have EA := Lib.hid ea
          have EC := Lib.hid ec
          have EO := Lib.hid eo
          have EM := Lib.hid (show Stk.puts (m u) = [] by rw [em]; rfl)
          clear Y0 P ea ec eo em
          go_upto_region 27 with (first
            | (go_at_call 22; (with_reducible refine HS.out.mono ?_); rintro e w5 ⟨rfl, E5, O5⟩; have HE5 := Lib.hid E5; have HO5 := Lib.hid O5; clear E5 O5))
          have HA5 := Lib.hid (HA2.out.else HE5.out (pop_far HD2.out hu4 EO.out (by omega) (by omega) (by omega)) (pop_far HD2.out hu4 EO.out (by omega) (by omega) (by omega)) (pop_far HD2.out hu4 EO.out (by omega) (by omega) (by omega)) (pop_far HD2.out hu4 EO.out (by omega) (by omega) (by omega)))
          clear k1 k2 k3 k4 f1 f2 f3 f4
          obtain ⟨k1, k2, k3, k4⟩ := HA5.out.cells hu4
          rw [EA.out] at k1
          rw [EC.out] at k2
          rcases HO5.out with ⟨f5, s5, v5, l5, i5, d5, o5, c5, P5, Y5, hv5⟩ | ⟨s5, v5, l5, d5, o5, S5, t5, ht5, P5, hl5, hn5, Y5⟩
          · have C5 := Lib.hid c5
            have HY5 := Lib.hid Y5
            have HP5 := Lib.hid P5
            have HV5 := Lib.hid hv5
            clear c5 Y5 P5 hv5
            go_wp2_with (first
              | (go_at_call 23; refine (popDone_no C5.out).mono ?_; rintro e w6 ⟨rfl, rfl⟩))
            refine Met.intro (hJ _ _ ⟨⟨rfl, rfl, rfl, rfl, rfl, rfl, rfl, rfl, rfl, rfl, rfl⟩, ?_⟩)
            exact meet_of (HD2.out.pop_go hu4 EM.out EA.out EC.out EO.out hz HE5.out HP5.out HV5.out HY5.out) HA5.out (else6 HE2'.out HE5.out (own_six HD2.out hu4 EO.out b1 b2 b3 b4)) (by omega)
          · have C5 := Lib.hid P5.cells.2.2.2.2.2
            have HY5 := Lib.hid Y5
            have HP5 := Lib.hid P5
            have HN5 := Lib.hid hn5
            clear Y5 P5 hn5
            have HIH := Lib.hid (HD2.out.ihK hu4 HE5.out (by
              intro j hj
              rw [EO.out]
              simp only [List.mem_cons, List.mem_append, List.not_mem_nil, or_false] at hj ⊢
              rcases hj with h | h | h | h
              · exact .inl (.inl h)
              · exact .inl (.inr h)
              · exact .inr (by omega)
              · exact .inr (by omega)))
            obtain ⟨z1, z2, z3, z4⟩ := HD2.out.small hu4
            have hvH : ∀ c, c < wB.heap.size → c ∉ (vH u).ownBlock.toList := fun c hc hin => by have := (HD2.out.hlt hu4 (by simpa using hin)).1; omega
            have HVH := Lib.hid hvH
            clear hvH
            go_upto_region 28 with (first
              | (go_at_call 23; refine (popDone_yes C5.out).mono ?_; rintro e w6 ⟨rfl, rfl⟩))
            go_region_law (first
              | (go_simp; go_at_call 24; (with_reducible refine (got_any (HP5.out.up (up_drew _)) rfl hl5 HN5.out).mono ?_); rintro e w6 ⟨v6, rfl, J6, F6, U6⟩; have HJ6 := Lib.hid J6; have HU6 := Lib.hid ((up_drew w5).trans U6); have k3' := ((HA5.out.up HU6.out).cells hu4).2.2.1; clear J6 F6 U6; go_wp2_with fail)
              | (refine step_app (by rfl) _ _ (by rfl) (by rfl) (by rfl) (HIH.out.up HU6.out) HJ6.out.rd (by rw [I_len, I_len]; omega) ?_; intro v7 w7 J7 G7 A7; obtain ⟨A7v, N7, c7, rfl⟩ := Ints.shape J7; have HJ7 := Lib.hid J7; have HG7 := Lib.hid G7; have HAT7 := Lib.hid A7; have HA7 := Lib.hid ((HA5.out.up HU6.out).else (Else.of_grown G7) (HVH.out _ (by omega)) (HVH.out _ (by omega)) (HVH.out _ (by omega)) (HVH.out _ (by omega))); have y3 := (HA7.out.cells hu4).2.2.1; have g3 := HA7.out.aH.frozen u; clear J7 G7 A7))
            all_goals
              clear k1 k2 k3 k4 k3'
              have y2 := ((HA7.out.setH hu4 (.slice A7v N7 c7)).cells hu4).2.1
              have g2 := (HA7.out.setH hu4 (.slice A7v N7 c7)).aO.frozen u
              go_wp2_with fail
              refine Met.intro (hJ _ _ ⟨⟨rfl, rfl, rfl, rfl, rfl, rfl, rfl, rfl, rfl, rfl, rfl⟩, ?_⟩)
              exact way_pop HD2.out HA7.out HE2'.out hu4 EM.out EA.out EO.out HO.out HB2.out ht ht5 HE5.out HU6.out HG7.out (by rw [I_app]; exact HJ7.out) HAT7.out HY5.out
      case rest =>
        rintro a wc ⟨hd, hcut⟩
        refine hd.k ?_
        intro u0 u2 u3 u4 u7 u14 u15 u16 u17 u18 u19 u20 u21 u22 u23 u24 u25 u26 u27 u28 u29 u30 u31 u32 u33 u34 u35 u36 u37 u38 u39 u40 u41 u42 u43 u44 u45 u46 u47 u48 u49 u50 u51 u52 u53 u54 u55 u56 u57 u58 u59 u60 u61 u62 u63 u64 u65 u66 u67 u68 u69 u70 u71 u72 u73 u74 u75 u76 u77 u78 u79 u80 u81 u82 u83 u84 u85 u86 u87 u88 u89 u90 u91 u92 u93 u94 u95 u96 u97 u98 u99 u100 u101 u102 u103 u104 u105 u106 u107 u108 u109 u110 u111 u112 u113 u114 u115 u116 u117 u118 u119 u120 u121 u122 u123 u124 u125 u126 u127 u128 u129 u130 u131 u132 u133 u134 u135 u136 u137 u138 u139 u140 u141 u142 u143 u144 u145 u146 u147 u148 u149 u150 u151 u152 u153 u154 u155 u156 u157 u158 u159 u160 u161 u162 u163 u164 u165 u166 u167 u168 u169 u170 u171 u172 u173 u174 u175 u176 u177 u178 u179 u180 u181 u182 u183 u184
        clear hd
        obtain ⟨t, S, m, has, vP, vO, vH, vQ, oM, ht, D, A, hz, E⟩ := hcut
        have HDc := Lib.hid D
        have HAc := Lib.hid A
        have HEc := Lib.hid E
        obtain ⟨sc, Yc⟩ := D.sys
        have HYc := Lib.hid Yc
        have HON := Lib.hid D.once
        clear D A E Yc HD2 HA2 HE2'
        go_upto_region 38 with (first
          | (go_at_call 18; refine (list_in HYc.out.env HYc.out.holds).mono ?_; rintro e w7 ⟨v7, rfl, J7, F7, U7⟩; have HJ7 := Lib.hid J7; have HF7 := Lib.hid F7; have HU7 := Lib.hid U7; clear J7 F7 U7))
        go_wp2_with fail
        go_loopw [19, 20] (fun v i wr => LRel wc S has m v i wr) (fun _ i _ => 4 - (intOf i).toNat)
        case atStart => exact ⟨0, by omega, rfl, by simpa [accL] using HJ7.out, HF7.out, HU7.out⟩
        case round =>
          obtain ⟨j, hj, rfl, J, F, U⟩ := hrel
          have HJ := Lib.hid J
          have HF := Lib.hid F
          have HU := Lib.hid U
          obtain ⟨L, hL⟩ : ∃ L, S ++ accL has m j = L := ⟨_, rfl⟩
          have HL := Lib.hid hL
          rw [hL] at HJ J
          obtain ⟨Av, cv, rfl⟩ := J.slice
          rw [I_len] at HJ HF ⊢
          clear J F U hL
          by_cases hj4 : j < 4
          · have j0 : (0 : Int) ≤ (j : Int) := Int.natCast_nonneg _
            have j1 : (j : Int) < 4 := by omega
            have HDr := Lib.hid (HDc.out.up HU.out)
            obtain ⟨k1, k2, k3, k4⟩ := (HAc.out.up HU.out).cells hj4
            obtain ⟨z1, z2, z3, z4⟩ := HDr.out.small hj4
            have z5 : L.length ≤ n + n := by rw [← HL.out, List.length_append]; omega
            have HRh := Lib.hid (HDr.out.ih j hj4)
            have HRq := Lib.hid (HDr.out.iq j hj4)
            have HAr := Lib.hid (HAc.out.up HU.out)
            go_upto_region 41 with fail
            clear k1 k2
            go_region_law (first
              | (refine step_app (by rfl) _ _ (by rfl) (by rfl) (by rfl) (HJ.out.up (up_drew _)) (HRh.out.rd.up (up_drew _)) (by rw [I_len, I_len]; omega) ?_; intro v8 w8 J8 G8 A8; have HJ8 := Lib.hid J8; have HU8 := Lib.hid (up_app (HU.out.trans (up_drew _)) G8 HF.out); have HF8 := Lib.hid (fresh_app HF.out (HU.out.trans (up_drew _)).size A8); have k4' := ((HAc.out.up HU8.out).cells hj4).2.2.2; clear J8 G8 A8)
              | (refine step_app (by rfl) _ _ (by rfl) (by rfl) (by rfl) HJ8.out (HDc.out.up HU8.out |>.iq j hj4 |>.rd) (by rw [List.length_append, I_len, I_len, I_len]; omega) ?_; intro v9 w9 J9 G9 A9; have HJ9 := Lib.hid J9; have HU9 := Lib.hid (up_app HU8.out G9 HF8.out); have HF9 := Lib.hid (fresh_app HF8.out HU8.out.size A9); clear J9 G9 A9))
            all_goals
              clear k3 k4
              go_wp2_with fail
              go_roundw
              case rel =>
                refine ⟨j + 1, by omega, by go_num, ?_, HF9.out, HU9.out⟩
                have := HJ9.out
                rw [← HL.out] at this
                simpa [accL, I_app] using this
              case measure => simp [intOf]; omega
          · have ej : j = 4 := by omega
            subst ej
            rw [HL.out] at HON
            have j1 : ¬ ((4 : Nat) : Int) < 4 := by omega
            go_wp2_with (first
              | (go_at_call 27; refine (once_yes HJ.out.rd HON.out.1 HON.out.2.1 HON.out.2.2 n2 rfl).mono ?_; rintro e w9 ⟨rfl, U9⟩; have HU9 := Lib.hid (HU.out.trans U9); clear U9))
            refine ⟨⟨_, ⟨rfl, rfl, rfl, rfl, rfl, rfl, rfl, rfl, rfl, rfl, rfl⟩, k + 1, t, S, m, has, vP, vO, vH, vQ, oM, by go_num, by omega, by omega, HDc.out.up HU9.out, HAc.out.up HU9.out, Up.refl _, Nat.le_trans hz HU9.out.size, HEc.out.up HU9.out⟩, ?_⟩
            simp [WHeadMu, intOf]; omega
    · have i2 : ¬ (k : Int) < (len1 : Int) := by omega
      go_wp2_with fail
      go_ret
      refine ⟨rfl, Else.up_new (HU1.out.trans HU2.out) (s := [p, g, b1, b2, b3, b4]) ((HX3.out.more (by intro j hj; simp at hj ⊢; omega)).trans ((Else.of_up HUB.out).trans HE.out)) (by intro j hj; simp at hj; omega)⟩

set_option maxRecDepth 100000 in
theorem lifted (os : Os) (started : os.Started) (H : Type) (enc : TypeId × Value → H) :
    ReturnsInHanded {} Try.checked os 4 .any (Rows.stackWholeSpec.pre6 enc Try.prog Try.f4 Rows.stackWholeRow.domain false) (Rows.stackWholeSpec.post enc Try.prog Try.f4 false true false false) := by
  refine returnsInHanded_of_change (C := Try.checked) own started (by kernel_rfl) Try.func4
    (ChangeSpec.witness6 (enc := enc) (C := Try.checked) false ⟨#[], #[.int .i64 0, .slice none 0 0], []⟩ 8 (by kernel_rfl) (by kernel_rfl) (by kernel_rfl) (by kernel_rfl)) ?_
  intro W base args ds gs before hval0 hW hcnd _
  have hval : ∀ (j : Nat) t v, Try.f4.params[j]? = some t → args[j]? = some v → Value.okWide Try.prog W .any base t v := hval0
  have hW' := hW
  obtain ⟨p, q, hA0, hV, rfl, hfz, hnd⟩ := hW
  have hA : DataW.TrodAll enc Try.prog W 0 (fun _ => true) true Try.f4.params.toList args.toList ds p := hA0
  rw [Try.params4] at hA hval
  obtain ⟨v0, vs0, d0, ds0, p0, q0, hargs, rfl, rfl, h0, r0⟩ := trodAll_cons hA
  obtain ⟨v1, vs1, d1, ds1, p1, q1, rfl, rfl, rfl, h1, r1⟩ := trodAll_cons r0
  obtain ⟨rfl, rfl, rfl⟩ := trodAll_nil r1
  obtain rfl : args = #[v0, v1] := by cases args; simp_all
  obtain ⟨rfl, rfl⟩ := trodVars_none hV
  have k0 := h0
  have lt0 : ∀ x ∈ p0, x.block < W.heap.size := by obtain ⟨m, hm⟩ := k0; exact DataW.trod_lt m _ _ _ hm
  obtain ⟨a0, rfl, rfl, rfl, w0⟩ := open_int Try.underlying3 (hval 0 3 v0 rfl rfl) h0
  have k1 := h1
  have lt1 : ∀ x ∈ p1, x.block < W.heap.size := by obtain ⟨m, hm⟩ := k1; exact DataW.trod_lt m _ _ _ hm
  obtain ⟨a1, len1, cap1, rfl⟩ := okWide_slice Try.underlying22 (hval 1 22 v1 rfl rfl)
  obtain ⟨z1, w1⟩ : ∃ zs, IsRow .i64 W a1 len1 cap1 zs := by
    obtain ⟨fuel, hf⟩ := h1
    rcases open_ints Try.underlying22 Try.underlying3 (by kernel_rfl) hf with ⟨hcs, _⟩ | ⟨x, l, c, zs, hcs, _, hl, hm, hz, _, hcell, hwz⟩
    · simp [Value.cells] at hcs
      obtain ⟨rfl, rfl, rfl⟩ := hcs
      exact ⟨[], .inl ⟨rfl, rfl, rfl, rfl⟩⟩
    · simp [Value.cells] at hcs
      obtain ⟨rfl, rfl, rfl⟩ := hcs
      exact ⟨zs, .inr ⟨_, rfl, hl, hm, by simpa using hz, hcell, hwz⟩⟩
  clear hA0 hval0
  refine (walk a0 a1 len1 cap1 z1 W w0 w1).mono fun e W' ⟨he, bel⟩ => ?_
  subst he
  exact ⟨_, rfl, _, _, _, [], _, [], hW', trodAll_mk1 (shut_bool Try.underlying4 _), (trodAll_cons_mk (Below.trod laidOut (by kernel_rfl) (of_decide_eq_true (by kernel_rfl)) k0 bel lt0) (trodAll_cons_mk (Below.trod laidOut (by kernel_rfl) (of_decide_eq_true (by kernel_rfl)) k1 bel lt1) trodAll_mk0)), rfl, Below.frame bel _, fun h => by cases h⟩

theorem over : Rows.stackWholeRow.holds Try.pinned (OpenSpec.ofChange Rows.stackWholeSpec) :=
  OpenClaim.holds_of_wide 4 Try.f4 rfl rfl rfl rfl rfl rfl rfl ⟨rfl, rfl, rfl, rfl, rfl⟩ rfl rfl rfl rfl rfl (by kernel_rfl) Try.func4 (by kernel_rfl)
    (of_decide_eq_true (by kernel_rfl)) (by unfold Func.isWrapper; first | (rw [if_pos (by decide +kernel)]; kernel_rfl) | (rw [if_neg (by decide +kernel)]; exact ⟨rfl, rfl⟩))
    (fun os started H enc _ => lifted os started H enc)

/-- THE STATEMENT -/
theorem proved : Rows.StackWholeSaid := over
#print axioms proved
end Go.Proofs.Ytalhbebpoohgkaa.stackWhole
