/-
  One access of a machine, with what the cells hold behind it (by genboth.py, out of Sys).
-/
import Derived.Test.YtalhbebpoohgkaaRefList
namespace Go.Proofs.Ytalhbebpoohgkaa
open Go.RowKit
open W64
set_option maxRecDepth 100000
/-- What the cells hold behind a Push's access that is no exchange. -/
def pushXs (n : Nat) (xs : List Int) (l : List Nat) (i : Nat) (old : Int) : List Int :=
  if i + 1 < l.length then xs.set (2 + l.getD i 0) ((l.getD (i + 1) 0 : Nat) + 1) else if i + 1 = l.length then xs else xs.set (2 + l.getD (l.length - 1) 0) (topN n old + 1)
section
variable {w w' : World} {p g q n t b : Nat} {s s' : St} {S : List Nat} {m : Nat → Stk.Mach} {has : Nat → List Nat} {l : List Nat} {i most : Nat} {old deep : Int} {v nx : Value}
theorem push_goX (Y : Sys w p g q n s t S m has) {u : Nat} (hu : u < 4) (e : m u = .push l i old) (hi : i ≤ l.length) (P : PushM w b q v l i old) (A : Apart b p g q v) :
    Calls Try.prog 20 #[.pointer (some ⟨b, 0, none⟩)] w fun e w' => e = .returned (.bool true) ∧ ∃ s', (s'.c = wrap64 (s.c + 1) ∧ s'.xs = pushXs n s.xs l i old) ∧ Stk.hdOf s'.xs = Stk.hdOf s.xs ∧ PushM w' b q v l (i + 1) (if i + 1 = l.length then Stk.hdOf s.xs else old) ∧ Sys w' p g q n s' t S (Stk.upd m u (.push l (i + 1) (if i + 1 = l.length then Stk.hdOf s.xs else old))) has ∧ Else [b, p, g] w w' := by
  obtain ⟨hn, hl0, _⟩ := GI.puts_lt Y.gi hu e
  have hl8 : l.length ≤ 8192 := by have := GI.push_len Y.gi hu e; have := Y.env.n1; omega
  have lp := List.length_pos_iff.2 hl0
  have hok := Y.env.ok
  have n1 := Y.env.n1
  obtain ⟨P, hb0, hb1⟩ := P
  have c4 := P.cells.2.2.2.2
  by_cases h1 : i + 1 < l.length
  · have e1 : pushNx b l.length i = meth 63 b := by unfold pushNx; rw [if_pos h1]
    have em : min i (l.length - 1) = i := by omega
    rw [em, e1] at P
    rw [e1] at c4
    refine (pushStep_link c4 (push_link Y.env P A h1 hn hl8)).mono ?_
    rintro e w' ⟨rfl, P', M', E'⟩
    have m0 := hn _ (Stk.getD_mem (show i < l.length by omega))
    have m1 := hn _ (Stk.getD_mem (show i + 1 < l.length by omega))
    have hne : ¬ i + 1 = l.length := by omega
    have hlen := Y.len
    refine ⟨rfl, _, ⟨rfl, by rw [hit_lk]; unfold pushXs; rw [if_pos h1]⟩, ?_, ?_, Y.turn M' E' (apart_q A Y.env) (hok.hit _ _ _ (by omega) (by omega)) (hit_len _ _ _ _ _) ?_, E'⟩
    · rw [hit_lk, Stk.hdOf_set_link]
    · unfold PushM
      rw [nxL_is h1] at P'
      rw [if_neg hne, show min (i + 1) (l.length - 1) = i + 1 by omega]; exact ⟨P', hb0, hb1⟩
    · rw [hit_lk, Stk.hdOf_set_link, Stk.lkOf_set_link (by omega), if_neg hne]
      exact Y.gi.push_store hu e h1
  · by_cases h2 : i + 1 = l.length
    · have e1 : pushNx b l.length i = meth 64 b := by unfold pushNx; rw [if_neg h1, if_pos h2]
      have em : min i (l.length - 1) = i := by omega
      rw [em, e1] at P
      rw [e1] at c4
      refine (pushStep_load c4 (push_load Y.env P A)).mono ?_
      rintro e w' ⟨rfl, P', M', E'⟩
      have hg := hok ((0 : Nat) : Int)
      refine ⟨rfl, _, ⟨rfl, by rw [read_xs]; unfold pushXs; rw [if_neg h1, if_pos h2]⟩, ?_, ?_, Y.turn M' E' (apart_q A Y.env) (hok.hit _ _ _ hg.1 hg.2) (hit_len _ _ _ _ _) ?_, E'⟩
      · rw [read_xs]
      · unfold PushM
        rw [if_pos h2, show min (i + 1) (l.length - 1) = i by omega]
        have e3 : pushNx b l.length (i + 1) = meth 72 b := by unfold pushNx; rw [if_neg (by omega), if_neg (by omega), if_pos h2]
        rw [e3]; exact ⟨P', hg.1, hg.2⟩
      · rw [read_xs, if_pos h2]
        exact Y.gi.push_load hu e h2
    · have h3 : i = l.length := by omega
      have e1 : pushNx b l.length i = meth 72 b := by unfold pushNx; rw [if_neg h1, if_neg h2, if_pos h3]
      have em : min i (l.length - 1) = l.length - 1 := by omega
      rw [em, e1] at P
      rw [e1] at c4
      have K := Y.gi.ok u hu
      rw [e] at K
      obtain ⟨_, _, _, K4, _⟩ := K
      obtain ⟨_, K6, K7⟩ := K4 (by omega)
      have hT : topN n old + 1 = old % 4294967296 := by unfold topN; rw [if_neg (by omega)]; omega
      have hne : ¬ i + 1 = l.length := by omega
      have m0 := hn _ (Stk.getD_mem (show l.length - 1 < l.length by omega))
      have hlen := Y.len
      refine (pushStep_last c4 (push_last Y.env P A hl0 hn hl8 hb0 hb1)).mono ?_
      rintro e w' ⟨rfl, P', M', E'⟩
      rw [hT] at M'
      refine ⟨rfl, _, ⟨rfl, by rw [hit_lk]; unfold pushXs; rw [if_neg h1, if_neg h2, hT]⟩, ?_, ?_, Y.turn M' E' (apart_q A Y.env) (hok.hit _ _ _ (by omega) (by omega)) (hit_len _ _ _ _ _) ?_, E'⟩
      · rw [hit_lk, Stk.hdOf_set_link]
      · unfold PushM
        rw [if_neg hne, show min (i + 1) (l.length - 1) = l.length - 1 by omega]
        have e3 : pushNx b l.length (i + 1) = meth 80 b := by unfold pushNx; rw [if_neg (by omega), if_neg (by omega), if_neg (by omega)]
        rw [e3]; exact ⟨P', hb0, hb1⟩
      · rw [hit_lk, Stk.hdOf_set_link, Stk.lkOf_set_link (by omega), if_neg hne]
        have := Y.gi.push_link hu e h3
        rw [h3] at this ⊢
        exact this
theorem push_doneX (Y : Sys w p g q n s t S m has) {u : Nat} (hu : u < 4) (e : m u = .push l i old) (hi : i = l.length + 1) (ho : old = Stk.hdOf s.xs) (ht : t < 4294967295) (P : PushM w b q v l i old) (A : Apart b p g q v) :
    Calls Try.prog 20 #[.pointer (some ⟨b, 0, none⟩)] w fun e w' => e = .returned (.bool true) ∧ ∃ s', (s'.c = wrap64 (s.c + 1) ∧ s'.xs = s.xs.set 0 (nextW (Stk.hdOf s.xs) (l.getD 0 0 : Nat))) ∧ w'.cell? ⟨b, 4, none⟩ = some .nilFunc ∧ Sys w' p g q n s' (t + 1) (l ++ S) (Stk.upd m u .idle) has ∧ Else [b, p, g] w w' := by
  obtain ⟨hn, hl0, _⟩ := GI.puts_lt Y.gi hu e
  have lp := List.length_pos_iff.2 hl0
  have hok := Y.env.ok
  obtain ⟨P, hb0, hb1⟩ := P
  rw [pushNx_turn hi] at P
  have m0 := hn _ (Stk.getD_mem lp)
  have hN := Y.next ht (x := (l.getD 0 0 : Nat)) (by omega) (by omega)
  refine (pushStep_turn P.cells.2.2.2.2 (push_turn Y.env P A hl0 (c := true) (fun E1 => sturn_yes E1 (by omega) (by omega) (by rw [get_hd]; exact ho.symm)))).mono ?_
  rintro e1 w' ⟨rfl, P', M', E'⟩
  rw [ho] at M'
  have hnx := nextW_in (Stk.hdOf s.xs) (l.getD 0 0 : Nat)
  refine ⟨rfl, _, ⟨rfl, hit_hd _ _ _ _⟩, P'.cells.2.2.2.2, Y.turn M' E' (apart_q A Y.env) (hok.hit _ _ _ hnx.1 hnx.2) (hit_len _ _ _ _ _) ?_, E'⟩
  have hlen := Y.len
  rw [hit_hd, Stk.hdOf_set_head (by omega), Stk.lkOf_set_head, hN]
  rw [ho] at e
  exact Y.gi.push_yes hu e hi
theorem push_failX (Y : Sys w p g q n s t S m has) {u : Nat} (hu : u < 4) (e : m u = .push l i old) (hi : i = l.length + 1) (ho : old ≠ Stk.hdOf s.xs) (P : PushM w b q v l i old) (A : Apart b p g q v) :
    Calls Try.prog 20 #[.pointer (some ⟨b, 0, none⟩)] w fun e w' => e = .returned (.bool true) ∧ ∃ s', (s'.c = wrap64 (s.c + 1) ∧ s'.xs = s.xs) ∧ PushM w' b q v l (l.length - 1) old ∧ Sys w' p g q n s' t S (Stk.upd m u (.push l (l.length - 1) old)) has ∧ Else [b, p, g] w w' := by
  obtain ⟨hn, hl0, _⟩ := GI.puts_lt Y.gi hu e
  have lp := List.length_pos_iff.2 hl0
  have hok := Y.env.ok
  obtain ⟨P, hb0, hb1⟩ := P
  rw [pushNx_turn hi] at P
  have m0 := hn _ (Stk.getD_mem lp)
  have hg := hok ((0 : Nat) : Int)
  refine (pushStep_turn P.cells.2.2.2.2 (push_turn Y.env P A hl0 (c := false) (fun E1 => sturn_no E1 hb0 hb1 (by omega) (by omega) (by rw [get_hd]; exact fun h => ho h.symm)))).mono ?_
  rintro e1 w' ⟨rfl, P', M', E'⟩
  refine ⟨rfl, _, ⟨rfl, read_xs _ _ _ _⟩, ?_, Y.turn M' E' (apart_q A Y.env) (hok.hit _ _ _ hg.1 hg.2) (hit_len _ _ _ _ _) ?_, E'⟩
  · refine ⟨?_, hb0, hb1⟩
    have e3 : pushNx b l.length (l.length - 1) = meth 64 b := by unfold pushNx; rw [if_neg (by omega), if_pos (by omega)]
    rw [e3, show min (l.length - 1) (l.length - 1) = min i (l.length - 1) by omega]
    exact P'
  · rw [read_xs]; exact Y.gi.push_no hu e hi

theorem pop_doneX (Y : Sys w p g q n s t S m has) {u : Nat} (hu : u < 4) (e : m u = .pop most 2 deep old l) (ho : old = Stk.hdOf s.xs) (ht : t < 4294967295) (P : PopM w b q v l most 2 deep old) (A : Apart b p g q v) :
    Calls Try.prog 22 #[.pointer (some ⟨b, 0, none⟩)] w fun e w' => e = .returned (.bool true) ∧ ∃ s' r, (s'.c = wrap64 (s.c + 1) ∧ s'.xs = s.xs.set 0 (nextW (Stk.hdOf s.xs) deep)) ∧ S = l ++ r ∧ PopAt w' b q v l most deep old .nilFunc ∧ Sys w' p g q n s' (t + 1) r (Stk.upd m u .idle) (Stk.upd has u (has u ++ l)) ∧ Else [b, p, g] w w' := by
  have hok := Y.env.ok
  have K := Y.gi.ok u hu
  rw [e] at K
  obtain ⟨d0, d1, _⟩ := K.2.2.2 rfl
  have hN := Y.next ht (x := deep) (by omega) (by omega)
  refine (popStep_turn P.at_.cells.2.2.2.2.2 (pop_turn Y.env P.at_ A (c := true) (fun E1 => sturn_yes E1 (by omega) (by omega) (by rw [get_hd]; exact ho.symm)))).mono ?_
  rintro e1 w' ⟨rfl, P', M', E'⟩
  have hM := M'
  rw [ho] at M'
  have hnx := nextW_in (Stk.hdOf s.xs) deep
  rw [ho] at e
  obtain ⟨r, hS, G'⟩ := Y.gi.pop_yes hu e
  refine ⟨rfl, _, r, ⟨rfl, hit_hd _ _ _ _⟩, hS, P', Y.turn M' E' (apart_q A Y.env) (hok.hit _ _ _ hnx.1 hnx.2) (hit_len _ _ _ _ _) ?_, E'⟩
  have hlen := Y.len
  rw [hit_hd, Stk.hdOf_set_head (by omega), Stk.lkOf_set_head, hN]
  exact G'
end
end Go.Proofs.Ytalhbebpoohgkaa
