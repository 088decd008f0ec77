/-
  Texts beneath SupplyAll, part 14: StkStep, LayConf, Lay, LayWhat.
-/
import Derived.Test.YtkopplnjomkleaaGreatPart13
import Derived.Deep.RegionHeld3
import Derived.OwnWalk
/-
  Package stack: Step, Done, Got of a Pop, Step and Done of a Push, told by plain data (Po, Pu), at any memory; both begin.
-/
namespace Go.Proofs.YtkopplnjomkleaaGreat
open Go.RowKit
open W64
set_option maxRecDepth 100000
section
variable {w w' : World} {p g q hd ln n b r : Nat} {s s' : St} {v v' : Value} {P : Po} {U : Pu} {l : List Nat} {xs : List Int} {own : List Nat}
theorem get_at (s : St) (i : Nat) : s.get (i : Int) = s.xs.getD i 0 := by unfold St.get; rw [Int.toNat_natCast]
theorem get_ln (s : St) (a x : Nat) : s.get ((a : Int) + (x : Nat)) = s.xs.getD (a + x) 0 := by unfold St.get; rw [show ((a : Int) + (x : Nat)).toNat = a + x by omega]
theorem St.Ok.words (h : s.Ok) : Words s.xs := fun i => by have := h (i : Int); rw [get_at] at this; exact this
/-- Behind an access that turned the memory. -/
theorem Env.went (E : Env w p g q hd ln n s) (m : Mem w' p g s') {t : List Nat} (u : Else t w w') (hq : q ∉ t) (ok : s'.Ok) (hl : s'.xs.length = s.xs.length) : Env w' p g q hd ln n s' :=
  ⟨m, u.whole E.stk hq, ok, E.np, E.ng, E.n0, E.n1, hl ▸ E.hh, hl ▸ E.hl, hl ▸ E.top, E.far⟩
theorem Env.read (E : Env w p g q hd ln n s) {k a : Int} {y : Bool} (m : Mem w' p g (s.hit k a (s.get a) y)) {t : List Nat} (u : Else t w w') (hq : q ∉ t) : Env w' p g q hd ln n (s.hit k a (s.get a) y) :=
  E.went m u hq (E.ok.hit _ _ _ (E.ok a).1 (E.ok a).2) (hit_len _ _ _ _ _)
theorem Env.wrote (E : Env w p g q hd ln n s) {k a x : Int} {y : Bool} (m : Mem w' p g (s.hit k a x y)) (h0 : 0 ≤ x) (h1 : x < 18446744073709551616) {t : List Nat} (u : Else t w w') (hq : q ∉ t) : Env w' p g q hd ln n (s.hit k a x y) :=
  E.went m u hq (E.ok.hit _ _ _ h0 h1) (hit_len _ _ _ _ _)
theorem hit_at (s : St) (k : Int) (a : Nat) (x : Int) (y : Bool) : (s.hit k (a : Int) x y).xs = s.xs.set a x := by unfold St.hit; dsimp only; rw [Int.toNat_natCast]
theorem hit_ln (s : St) (k : Int) (a c : Nat) (x : Int) (y : Bool) : (s.hit k ((a : Int) + (c : Nat)) x y).xs = s.xs.set (a + c) x := by unfold St.hit; dsimp only; rw [show ((a : Int) + (c : Nat)).toNat = a + c by omega]
/-- What one access leaves: the cells, the count, the machine; nothing else has turned but for the machine's own blocks and the memory. -/
def Acc (w : World) (p g q hd ln n : Nat) (s : St) (xs : List Int) (own : List Nat) (M : World → Prop) (w' : World) : Prop :=
  ∃ s', s'.c = wrap64 (s.c + 1) ∧ s'.xs = xs ∧ Env w' p g q hd ln n s' ∧ M w' ∧ Else (own ++ [p, g]) w w'
def poNx (b : Nat) (P : Po) : Value := if P.fin = true then .nilFunc else if P.i = 0 then meth 138 b else if P.i = 1 then meth 150 b else meth 157 b
structure PoM (w : World) (b q n : Nat) (v : Value) (P : Po) : Prop where
  at_ : PopAt w b q v P.l P.most P.deep P.old (poNx b P)
  ok : P.Ok n
  nil : P.l = [] → v = .slice none 0 0
theorem PoM.else (M : PoM w b q n v P) {t : List Nat} (u : Else t w w') (h1 : b ∉ t) (h2 : Away v t) : PoM w' b q n v P := ⟨M.at_.else u h1 h2, M.ok, M.nil⟩
theorem PoM.up (M : PoM w b q n v P) (u : Up w w') : PoM w' b q n v P := ⟨M.at_.up u, M.ok, M.nil⟩
theorem PoM.next (M : PoM w b q n v P) : w.cell? ⟨b, 5, none⟩ = some (poNx b P) := M.at_.cells.2.2.2.2.2
theorem poNx_meth (b : Nat) (h : P.fin = false) : ∃ f, poNx b P = meth f b := by
  unfold poNx
  rw [h, if_neg (by decide)]
  split
  · exact ⟨_, rfl⟩
  · split
    · exact ⟨_, rfl⟩
    · exact ⟨_, rfl⟩
theorem popDone_to (M : PoM w b q n v P) {c : Bool} (hc : P.fin = c) :
    Calls Tryz.prog 140 #[.pointer (some ⟨b, 0, none⟩)] w fun e w' => e = .returned (.bool c) ∧ w = w' := by
  have c5 := M.next
  cases c
  · obtain ⟨f, hf⟩ := poNx_meth b hc
    rw [hf] at c5
    exact popDone_no c5
  · unfold poNx at c5
    rw [if_pos hc] at c5
    exact popDone_yes c5
theorem popStep_no (M : PoM w b q n v P) (hc : P.fin = true) :
    Calls Tryz.prog 139 #[.pointer (some ⟨b, 0, none⟩)] w fun e w' => e = .returned (.bool false) ∧ w = w' := by
  have c5 := M.next
  unfold poNx at c5
  rw [if_pos hc] at c5
  exact popStep_end c5
/-- Got, whether it is done or not. -/
theorem popGot (M : PoM w b q n v P) : Calls Tryz.prog 141 #[.pointer (some ⟨b, 0, none⟩)] w fun e w' => ∃ o, e = .returned o ∧ Ints w' o (I (if P.fin then P.l else [])) ∧ Fresh w o ∧ Up w w' := by
  have c5 := M.next
  have H := M.at_
  cases hf : P.fin
  · obtain ⟨f, hf⟩ := poNx_meth b hf
    rw [hf] at c5
    refine (got_not c5).mono ?_
    rintro e w' ⟨rfl, rfl⟩
    exact ⟨_, rfl, Ints.nil _, fresh_nil _, Up.refl _⟩
  · unfold poNx at H
    rw [if_pos hf] at H
    by_cases h0 : P.l = []
    · have hv := M.nil h0
      rw [hv] at H
      refine (got_nil H).mono ?_
      rintro e w' ⟨rfl, rfl⟩
      rw [if_pos rfl, h0]
      exact ⟨_, rfl, Ints.nil _, fresh_nil _, Up.refl _⟩
    · have h8 := M.ok.len
      have h9 := M.ok.m8
      refine (got_in H h0 (by omega)).mono ?_
      rintro e w' ⟨r, cap, rfl, J, hr, _, U⟩
      rw [if_pos rfl]
      exact ⟨_, rfl, J, fun k hk => by simp [Value.ownBlock] at hk; omega, U⟩
theorem apart_own (A : Apart b p g q v) (E : Env w p g q hd ln n s) : q ∉ [b, p, g] := by simp [A.bq.symm, E.np, E.ng]
theorem own_wide (h : Else [b, p, g] w w') (o : Option Nat) : Else ((b :: o.toList) ++ [p, g]) w w' := h.more (by intro j hj; simp at hj ⊢; rcases hj with h | h | h <;> simp [h])
def Near (w : World) (v v' : Value) : Prop := v'.ownBlock = v.ownBlock ∨ v'.ownBlock = none ∨ ∃ r, v'.ownBlock = some r ∧ w.heap.size ≤ r
theorem poStep (E : Env w p g q hd ln n s) (A : Apart b p g q v) (M : PoM w b q n v P) (hf : P.fin = false) :
    Calls Tryz.prog 139 #[.pointer (some ⟨b, 0, none⟩)] w fun e w' => e = .returned (.bool true) ∧ ∃ v', Near w v v' ∧ Acc w p g q hd ln n s (P.xs hd s.xs) (b :: v.ownBlock.toList) (fun w' => PoM w' b q n v' (P.go n hd ln s.xs)) w' := by
  have K := M.ok
  have KG := K.go (hd := hd) (ln := ln) (xs := s.xs) E.ok.words E.n0
  have c5 := M.next
  have H := M.at_
  have hq := apart_own A E
  obtain ⟨most, i, deep, old, l, fin⟩ := P
  dsimp only at hf
  subst hf
  have hl8 : l.length ≤ 8 := Nat.le_trans K.len K.m8
  have gh := get_at s hd
  rcases (show i = 0 ∨ i = 1 ∨ i = 2 by have := K.i2; dsimp only at this; omega) with rfl | rfl | rfl
  · have ex : Po.xs hd s.xs ⟨most, 0, deep, old, l, false⟩ = s.xs := by unfold Po.xs; rw [if_neg (by simp)]
    have c5' : w.cell? ⟨b, 5, none⟩ = some (meth 138 b) := c5
    rw [ex]
    by_cases ht : topN n (s.get hd) = -1
    · have eg : Po.go n hd ln s.xs ⟨most, 0, deep, old, l, false⟩ = ⟨most, 0, deep, s.get hd, [], true⟩ := by unfold Po.go; rw [if_pos rfl, ← gh, if_pos ht]
      rw [eg] at KG ⊢
      refine (popStep_load c5' (pop_load0 E H A ht)).mono ?_
      rintro e w' ⟨rfl, P2, M2, E2⟩
      exact ⟨rfl, _, .inr (.inl rfl), _, rfl, read_xs _ _ _ _, E.read M2 E2 hq, ⟨P2, KG, fun _ => rfl⟩, own_wide E2 _⟩
    · obtain ⟨t, ht2⟩ : ∃ t : Nat, topN n (s.get hd) = t := ⟨_, (topN_nat (E.ok hd).1 E.n0 ht).1⟩
      have eg : Po.go n hd ln s.xs ⟨most, 0, deep, old, l, false⟩ = ⟨most, 1, deep, s.get hd, [t], false⟩ := by unfold Po.go; rw [if_pos rfl, ← gh, if_neg ht, ht2]; rfl
      rw [eg] at KG ⊢
      refine (popStep_load c5' (pop_load1 E H A ht2)).mono ?_
      rintro e w' ⟨rfl, ⟨r, cap, hr, P2⟩, M2, E2⟩
      exact ⟨rfl, _, .inr (.inr ⟨r, rfl, hr⟩), _, rfl, read_xs _ _ _ _, E.read M2 E2 hq, ⟨P2, KG, fun h => by simp at h⟩, own_wide E2 _⟩
  · have ex : Po.xs hd s.xs ⟨most, 1, deep, old, l, false⟩ = s.xs := by unfold Po.xs; rw [if_neg (by simp)]
    have c5' : w.cell? ⟨b, 5, none⟩ = some (meth 150 b) := c5
    rw [ex]
    have hne : l ≠ [] := K.ne (by simp)
    have gl := get_ln s ln (l.getD (l.length - 1) 0)
    by_cases hb : belowN n (s.get (ln + (l.getD (l.length - 1) 0 : Nat))) = -1
    · have eg : Po.go n hd ln s.xs ⟨most, 1, deep, old, l, false⟩ = ⟨most, 2, -1, old, l, false⟩ := by
        unfold Po.go Po.last; dsimp only; rw [if_neg (by decide), if_pos rfl, ← gl, if_pos (.inl hb), hb]
      rw [eg] at KG ⊢
      refine (popStep_link c5' (pop_linkA E H A hne K.lt hl8 hb)).mono ?_
      rintro e w' ⟨rfl, P2, M2, E2⟩
      exact ⟨rfl, _, .inl rfl, _, rfl, read_xs _ _ _ _, E.read M2 E2 hq, ⟨P2, KG, fun h => absurd h hne⟩, own_wide E2 _⟩
    · obtain ⟨d, hd2⟩ : ∃ d : Nat, belowN n (s.get (ln + (l.getD (l.length - 1) 0 : Nat))) = d := ⟨_, (belowN_nat (E.ok _).1 E.n0 hb).1⟩
      by_cases hm : l.length = most
      · have eg : Po.go n hd ln s.xs ⟨most, 1, deep, old, l, false⟩ = ⟨most, 2, d, old, l, false⟩ := by
          unfold Po.go Po.last; dsimp only; rw [if_neg (by decide), if_pos rfl, ← gl, if_pos (.inr hm), hd2]
        rw [eg] at KG ⊢
        refine (popStep_link c5' (pop_linkB E H A hne K.lt hl8 hd2 hm)).mono ?_
        rintro e w' ⟨rfl, P2, M2, E2⟩
        exact ⟨rfl, _, .inl rfl, _, rfl, read_xs _ _ _ _, E.read M2 E2 hq, ⟨P2, KG, fun h => absurd h hne⟩, own_wide E2 _⟩
      · have eg : Po.go n hd ln s.xs ⟨most, 1, deep, old, l, false⟩ = ⟨most, 1, d, old, l ++ [d], false⟩ := by
          unfold Po.go Po.last; dsimp only; rw [if_neg (by decide), if_pos rfl, ← gl, if_neg (fun h => h.elim hb hm), hd2]; rfl
        rw [eg] at KG ⊢
        obtain ⟨r0, c0, hv, _⟩ := H.row.get hne
        subst hv
        refine (popStep_link c5' (pop_linkC E H A hne K.lt hl8 hd2 hm)).mono ?_
        rintro e w' ⟨rfl, ⟨r, cap, hr, P2⟩, M2, E2⟩
        have E3 := E2 r0 rfl
        have hq3 : q ∉ [b, r0, p, g] := by have := A.vq; simp [Value.ownBlock] at this; simp [A.bq.symm, E.np, E.ng]; exact fun h => this h.symm
        refine ⟨rfl, .slice (some ⟨r, 0, none⟩) (l.length + 1) cap, ?_, _, rfl, read_xs _ _ _ _, E.read M2 E3 hq3, ⟨?_, KG, fun h => by simp at h⟩, E3⟩
        · rcases hr with h | h
          · exact .inl h.symm
          · exact .inr (.inr ⟨r, rfl, h⟩)
        · exact P2
  · have c5' : w.cell? ⟨b, 5, none⟩ = some (meth 157 b) := c5
    have d2 := K.d2 rfl
    dsimp only at d2
    have o0 := K.o0
    have o1 := K.o1
    dsimp only at o0 o1
    by_cases hc : s.get hd = old
    · have ex : Po.xs hd s.xs ⟨most, 2, deep, old, l, false⟩ = s.xs.set hd (nextW old deep) := by unfold Po.xs; rw [if_pos ⟨rfl, by rw [← gh]; exact hc⟩]
      have eg : Po.go n hd ln s.xs ⟨most, 2, deep, old, l, false⟩ = ⟨most, 0, deep, old, l, true⟩ := by
        unfold Po.go; dsimp only; rw [if_neg (by decide), if_neg (by decide), ← gh, decide_eq_true hc]
      rw [ex]
      rw [eg] at KG ⊢
      have hw := nextW_in old deep
      refine (popStep_turn c5' (pop_turn E H A (fun E1 => sturn_yes E1 d2.1 d2.2 hc))).mono ?_
      rintro e w' ⟨rfl, P2, M2, E2⟩
      exact ⟨rfl, _, .inl rfl, _, rfl, hit_at _ _ _ _ _, E.wrote M2 hw.1 hw.2 E2 hq, ⟨P2, KG, M.nil⟩, own_wide E2 _⟩
    · have ex : Po.xs hd s.xs ⟨most, 2, deep, old, l, false⟩ = s.xs := by unfold Po.xs; rw [if_neg (fun h => hc (by rw [gh]; exact h.2))]
      have eg : Po.go n hd ln s.xs ⟨most, 2, deep, old, l, false⟩ = ⟨most, 0, deep, old, l, false⟩ := by
        unfold Po.go; dsimp only; rw [if_neg (by decide), if_neg (by decide), ← gh, decide_eq_false hc]
      rw [ex]
      rw [eg] at KG ⊢
      refine (popStep_turn c5' (pop_turn E H A (fun E1 => sturn_no E1 o0 o1 d2.1 d2.2 hc))).mono ?_
      rintro e w' ⟨rfl, P2, M2, E2⟩
      exact ⟨rfl, _, .inl rfl, _, rfl, read_xs _ _ _ _, E.read M2 E2 hq, ⟨P2, KG, M.nil⟩, own_wide E2 _⟩
/-- A Pop begins. -/
theorem poNew (m : Int) {most : Nat} (hm : min (max m 1) 8 = most) (n : Nat) :
    Calls Tryz.prog 112 #[.pointer (some ⟨q, 0, none⟩), .int .i64 m] w fun e w' => e = .returned (.pointer (some ⟨w.heap.size, 0, none⟩)) ∧ PoM w' w.heap.size q n (.slice none 0 0) ⟨most, 0, 0, 0, [], false⟩ ∧ Up w w' := by
  refine (spop_in m hm).mono ?_
  rintro e w' ⟨rfl, P, U⟩
  exact ⟨rfl, ⟨P, ⟨by dsimp only; omega, by dsimp only; omega, by simp, by simp, by simp, by simp, by simp, by simp, by simp⟩, fun _ => rfl⟩, U⟩
/-! ### Push -/
def puNx (b : Nat) (P : Pu) : Value := if P.fin = true then .nilFunc else if P.i + 1 < P.l.length then meth 148 b else if P.i + 1 = P.l.length then meth 149 b else if P.i = P.l.length then meth 156 b else meth 160 b
structure PuM (w : World) (b q n : Nat) (v : Value) (P : Pu) : Prop where
  at_ : PushAt w b q v P.l (min P.i (P.l.length - 1)) P.old (puNx b P)
  ok : P.Ok n
theorem PuM.else (M : PuM w b q n v U) {t : List Nat} (u : Else t w w') (h1 : b ∉ t) (h2 : Away v t) : PuM w' b q n v U := ⟨M.at_.else u h1 h2, M.ok⟩
theorem PuM.up (M : PuM w b q n v U) (u : Up w w') : PuM w' b q n v U := ⟨M.at_.up u, M.ok⟩
theorem PuM.next (M : PuM w b q n v U) : w.cell? ⟨b, 4, none⟩ = some (puNx b U) := M.at_.cells.2.2.2.2
theorem puNx_meth (b : Nat) (h : U.fin = false) : ∃ f, puNx b U = meth f b := by
  unfold puNx
  rw [h, if_neg (by decide)]
  split
  · exact ⟨_, rfl⟩
  · split
    · exact ⟨_, rfl⟩
    · split
      · exact ⟨_, rfl⟩
      · exact ⟨_, rfl⟩
theorem pushDone_to (M : PuM w b q n v U) {c : Bool} (hc : U.fin = c) :
    Calls Tryz.prog 108 #[.pointer (some ⟨b, 0, none⟩)] w fun e w' => e = .returned (.bool c) ∧ w = w' := by
  have c5 := M.next
  cases c
  · obtain ⟨f, hf⟩ := puNx_meth b hc
    rw [hf] at c5
    exact pushDone_no c5
  · unfold puNx at c5
    rw [if_pos hc] at c5
    exact pushDone_yes c5
theorem pushStep_no (M : PuM w b q n v U) (hc : U.fin = true) :
    Calls Tryz.prog 136 #[.pointer (some ⟨b, 0, none⟩)] w fun e w' => e = .returned (.bool false) ∧ w = w' := by
  have c5 := M.next
  unfold puNx at c5
  rw [if_pos hc] at c5
  exact pushStep_end c5
theorem puNx_nxL {P : Pu} (hf : P.fin = false) (h : P.i < P.l.length) : nxL b P.l.length P.i = puNx b P := by
  unfold nxL puNx
  rw [hf, if_neg (show ¬ (false = true) by decide)]
  split
  · rfl
  · rw [if_pos (by omega)]
theorem puStep (E : Env w p g q hd ln n s) (A : Apart b p g q v) (M : PuM w b q n v U) (hf : U.fin = false) :
    Calls Tryz.prog 136 #[.pointer (some ⟨b, 0, none⟩)] w fun e w' => e = .returned (.bool true) ∧ Acc w p g q hd ln n s (U.xs n hd ln s.xs) (b :: v.ownBlock.toList) (fun w' => PuM w' b q n v (U.go hd s.xs)) w' := by
  have K := M.ok
  have KG := K.go (hd := hd) (xs := s.xs) E.ok.words
  have c4 := M.next
  have H := M.at_
  have hq := apart_own A E
  have n0 := E.n0
  have n1 := E.n1
  obtain ⟨l, i, old, fin⟩ := U
  obtain ⟨hne, hlt, hl, htop, o0, o1⟩ := K
  dsimp only at hf hne hlt hl htop o0 o1
  subst hf
  have hlp := List.length_pos_iff.2 hne
  have gh := get_at s hd
  unfold puNx at c4
  dsimp only at c4
  rw [if_neg (by decide)] at c4
  dsimp only at H
  by_cases h1 : i + 1 < l.length
  · rw [if_pos h1] at c4
    have ek : min i (l.length - 1) = i := by omega
    rw [ek] at H
    have m1 := hlt _ (show l.getD (i + 1) 0 ∈ l by simp [List.getD, h1])
    have eg : Pu.go hd s.xs ⟨l, i, old, false⟩ = ⟨l, i + 1, old, false⟩ := by unfold Pu.go; dsimp only; rw [if_pos h1]
    have ex : Pu.xs n hd ln s.xs ⟨l, i, old, false⟩ = s.xs.set (ln + l.getD i 0) ((l.getD (i + 1) 0 : Nat) + 1) := by unfold Pu.xs; dsimp only; rw [if_pos h1]
    rw [ex]
    rw [eg] at KG ⊢
    refine (pushStep_link c4 (push_link E H A h1 hlt hl)).mono ?_
    rintro e w' ⟨rfl, P2, M2, E2⟩
    refine ⟨rfl, _, rfl, hit_ln _ _ _ _ _ _, E.wrote M2 (by omega) (by omega) E2 hq, ⟨?_, KG⟩, own_wide E2 _⟩
    rw [puNx_nxL (P := ⟨l, i + 1, old, false⟩) rfl (by dsimp only; omega)] at P2
    dsimp only
    rw [show min (i + 1) (l.length - 1) = i + 1 by omega]
    exact P2
  · rw [if_neg h1] at c4
    by_cases h2 : i + 1 = l.length
    · rw [if_pos h2] at c4
      have ek : min i (l.length - 1) = l.length - 1 := by omega
      rw [ek] at H
      have eg : Pu.go hd s.xs ⟨l, i, old, false⟩ = ⟨l, i + 1, s.get hd, false⟩ := by unfold Pu.go; dsimp only; rw [if_neg h1, if_pos h2, gh]
      have ex : Pu.xs n hd ln s.xs ⟨l, i, old, false⟩ = s.xs := by unfold Pu.xs; dsimp only; rw [if_neg h1, if_pos h2]
      rw [ex]
      rw [eg] at KG ⊢
      refine (pushStep_load c4 (push_load E H A)).mono ?_
      rintro e w' ⟨rfl, P2, M2, E2⟩
      refine ⟨rfl, _, rfl, read_xs _ _ _ _, E.read M2 E2 hq, ⟨?_, KG⟩, own_wide E2 _⟩
      unfold puNx
      dsimp only
      rw [if_neg (by decide), if_neg (by omega), if_neg (by omega), if_pos h2, show min (i + 1) (l.length - 1) = l.length - 1 by omega]
      exact P2
    · rw [if_neg h2] at c4
      by_cases h3 : i = l.length
      · rw [if_pos h3] at c4
        have ek : min i (l.length - 1) = l.length - 1 := by omega
        rw [ek] at H
        have t := topN_in (n := n) o0 n0
        have eg : Pu.go hd s.xs ⟨l, i, old, false⟩ = ⟨l, i + 1, old, false⟩ := by unfold Pu.go; dsimp only; rw [if_neg h1, if_neg h2, if_pos h3]
        have ex : Pu.xs n hd ln s.xs ⟨l, i, old, false⟩ = s.xs.set (ln + l.getD (l.length - 1) 0) (topN n old + 1) := by unfold Pu.xs; dsimp only; rw [if_neg h1, if_neg h2, if_pos h3]
        rw [ex]
        rw [eg] at KG ⊢
        refine (pushStep_last c4 (push_last E H A hne hlt hl o0 o1)).mono ?_
        rintro e w' ⟨rfl, P2, M2, E2⟩
        refine ⟨rfl, _, rfl, hit_ln _ _ _ _ _ _, E.wrote M2 (by omega) (by omega) E2 hq, ⟨?_, KG⟩, own_wide E2 _⟩
        unfold puNx
        dsimp only
        rw [if_neg (by decide), if_neg (by omega), if_neg (by omega), if_neg (by omega), show min (i + 1) (l.length - 1) = l.length - 1 by omega]
        exact P2
      · rw [if_neg h3] at c4
        have ek : min i (l.length - 1) = l.length - 1 := by omega
        rw [ek] at H
        have m1 := hlt _ (show l.getD 0 0 ∈ l by simp [List.getD, hlp])
        by_cases hc : s.get hd = old
        · have eg : Pu.go hd s.xs ⟨l, i, old, false⟩ = ⟨l, l.length - 1, old, true⟩ := by unfold Pu.go; dsimp only; rw [if_neg h1, if_neg h2, if_neg h3, ← gh, decide_eq_true hc]
          have ex : Pu.xs n hd ln s.xs ⟨l, i, old, false⟩ = s.xs.set hd (nextW old (l.getD 0 0 : Nat)) := by unfold Pu.xs; dsimp only; rw [if_neg h1, if_neg h2, if_neg h3, if_pos (by rw [← gh]; exact hc)]
          rw [ex]
          rw [eg] at KG ⊢
          have hw := nextW_in old (l.getD 0 0 : Nat)
          refine (pushStep_turn c4 (push_turn E H A hne (fun E1 => sturn_yes E1 (by omega) (by omega) hc))).mono ?_
          rintro e w' ⟨rfl, P2, M2, E2⟩
          refine ⟨rfl, _, rfl, hit_at _ _ _ _ _, E.wrote M2 hw.1 hw.2 E2 hq, ⟨?_, KG⟩, own_wide E2 _⟩
          dsimp only
          rw [Nat.min_self]
          exact P2
        · have eg : Pu.go hd s.xs ⟨l, i, old, false⟩ = ⟨l, l.length - 1, old, false⟩ := by unfold Pu.go; dsimp only; rw [if_neg h1, if_neg h2, if_neg h3, ← gh, decide_eq_false hc]
          have ex : Pu.xs n hd ln s.xs ⟨l, i, old, false⟩ = s.xs := by unfold Pu.xs; dsimp only; rw [if_neg h1, if_neg h2, if_neg h3, if_neg (by rw [← gh]; exact hc)]
          rw [ex]
          rw [eg] at KG ⊢
          refine (pushStep_turn c4 (push_turn E H A hne (fun E1 => sturn_no E1 o0 o1 (by omega) (by omega) hc))).mono ?_
          rintro e w' ⟨rfl, P2, M2, E2⟩
          refine ⟨rfl, _, rfl, read_xs _ _ _ _, E.read M2 E2 hq, ⟨?_, KG⟩, own_wide E2 _⟩
          unfold puNx
          dsimp only
          rw [if_neg (by decide), if_neg (by omega), if_pos (by omega), Nat.min_self]
          exact P2
/-- A Push begins. -/
theorem puNew (E : Env w p g q hd ln n s) (R : Rd w v (I l)) (h0 : l ≠ []) (h : Good n (I l)) (hl : l.length ≤ 8192) :
    Calls Tryz.prog 107 #[.pointer (some ⟨q, 0, none⟩), v] w fun e w' => ∃ b r cap, e = .returned (.tuple #[.pointer (some ⟨b, 0, none⟩), .int .i64 0]) ∧ PuM w' b q n (.slice (some ⟨r, 0, none⟩) l.length cap) ⟨l, 0, 0, false⟩ ∧ w.heap.size ≤ b ∧ w.heap.size ≤ r ∧ Up w w' := by
  have hlp := List.length_pos_iff.2 h0
  refine (spush_yes E R h0 h hl).mono ?_
  rintro e w' ⟨b, r, cap, rfl, P, hb, hr, U⟩
  refine ⟨b, r, cap, rfl, ⟨?_, ⟨h0, fun x hx => ?_, hl, by dsimp only; omega, by simp, by simp⟩⟩, hb, hr, U⟩
  · rw [puNx_nxL (P := ⟨l, 0, 0, false⟩) rfl hlp] at P
    dsimp only
    rw [Nat.zero_min]
    exact P
  · have := h.1 (x : Int) (by unfold I; exact List.mem_map.2 ⟨x, hx, rfl⟩)
    omega
end
end Go.Proofs.YtkopplnjomkleaaGreat

/-
  Configurations in memory; the contract of lay.May.
-/
namespace Go.Proofs.YtkopplnjomkleaaGreat
open Go.RowKit

/-- The configuration as the program has it. -/
abbrev Cf.v (c : Cf) : Value := .agg #[.int .i64 c.wk, .int .i64 c.ch, .int .i64 c.wo, .int .i64 c.sl, .int .i64 c.ca, .int .i64 c.ba]
/-- Its box in memory. -/
abbrev Cf.box (c : Cf) : Obj := .cells #[.int .i64 c.wk, .int .i64 c.ch, .int .i64 c.wo, .int .i64 c.sl, .int .i64 c.ca, .int .i64 c.ba] 25

/-- A configuration that lies in memory. -/
def Cf.At (c : Cf) (w : World) (b : Nat) : Prop :=
  w.cell? ⟨b, 0, none⟩ = some (.int .i64 c.wk) ∧ w.cell? ⟨b, 1, none⟩ = some (.int .i64 c.ch) ∧ w.cell? ⟨b, 2, none⟩ = some (.int .i64 c.wo) ∧
  w.cell? ⟨b, 3, none⟩ = some (.int .i64 c.sl) ∧ w.cell? ⟨b, 4, none⟩ = some (.int .i64 c.ca) ∧ w.cell? ⟨b, 5, none⟩ = some (.int .i64 c.ba)
theorem Cf.At.up {c : Cf} {w w' : World} {b : Nat} (h : c.At w b) (u : Up w w') : c.At w' b :=
  ⟨u.kept h.1, u.kept h.2.1, u.kept h.2.2.1, u.kept h.2.2.2.1, u.kept h.2.2.2.2.1, u.kept h.2.2.2.2.2⟩
theorem Cf.at_new (c : Cf) (w : World) : c.At (w.alloc c.box) w.heap.size :=
  ⟨cell_new rfl rfl, cell_new rfl rfl, cell_new rfl rfl, cell_new rfl rfl, cell_new rfl rfl, cell_new rfl rfl⟩
theorem Cf.At.with {c : Cf} {w w' : World} {b : Nat} (h : c.At w b) (u : Up w w') :
  w'.cell? ⟨b, 0, none⟩ = some (.int .i64 c.wk) ∧ w'.cell? ⟨b, 1, none⟩ = some (.int .i64 c.ch) ∧ w'.cell? ⟨b, 2, none⟩ = some (.int .i64 c.wo) ∧
  w'.cell? ⟨b, 3, none⟩ = some (.int .i64 c.sl) ∧ w'.cell? ⟨b, 4, none⟩ = some (.int .i64 c.ca) ∧ w'.cell? ⟨b, 5, none⟩ = some (.int .i64 c.ba) ∧ Up w w' := by
  obtain ⟨h0, h1, h2, h3, h4, h5⟩ := h.up u
  exact ⟨h0, h1, h2, h3, h4, h5, u⟩

set_option maxHeartbeats 400000 in
theorem from_any (a n b : Int) (w : World) :
    Calls Tryz.prog 114 #[.int .i64 a, .int .i64 n, .int .i64 b] w fun e w' => e = .returned (.bool (decide (a ≤ n ∧ n ≤ b))) ∧ w = w' := by
  go_enter Tryz.func114, Tryz.ntmps114
  go_wp2
  all_goals
    go_ret
    refine ⟨ret_bool ?_, rfl⟩
    simp [*]
  all_goals omega
theorem from_is {a n b : Int} {r : Bool} (e : decide (a ≤ n ∧ n ≤ b) = r) (w : World) :
    Calls Tryz.prog 114 #[.int .i64 a, .int .i64 n, .int .i64 b] w fun e w' => e = .returned (.bool r) ∧ w = w' := e ▸ from_any a n b w

set_option maxHeartbeats 2000000 in
theorem may_any (c : Cf) (w : World) :
    Calls Tryz.prog 70 #[c.v] w fun e w' => e = .returned (.bool (mayB c)) ∧ Up w w' := by
  have A := may_ways c
  obtain ⟨b1, f1⟩ : ∃ b, decide (1 ≤ c.wk ∧ c.wk ≤ 64) = b := ⟨_, rfl⟩
  obtain ⟨b2, f2⟩ : ∃ b, decide (1 ≤ c.ch ∧ c.ch ≤ 4096) = b := ⟨_, rfl⟩
  obtain ⟨b3, f3⟩ : ∃ b, decide (8 ≤ c.wo ∧ c.wo ≤ 1024) = b := ⟨_, rfl⟩
  obtain ⟨b4, f4⟩ : ∃ b, decide (1 ≤ c.sl ∧ c.sl ≤ 4096) = b := ⟨_, rfl⟩
  obtain ⟨b5, f5⟩ : ∃ b, decide (0 ≤ c.ca ∧ c.ca ≤ 64) = b := ⟨_, rfl⟩
  obtain ⟨b6, f6⟩ : ∃ b, decide (1 ≤ c.ba ∧ c.ba ≤ 8) = b := ⟨_, rfl⟩
  obtain ⟨r, fr⟩ : ∃ b, mayB c = b := ⟨_, rfl⟩
  rw [f1, f2, f3, f4, f5, f6, fr] at A
  rw [fr]
  have e1 := Lib.hid f1
  have e2 := Lib.hid f2
  have e3 := Lib.hid f3
  have e4 := Lib.hid f4
  have e5 := Lib.hid f5
  have e6 := Lib.hid f6
  clear f1 f2 f3 f4 f5 f6 fr
  rcases A with ⟨rfl, rfl⟩ | ⟨rfl, rfl, rfl⟩ | ⟨rfl, rfl, rfl, rfl⟩ | ⟨rfl, rfl, rfl, g0, g1, g2, rfl⟩ | ⟨rfl, rfl, rfl, g0, g1, g2, rfl, rfl⟩ | ⟨rfl, rfl, rfl, g0, g1, g2, rfl, rfl, rfl⟩ | ⟨rfl, rfl, rfl, g0, g1, g2, rfl, rfl, rfl⟩
  all_goals
    go_enter Tryz.func70, Tryz.ntmps70
    go_wp2_with (first
      | (go_at_call 114; (with_reducible refine (from_is e1.out _).mono ?_); rintro e w' ⟨rfl, rfl⟩)
      | (go_at_call 114; (with_reducible refine (from_is e2.out _).mono ?_); rintro e w' ⟨rfl, rfl⟩)
      | (go_at_call 114; (with_reducible refine (from_is e3.out _).mono ?_); rintro e w' ⟨rfl, rfl⟩)
      | (go_at_call 114; (with_reducible refine (from_is e4.out _).mono ?_); rintro e w' ⟨rfl, rfl⟩)
      | (go_at_call 114; (with_reducible refine (from_is e5.out _).mono ?_); rintro e w' ⟨rfl, rfl⟩)
      | (go_at_call 114; (with_reducible refine (from_is e6.out _).mono ?_); rintro e w' ⟨rfl, rfl⟩))
    go_ret
    exact ⟨rfl, Up.alloc _ _⟩

end Go.Proofs.YtkopplnjomkleaaGreat

/-
  The contracts of package lay.
-/
namespace Go.Proofs.YtkopplnjomkleaaGreat
open Go.RowKit

/-- Where the roots, the slots, the links, the words begin, as the program reckons it. -/
def frV (c : Cf) : Int := IntKind.i64.wrap (3 + c.wk)
def fsV (c : Cf) : Int := IntKind.i64.wrap (frV c + c.sl)
def flV (c : Cf) : Int := IntKind.i64.wrap (fsV c + c.sl)
def fwV (c : Cf) : Int := IntKind.i64.wrap (flV c + c.ch)
theorem wrap_in {n : Int} (h0 : -9223372036854775808 ≤ n) (h1 : n < 9223372036854775808) : IntKind.i64.wrap n = n := by
  rw [IntKind.wrap_i64]; omega
theorem frV_is {c : Cf} (h : mayB c = true) : frV c = 3 + c.wk := by
  obtain ⟨⟨_, _⟩, ⟨_, _⟩, _, ⟨_, _⟩, _⟩ := mayB_iff.1 h
  unfold frV; rw [wrap_in (by omega) (by omega)]
theorem fsV_is {c : Cf} (h : mayB c = true) : fsV c = 3 + c.wk + c.sl := by
  obtain ⟨⟨_, _⟩, ⟨_, _⟩, _, ⟨_, _⟩, _⟩ := mayB_iff.1 h
  unfold fsV; rw [frV_is h, wrap_in (by omega) (by omega)]
theorem flV_is {c : Cf} (h : mayB c = true) : flV c = 3 + c.wk + 2 * c.sl := by
  obtain ⟨⟨_, _⟩, ⟨_, _⟩, _, ⟨_, _⟩, _⟩ := mayB_iff.1 h
  unfold flV; rw [fsV_is h, wrap_in (by omega) (by omega)]; omega
theorem fwV_is {c : Cf} (h : mayB c = true) : fwV c = fwN c := by
  obtain ⟨⟨_, _⟩, ⟨_, _⟩, _, ⟨_, _⟩, _⟩ := mayB_iff.1 h
  unfold fwV; rw [flV_is h, wrap_in (by omega) (by omega)]; unfold fwN; omega

set_option maxHeartbeats 400000 in
theorem firstRoot_any (c : Cf) (w : World) :
    Calls Tryz.prog 151 #[c.v] w fun e w' => e = .returned (.int .i64 (frV c)) ∧ Up w w' := by
  go_enter Tryz.func151, Tryz.ntmps151
  go_wp2
  go_ret
  exact ⟨ret_int (by unfold frV wrap64; rw [IntKind.wrap_i64]), Up.alloc _ _⟩
set_option maxHeartbeats 400000 in
theorem firstSlot_any (c : Cf) (w : World) :
    Calls Tryz.prog 142 #[c.v] w fun e w' => e = .returned (.int .i64 (fsV c)) ∧ Up w w' := by
  have hat := c.at_new w
  go_enter Tryz.func142, Tryz.ntmps142
  go_wp2_with fail
  go_region_held3 (fun w' => w'.cell? ⟨w.heap.size, 0, none⟩ = some (.int .i64 c.wk) ∧ w'.cell? ⟨w.heap.size, 1, none⟩ = some (.int .i64 c.ch) ∧ w'.cell? ⟨w.heap.size, 2, none⟩ = some (.int .i64 c.wo) ∧ w'.cell? ⟨w.heap.size, 3, none⟩ = some (.int .i64 c.sl) ∧ w'.cell? ⟨w.heap.size, 4, none⟩ = some (.int .i64 c.ca) ∧ w'.cell? ⟨w.heap.size, 5, none⟩ = some (.int .i64 c.ba) ∧ Up (w.alloc c.box) w')
    (first | exact hat.with (up_drew _) | exact hat.with (by assumption))
    (first
      | (go_at_call 151; refine (calls_up (up_drew _) (firstRoot_any c _)).mono ?_; rintro e wA ⟨rfl, uA⟩))
  all_goals
    go_wp2
    go_ret
    exact ⟨rfl, (Up.alloc _ _).trans (by assumption)⟩
set_option maxHeartbeats 400000 in
theorem firstLink_any (c : Cf) (w : World) :
    Calls Tryz.prog 115 #[c.v] w fun e w' => e = .returned (.int .i64 (flV c)) ∧ Up w w' := by
  have hat := c.at_new w
  go_enter Tryz.func115, Tryz.ntmps115
  go_wp2_with fail
  go_region_held3 (fun w' => w'.cell? ⟨w.heap.size, 0, none⟩ = some (.int .i64 c.wk) ∧ w'.cell? ⟨w.heap.size, 1, none⟩ = some (.int .i64 c.ch) ∧ w'.cell? ⟨w.heap.size, 2, none⟩ = some (.int .i64 c.wo) ∧ w'.cell? ⟨w.heap.size, 3, none⟩ = some (.int .i64 c.sl) ∧ w'.cell? ⟨w.heap.size, 4, none⟩ = some (.int .i64 c.ca) ∧ w'.cell? ⟨w.heap.size, 5, none⟩ = some (.int .i64 c.ba) ∧ Up (w.alloc c.box) w')
    (first | exact hat.with (up_drew _) | exact hat.with (by assumption))
    (first
      | (go_at_call 142; refine (calls_up (up_drew _) (firstSlot_any c _)).mono ?_; rintro e wA ⟨rfl, uA⟩))
  all_goals
    go_wp2
    go_ret
    exact ⟨rfl, (Up.alloc _ _).trans (by assumption)⟩
set_option maxHeartbeats 400000 in
theorem firstWord_any (c : Cf) (w : World) :
    Calls Tryz.prog 71 #[c.v] w fun e w' => e = .returned (.int .i64 (fwV c)) ∧ Up w w' := by
  have hat := c.at_new w
  go_enter Tryz.func71, Tryz.ntmps71
  go_wp2_with fail
  go_region_held3 (fun w' => w'.cell? ⟨w.heap.size, 0, none⟩ = some (.int .i64 c.wk) ∧ w'.cell? ⟨w.heap.size, 1, none⟩ = some (.int .i64 c.ch) ∧ w'.cell? ⟨w.heap.size, 2, none⟩ = some (.int .i64 c.wo) ∧ w'.cell? ⟨w.heap.size, 3, none⟩ = some (.int .i64 c.sl) ∧ w'.cell? ⟨w.heap.size, 4, none⟩ = some (.int .i64 c.ca) ∧ w'.cell? ⟨w.heap.size, 5, none⟩ = some (.int .i64 c.ba) ∧ Up (w.alloc c.box) w')
    (first | exact hat.with (up_drew _) | exact hat.with (by assumption))
    (first
      | (go_at_call 115; refine (calls_up (up_drew _) (firstLink_any c _)).mono ?_; rintro e wA ⟨rfl, uA⟩))
  all_goals
    go_wp2
    go_ret
    exact ⟨rfl, (Up.alloc _ _).trans (by assumption)⟩

set_option maxHeartbeats 1000000 in
theorem laylen_any (c : Cf) (w : World) :
    Calls Tryz.prog 29 #[c.v] w fun e w' => e = .returned (.int .i64 (lenN c)) ∧ Up w w' := by
  have hat := c.at_new w
  cases hm : mayB c
  · rw [lenN_no hm]
    have H := Lib.hid hm
    clear hm
    go_enter Tryz.func29, Tryz.ntmps29
    go_wp2_with (go_at_call 70; refine (may_any c _).mono ?_; rw [H.out]; rintro e wA ⟨rfl, uA⟩)
    go_ret
    exact ⟨rfl, (Up.alloc _ _).trans uA⟩
  · rw [lenN_is hm]
    have H := Lib.hid hm
    have F := Lib.hid (fwV_is hm)
    obtain ⟨⟨_, _⟩, ⟨m0, m1⟩, ⟨n0, n1, _⟩, ⟨_, _⟩, _⟩ := mayB_iff.1 hm
    obtain ⟨p0, p1⟩ := mul_in (show 0 ≤ c.ch by omega) m1 (show 0 ≤ c.wo by omega) n1
    have q : 0 ≤ fwN c ∧ fwN c ≤ 20000 := by unfold fwN; omega
    obtain ⟨q0, q1⟩ := q
    have s1 : IntKind.i64.wrap (c.ch * c.wo) = c.ch * c.wo := wrap_in (by omega) (by omega)
    have s2 : IntKind.i64.wrap (fwN c + c.ch * c.wo) = fwN c + c.ch * c.wo := wrap_in (by omega) (by omega)
    clear hm
    go_enter Tryz.func29, Tryz.ntmps29
    go_wp2_with (go_at_call 70; refine (may_any c _).mono ?_; rw [H.out]; rintro e wA ⟨rfl, uA⟩; replace hat := hat.up uA)
    go_region_held3 (fun w' => w'.cell? ⟨w.heap.size, 0, none⟩ = some (.int .i64 c.wk) ∧ w'.cell? ⟨w.heap.size, 1, none⟩ = some (.int .i64 c.ch) ∧ w'.cell? ⟨w.heap.size, 2, none⟩ = some (.int .i64 c.wo) ∧ w'.cell? ⟨w.heap.size, 3, none⟩ = some (.int .i64 c.sl) ∧ w'.cell? ⟨w.heap.size, 4, none⟩ = some (.int .i64 c.ca) ∧ w'.cell? ⟨w.heap.size, 5, none⟩ = some (.int .i64 c.ba) ∧ Up wA w')
      (first | exact hat.with (up_drew _) | exact hat.with (by assumption))
      (first
        | (go_at_call 71; refine (calls_up (up_drew _) (firstWord_any c _)).mono ?_; rw [F.out]; rintro e wB ⟨rfl, uB⟩))
    all_goals
      go_wp2
      go_ret
      exact ⟨rfl, (Up.alloc _ _).trans (uA.trans (by assumption))⟩

set_option maxHeartbeats 1000000 in
theorem one_any (c : Cf) (f i m : Int) (w : World) (h : mayB c = true → (0 ≤ f ∧ f ≤ 100000000) ∧ (0 ≤ m ∧ m ≤ 100000000)) :
    Calls Tryz.prog 117 #[c.v, .int .i64 f, .int .i64 i, .int .i64 m] w fun e w' => e = .returned (.int .i64 (atN c f m i)) ∧ Up w w' := by
  cases hm : mayB c
  · rw [atN_no (.inl hm)]
    have H := Lib.hid hm
    clear hm h
    go_enter Tryz.func117, Tryz.ntmps117
    go_wp2_with (go_at_call 70; refine (may_any c _).mono ?_; rw [H.out]; rintro e wA ⟨rfl, uA⟩)
    go_ret
    exact ⟨rfl, (Up.alloc _ _).trans uA⟩
  · obtain ⟨⟨f0, f1⟩, m0, m1⟩ := h hm
    have H := Lib.hid hm
    by_cases hi : 0 ≤ i ∧ i ≤ m - 1
    · obtain ⟨i0, i1⟩ := hi
      rw [atN_is hm i0 (by omega)]
      have E := Lib.hid (dec_yes (show 0 ≤ i ∧ i ≤ m - 1 from ⟨i0, i1⟩))
      clear hm h
      go_enter Tryz.func117, Tryz.ntmps117
      go_wp2_with (first
        | (go_at_call 70; refine (may_any c _).mono ?_; rw [H.out]; rintro e wA ⟨rfl, uA⟩)
        | (go_at_call 114; (with_reducible refine (from_is E.out _).mono ?_); rintro e w' ⟨rfl, rfl⟩))
      go_ret
      exact ⟨rfl, (Up.alloc _ _).trans uA⟩
    · rw [atN_no (.inr (by omega))]
      have E := Lib.hid (dec_no hi)
      clear hm h hi
      go_enter Tryz.func117, Tryz.ntmps117
      go_wp2_with (first
        | (go_at_call 70; refine (may_any c _).mono ?_; rw [H.out]; rintro e wA ⟨rfl, uA⟩)
        | (go_at_call 114; (with_reducible refine (from_is E.out _).mono ?_); rintro e w' ⟨rfl, rfl⟩))
      go_ret
      exact ⟨rfl, (Up.alloc _ _).trans uA⟩

set_option maxHeartbeats 1000000 in
theorem link_any (c : Cf) (i : Int) (w : World) :
    Calls Tryz.prog 74 #[c.v, .int .i64 i] w fun e w' => e = .returned (.int .i64 (llinkN c i)) ∧ Up w w' := by
  have hat := c.at_new w
  have B : mayB c = true → (0 ≤ flV c ∧ flV c ≤ 100000000) ∧ (0 ≤ c.ch ∧ c.ch ≤ 100000000) := fun hm => by
    obtain ⟨⟨_, _⟩, ⟨_, _⟩, _, ⟨_, _⟩, _⟩ := mayB_iff.1 hm
    rw [flV_is hm]; omega
  have E : atN c (flV c) c.ch i = llinkN c i := by
    unfold llinkN
    cases hm : mayB c
    · rw [atN_no (.inl hm), atN_no (.inl hm)]
    · rw [flV_is hm]
  have B' := Lib.hid B
  have E' := Lib.hid E
  clear B E
  go_enter Tryz.func74, Tryz.ntmps74
  go_wp2_with fail
  go_region_held3 (fun w' => w'.cell? ⟨w.heap.size, 0, none⟩ = some (.int .i64 c.wk) ∧ w'.cell? ⟨w.heap.size, 1, none⟩ = some (.int .i64 c.ch) ∧ w'.cell? ⟨w.heap.size, 2, none⟩ = some (.int .i64 c.wo) ∧ w'.cell? ⟨w.heap.size, 3, none⟩ = some (.int .i64 c.sl) ∧ w'.cell? ⟨w.heap.size, 4, none⟩ = some (.int .i64 c.ca) ∧ w'.cell? ⟨w.heap.size, 5, none⟩ = some (.int .i64 c.ba) ∧ Up (w.alloc c.box) w')
    (first | exact hat.with (up_drew _) | exact hat.with (by assumption))
    (first
      | (go_at_call 115; refine (calls_up (up_drew _) (firstLink_any c _)).mono ?_; rintro e wA ⟨rfl, uA⟩)
      | (go_at_call 117; refine (calls_up uA (one_any c _ _ _ _ B'.out)).mono ?_; rw [E'.out]; rintro e wB ⟨rfl, uB⟩))
  all_goals
    go_wp2
    go_ret
    exact ⟨rfl, (Up.alloc _ _).trans uB⟩
end Go.Proofs.YtkopplnjomkleaaGreat

/-
  The contracts of package lay: a word's cell; what a cell is.
-/
namespace Go.Proofs.YtkopplnjomkleaaGreat
open Go.RowKit

/-- What's answer. -/
abbrev whatV (t : Int × Int × Int) : Value := .tuple #[.int .i64 t.1, .int .i64 t.2.1, .int .i64 t.2.2]
theorem ret_what {t : Int × Int × Int} {a b d : Int} (h : t = (a, b, d)) : Ending.returned (.tuple #[.int .i64 a, .int .i64 b, .int .i64 d]) = .returned (whatV t) := by subst h; rfl

end Go.Proofs.YtkopplnjomkleaaGreat
