/-
  Texts beneath SupplyAll, part 20: RStkStep, RefLay, RefRoots, RefRest.
-/
import Derived.Test.YtkopplnjomkleaaGreatPart19
/-
  The reference's stack: Step, Got of a Pop, Step of a Push, told by the same plain data (Po, Pu), at any memory; both begin.
-/
namespace Go.Proofs.YtkopplnjomkleaaGreat
open Go.RowKit
open W64
set_option maxRecDepth 100000
section
variable {w w' : World} {p g q hd ln n b r : Nat} {xs xs' : List Int} {c c' : Int} {v v' : Value} {P : Po} {U : Pu} {l : List Nat} {own : List Nat}
theorem REnv.went (E : REnv w p g q hd ln n xs c) (m : Ref w' p g xs' c') {t : List Nat} (u : Else t w w') (hq : q ∉ t) (ok : Words xs') (hl : xs'.length = xs.length) : REnv w' p g q hd ln n xs' c' := E.turn m u hq ok hl
def RAcc (w : World) (p g q hd ln n : Nat) (c : Int) (xs : List Int) (own : List Nat) (M : World → Prop) (w' : World) : Prop :=
  REnv w' p g q hd ln n xs (wrap64 (c + 1)) ∧ M w' ∧ Else (own ++ [p, g]) w w'
structure RPoM (w : World) (b q n : Nat) (v : Value) (P : Po) : Prop where
  at_ : RPopAt w b q v P.l P.most P.i P.deep P.old P.fin
  ok : P.Ok n
theorem RPoM.else (M : RPoM w b q n v P) {t : List Nat} (u : Else t w w') (h1 : b ∉ t) (h2 : Away v t) : RPoM w' b q n v P := ⟨M.at_.else u h1 h2, M.ok⟩
theorem RPoM.up (M : RPoM w b q n v P) (u : Up w w') : RPoM w' b q n v P := ⟨M.at_.up u, M.ok⟩
structure RPuM (w : World) (b q n : Nat) (v : Value) (P : Pu) : Prop where
  at_ : RPushAt w b q v P.l P.i P.old P.fin
  ok : P.Ok n
theorem RPuM.else (M : RPuM w b q n v U) {t : List Nat} (u : Else t w w') (h1 : b ∉ t) (h2 : Away v t) : RPuM w' b q n v U := ⟨M.at_.else u h1 h2, M.ok⟩
theorem RPuM.up (M : RPuM w b q n v U) (u : Up w w') : RPuM w' b q n v U := ⟨M.at_.up u, M.ok⟩
theorem rpopGot (M : RPoM w b q n v P) : Calls Tryz.prog 89 #[.pointer (some ⟨b, 0, none⟩)] w fun e w' => ∃ o, e = .returned o ∧ Ints w' o (I (if P.fin then P.l else [])) ∧ Fresh w o ∧ Up w w' :=
  rgot_any M.at_ (Nat.le_trans M.ok.len M.ok.m8)
theorem rapart_own (A : Apart b p g q v) (E : REnv w p g q hd ln n xs c) : q ∉ [b, p, g] := by simp [A.bq.symm, E.np, E.ng]
theorem rpoStep (E : REnv w p g q hd ln n xs c) (A : Apart b p g q v) (M : RPoM w b q n v P) (hf : P.fin = false) :
    Calls Tryz.prog 88 #[.pointer (some ⟨b, 0, none⟩)] w fun e w' => e = .returned (.bool true) ∧ ∃ v', Near w v v' ∧ RAcc w p g q hd ln n c (P.xs hd xs) (b :: v.ownBlock.toList) (fun w' => RPoM w' b q n v' (P.go n hd ln xs)) w' := by
  have K := M.ok
  have KG := K.go (hd := hd) (ln := ln) (xs := xs) E.ok E.n0
  have H := M.at_
  have hq := rapart_own A E
  obtain ⟨most, i, deep, old, l, fin⟩ := P
  dsimp only at hf
  subst hf
  have hl8 : l.length ≤ 8 := Nat.le_trans K.len K.m8
  rcases (show i = 0 ∨ i = 1 ∨ i = 2 by have := K.i2; dsimp only at this; omega) with rfl | rfl | rfl
  · have ex : Po.xs hd xs ⟨most, 0, deep, old, l, false⟩ = xs := by unfold Po.xs; rw [if_neg (by simp)]
    rw [ex]
    by_cases ht : topN n (xs.getD hd 0) = -1
    · have eg : Po.go n hd ln xs ⟨most, 0, deep, old, l, false⟩ = ⟨most, 0, deep, xs.getD hd 0, [], true⟩ := by unfold Po.go; rw [if_pos rfl, if_pos ht]
      rw [eg] at KG ⊢
      refine (rpop_none E H A ht).mono ?_
      rintro e w' ⟨rfl, P2, M2, E2⟩
      exact ⟨rfl, _, .inr (.inl rfl), E.went M2 E2 hq E.ok rfl, ⟨P2, KG⟩, own_wide E2 _⟩
    · obtain ⟨t, ht2⟩ : ∃ t : Nat, topN n (xs.getD hd 0) = t := ⟨_, (topN_nat (E.ok hd).1 E.n0 ht).1⟩
      have eg : Po.go n hd ln xs ⟨most, 0, deep, old, l, false⟩ = ⟨most, 1, deep, xs.getD hd 0, [t], false⟩ := by unfold Po.go; rw [if_pos rfl, if_neg ht, ht2]; rfl
      rw [eg] at KG ⊢
      refine (rpop_head E H A ht2).mono ?_
      rintro e w' ⟨rfl, ⟨r, cap, hr, P2⟩, M2, E2⟩
      exact ⟨rfl, _, .inr (.inr ⟨r, rfl, hr⟩), E.went M2 E2 hq E.ok rfl, ⟨P2, KG⟩, own_wide E2 _⟩
  · have ex : Po.xs hd xs ⟨most, 1, deep, old, l, false⟩ = xs := by unfold Po.xs; rw [if_neg (by simp)]
    rw [ex]
    have hne : l ≠ [] := K.ne (by simp)
    by_cases hb : belowN n (xs.getD (ln + l.getD (l.length - 1) 0) 0) = -1
    · have eg : Po.go n hd ln xs ⟨most, 1, deep, old, l, false⟩ = ⟨most, 2, -1, old, l, false⟩ := by
        unfold Po.go Po.last; dsimp only; rw [if_neg (by decide), if_pos rfl, if_pos (.inl hb), hb]
      rw [eg] at KG ⊢
      refine (rpop_stopA E H A hne K.lt hl8 hb).mono ?_
      rintro e w' ⟨rfl, P2, M2, E2⟩
      exact ⟨rfl, _, .inl rfl, E.went M2 E2 hq E.ok rfl, ⟨P2, KG⟩, own_wide E2 _⟩
    · obtain ⟨d, hd2⟩ : ∃ d : Nat, belowN n (xs.getD (ln + l.getD (l.length - 1) 0) 0) = d := ⟨_, (belowN_nat (E.ok _).1 E.n0 hb).1⟩
      by_cases hm : l.length = most
      · have eg : Po.go n hd ln xs ⟨most, 1, deep, old, l, false⟩ = ⟨most, 2, d, old, l, false⟩ := by
          unfold Po.go Po.last; dsimp only; rw [if_neg (by decide), if_pos rfl, if_pos (.inr hm), hd2]
        rw [eg] at KG ⊢
        refine (rpop_stopB E H A hne K.lt hl8 hm hd2).mono ?_
        rintro e w' ⟨rfl, P2, M2, E2⟩
        exact ⟨rfl, _, .inl rfl, E.went M2 E2 hq E.ok rfl, ⟨P2, KG⟩, own_wide E2 _⟩
      · have eg : Po.go n hd ln xs ⟨most, 1, deep, old, l, false⟩ = ⟨most, 1, d, old, l ++ [d], false⟩ := by
          unfold Po.go Po.last; dsimp only; rw [if_neg (by decide), if_pos rfl, if_neg (fun h => h.elim hb hm), hd2]; rfl
        rw [eg] at KG ⊢
        obtain ⟨r0, c0, hv, _⟩ := H.row.get hne
        subst hv
        have h9 := K.len
        dsimp only at h9
        refine (rpop_more E H A hne K.lt hl8 (show l.length < most by omega) hd2).mono ?_
        rintro e w' ⟨rfl, ⟨r, cap, hr, P2⟩, M2, E2⟩
        have E3 := E2 r0 rfl
        have hq3 : q ∉ [b, r0, p, g] := by have := A.vq; simp [Value.ownBlock] at this; simp [A.bq.symm, E.np, E.ng]; exact fun h => this h.symm
        refine ⟨rfl, .slice (some ⟨r, 0, none⟩) (l.length + 1) cap, ?_, E.went M2 E3 hq3 E.ok rfl, ⟨?_, KG⟩, E3⟩
        · rcases hr with h | h
          · exact .inl h.symm
          · exact .inr (.inr ⟨r, rfl, h⟩)
        · exact P2
  · have d2 := K.d2 rfl
    dsimp only at d2
    have o0 := K.o0
    have o1 := K.o1
    dsimp only at o0 o1
    by_cases hc : xs.getD hd 0 = old
    · have ex : Po.xs hd xs ⟨most, 2, deep, old, l, false⟩ = xs.set hd (nextW old deep) := by unfold Po.xs; rw [if_pos ⟨rfl, hc⟩]
      have eg : Po.go n hd ln xs ⟨most, 2, deep, old, l, false⟩ = ⟨most, 0, deep, old, l, true⟩ := by
        unfold Po.go; dsimp only; rw [if_neg (by decide), if_neg (by decide), decide_eq_true hc]
      rw [ex]
      rw [eg] at KG ⊢
      have hw := nextW_in old deep
      refine (rpop_yes E H A o0 o1 d2.1 d2.2 hc).mono ?_
      rintro e w' ⟨rfl, P2, M2, E2⟩
      exact ⟨rfl, _, .inl rfl, E.went M2 E2 hq (ok_set E.ok hw.1 hw.2) List.length_set, ⟨P2, KG⟩, own_wide E2 _⟩
    · have ex : Po.xs hd xs ⟨most, 2, deep, old, l, false⟩ = xs := by unfold Po.xs; rw [if_neg (fun h => hc h.2)]
      have eg : Po.go n hd ln xs ⟨most, 2, deep, old, l, false⟩ = ⟨most, 0, deep, old, l, false⟩ := by
        unfold Po.go; dsimp only; rw [if_neg (by decide), if_neg (by decide), decide_eq_false hc]
      rw [ex]
      rw [eg] at KG ⊢
      refine (rpop_no E H A o0 o1 d2.1 d2.2 hc).mono ?_
      rintro e w' ⟨rfl, P2, M2, E2⟩
      exact ⟨rfl, _, .inl rfl, E.went M2 E2 hq E.ok rfl, ⟨P2, KG⟩, own_wide E2 _⟩
theorem rpuStep (E : REnv w p g q hd ln n xs c) (A : Apart b p g q v) (M : RPuM w b q n v U) (hf : U.fin = false) :
    Calls Tryz.prog 90 #[.pointer (some ⟨b, 0, none⟩)] w fun e w' => e = .returned (.bool true) ∧ RAcc w p g q hd ln n c (U.xs n hd ln xs) (b :: v.ownBlock.toList) (fun w' => RPuM w' b q n v (U.go hd xs)) w' := by
  have K := M.ok
  have KG := K.go (hd := hd) (xs := xs) E.ok
  have H := M.at_
  have hq := rapart_own A E
  have n0 := E.n0
  have n1 := E.n1
  obtain ⟨l, i, old, fin⟩ := U
  obtain ⟨hne, hlt, hl, htop, o0, o1⟩ := K
  dsimp only at hf hne hlt hl htop o0 o1
  subst hf
  have hlp := List.length_pos_iff.2 hne
  dsimp only at H
  by_cases h1 : i + 1 < l.length
  · have m1 := hlt _ (show l.getD (i + 1) 0 ∈ l by simp [List.getD, h1])
    have eg : Pu.go hd xs ⟨l, i, old, false⟩ = ⟨l, i + 1, old, false⟩ := by unfold Pu.go; dsimp only; rw [if_pos h1]
    have ex : Pu.xs n hd ln xs ⟨l, i, old, false⟩ = xs.set (ln + l.getD i 0) ((l.getD (i + 1) 0 : Nat) + 1) := by unfold Pu.xs; dsimp only; rw [if_pos h1]
    rw [ex]
    rw [eg] at KG ⊢
    refine (rpush_link E H A hne hlt hl h1).mono ?_
    rintro e w' ⟨rfl, P2, M2, E2⟩
    exact ⟨rfl, E.went M2 E2 hq (ok_set E.ok (by omega) (by omega)) List.length_set, ⟨P2, KG⟩, own_wide E2 _⟩
  · by_cases h2 : i + 1 = l.length
    · have eg : Pu.go hd xs ⟨l, i, old, false⟩ = ⟨l, i + 1, xs.getD hd 0, false⟩ := by unfold Pu.go; dsimp only; rw [if_neg h1, if_pos h2]
      have ex : Pu.xs n hd ln xs ⟨l, i, old, false⟩ = xs := by unfold Pu.xs; dsimp only; rw [if_neg h1, if_pos h2]
      rw [ex]
      rw [eg] at KG ⊢
      refine (rpush_load E H A hne hlt hl h2).mono ?_
      rintro e w' ⟨rfl, P2, M2, E2⟩
      exact ⟨rfl, E.went M2 E2 hq E.ok rfl, ⟨P2, KG⟩, own_wide E2 _⟩
    · by_cases h3 : i = l.length
      · have t := topN_in (n := n) o0 n0
        have eg : Pu.go hd xs ⟨l, i, old, false⟩ = ⟨l, i + 1, old, false⟩ := by unfold Pu.go; dsimp only; rw [if_neg h1, if_neg h2, if_pos h3]
        have ex : Pu.xs n hd ln xs ⟨l, i, old, false⟩ = xs.set (ln + l.getD (l.length - 1) 0) (topN n old + 1) := by unfold Pu.xs; dsimp only; rw [if_neg h1, if_neg h2, if_pos h3]
        rw [ex]
        rw [eg] at KG ⊢
        refine (rpush_last E H A hne hlt hl h3 o0 o1).mono ?_
        rintro e w' ⟨rfl, P2, M2, E2⟩
        exact ⟨rfl, E.went M2 E2 hq (ok_set E.ok (by omega) (by omega)) List.length_set, ⟨P2, KG⟩, own_wide E2 _⟩
      · by_cases hc : xs.getD hd 0 = old
        · have eg : Pu.go hd xs ⟨l, i, old, false⟩ = ⟨l, l.length - 1, old, true⟩ := by unfold Pu.go; dsimp only; rw [if_neg h1, if_neg h2, if_neg h3, decide_eq_true hc]
          have ex : Pu.xs n hd ln xs ⟨l, i, old, false⟩ = xs.set hd (nextW old (l.getD 0 0 : Nat)) := by unfold Pu.xs; dsimp only; rw [if_neg h1, if_neg h2, if_neg h3, if_pos hc]
          rw [ex]
          rw [eg] at KG ⊢
          have hw := nextW_in old (l.getD 0 0 : Nat)
          refine (rpush_yes E H A hne hlt hl (by omega) o0 o1 hc).mono ?_
          rintro e w' ⟨rfl, P2, M2, E2⟩
          exact ⟨rfl, E.went M2 E2 hq (ok_set E.ok hw.1 hw.2) List.length_set, ⟨P2, KG⟩, own_wide E2 _⟩
        · have eg : Pu.go hd xs ⟨l, i, old, false⟩ = ⟨l, l.length - 1, old, false⟩ := by unfold Pu.go; dsimp only; rw [if_neg h1, if_neg h2, if_neg h3, decide_eq_false hc]
          have ex : Pu.xs n hd ln xs ⟨l, i, old, false⟩ = xs := by unfold Pu.xs; dsimp only; rw [if_neg h1, if_neg h2, if_neg h3, if_neg hc]
          rw [ex]
          rw [eg] at KG ⊢
          refine (rpush_no E H A hne hlt hl (by omega) o0 o1 hc).mono ?_
          rintro e w' ⟨rfl, P2, M2, E2⟩
          exact ⟨rfl, E.went M2 E2 hq E.ok rfl, ⟨P2, KG⟩, own_wide E2 _⟩
theorem rpoNew (m : Int) {most : Nat} (hm : min (max m 1) 8 = most) (n : Nat) :
    Calls Tryz.prog 123 #[.pointer (some ⟨q, 0, none⟩), .int .i64 m] w fun e w' => e = .returned (.pointer (some ⟨w.heap.size, 0, none⟩)) ∧ RPoM w' w.heap.size q n (.slice none 0 0) ⟨most, 0, 0, 0, [], false⟩ ∧ Up w w' := by
  refine (rpop_new m hm).mono ?_
  rintro e w' ⟨rfl, P, U⟩
  exact ⟨rfl, ⟨P, ⟨by dsimp only; omega, by dsimp only; omega, by simp, by simp, by simp, by simp, by simp, by simp, by simp⟩⟩, U⟩
theorem rpuNew (R : Rd w v (I l)) (h0 : l ≠ []) (hlt : ∀ x ∈ l, x < n) (hl : l.length ≤ 8000) :
    Calls Tryz.prog 127 #[.pointer (some ⟨q, 0, none⟩), v] w fun e w' => ∃ b v', e = .returned (.pointer (some ⟨b, 0, none⟩)) ∧ RPuM w' b q n v' ⟨l, 0, 0, false⟩ ∧ w.heap.size ≤ b ∧ Fresh w v' ∧ Up w w' := by
  refine (rpush_new R h0 hl).mono ?_
  rintro e w' ⟨b, v', rfl, P, hb, hr, U⟩
  exact ⟨b, v', rfl, ⟨P, ⟨h0, hlt, by dsimp only; omega, by dsimp only; omega, by simp, by simp⟩⟩, hb, hr, U⟩
end
end Go.Proofs.YtkopplnjomkleaaGreat

/-
  The contracts of the document's own answers about cells (rundaleref1, P4.1, P4.2).
-/
namespace Go.Proofs.YtkopplnjomkleaaGreat
open Go.RowKit

set_option maxHeartbeats 400000 in
theorem in_any (v a b : Int) (w : World) :
    Calls Tryz.prog 145 #[.int .i64 v, .int .i64 a, .int .i64 b] w fun e w' => e = .returned (.bool (decide (a ≤ v ∧ v ≤ b))) ∧ w = w' := by
  go_enter Tryz.func145, Tryz.ntmps145
  go_wp2
  all_goals
    go_ret
    refine ⟨ret_bool ?_, rfl⟩
    simp [*]
  all_goals omega
theorem in_is {a n b : Int} {r : Bool} (e : decide (a ≤ n ∧ n ≤ b) = r) (w : World) :
    Calls Tryz.prog 145 #[.int .i64 n, .int .i64 a, .int .i64 b] w fun e w' => e = .returned (.bool r) ∧ w = w' := e ▸ in_any n a b w

set_option maxHeartbeats 2000000 in
theorem rmay_any (c : Cf) (w : World) :
    Calls Tryz.prog 120 #[c.v] w fun e w' => e = .returned (.bool (mayB c)) ∧ Up w w' := by
  have A := may_ways c
  obtain ⟨b1, f1⟩ : ∃ b, decide (1 ≤ c.wk ∧ c.wk ≤ 64) = b := ⟨_, rfl⟩
  obtain ⟨b2, f2⟩ : ∃ b, decide (1 ≤ c.ch ∧ c.ch ≤ 4096) = b := ⟨_, rfl⟩
  obtain ⟨b3, f3⟩ : ∃ b, decide (8 ≤ c.wo ∧ c.wo ≤ 1024) = b := ⟨_, rfl⟩
  obtain ⟨b4, f4⟩ : ∃ b, decide (1 ≤ c.sl ∧ c.sl ≤ 4096) = b := ⟨_, rfl⟩
  obtain ⟨b5, f5⟩ : ∃ b, decide (0 ≤ c.ca ∧ c.ca ≤ 64) = b := ⟨_, rfl⟩
  obtain ⟨b6, f6⟩ : ∃ b, decide (1 ≤ c.ba ∧ c.ba ≤ 8) = b := ⟨_, rfl⟩
  obtain ⟨r, fr⟩ : ∃ b, mayB c = b := ⟨_, rfl⟩
  rw [f1, f2, f3, f4, f5, f6, fr] at A
  rw [fr]
  have e1 := Lib.hid f1
  have e2 := Lib.hid f2
  have e3 := Lib.hid f3
  have e4 := Lib.hid f4
  have e5 := Lib.hid f5
  have e6 := Lib.hid f6
  clear f1 f2 f3 f4 f5 f6 fr
  rcases A with ⟨rfl, rfl⟩ | ⟨rfl, rfl, rfl⟩ | ⟨rfl, rfl, rfl, rfl⟩ | ⟨rfl, rfl, rfl, g0, g1, g2, rfl⟩ | ⟨rfl, rfl, rfl, g0, g1, g2, rfl, rfl⟩ | ⟨rfl, rfl, rfl, g0, g1, g2, rfl, rfl, rfl⟩ | ⟨rfl, rfl, rfl, g0, g1, g2, rfl, rfl, rfl⟩
  all_goals
    go_enter Tryz.func120, Tryz.ntmps120
    go_wp2_with (first
      | (go_at_call 145; (with_reducible refine (in_is e1.out _).mono ?_); rintro e w' ⟨rfl, rfl⟩)
      | (go_at_call 145; (with_reducible refine (in_is e2.out _).mono ?_); rintro e w' ⟨rfl, rfl⟩)
      | (go_at_call 145; (with_reducible refine (in_is e3.out _).mono ?_); rintro e w' ⟨rfl, rfl⟩)
      | (go_at_call 145; (with_reducible refine (in_is e4.out _).mono ?_); rintro e w' ⟨rfl, rfl⟩)
      | (go_at_call 145; (with_reducible refine (in_is e5.out _).mono ?_); rintro e w' ⟨rfl, rfl⟩)
      | (go_at_call 145; (with_reducible refine (in_is e6.out _).mono ?_); rintro e w' ⟨rfl, rfl⟩))
    go_ret
    exact ⟨rfl, Up.alloc _ _⟩


set_option maxHeartbeats 1000000 in
theorem rlen_any (c : Cf) (w : World) :
    Calls Tryz.prog 77 #[c.v] w fun e w' => e = .returned (.int .i64 (lenN c)) ∧ Up w w' := by
  have hat := c.at_new w
  cases hm : mayB c
  · rw [lenN_no hm]
    have H := Lib.hid hm
    clear hm
    go_enter Tryz.func77, Tryz.ntmps77
    go_wp2_with (go_at_call 120; refine (rmay_any c _).mono ?_; rw [H.out]; rintro e wA ⟨rfl, uA⟩)
    go_ret
    exact ⟨rfl, (Up.alloc _ _).trans uA⟩
  · rw [lenN_is hm]
    have H := Lib.hid hm
    obtain ⟨⟨_, _⟩, ⟨_, m1⟩, ⟨_, n1⟩, ⟨_, _⟩, ⟨f0, f1⟩, ⟨_, _⟩⟩ := may_small hm
    have s1 : IntKind.i64.wrap (c.ch * c.wo) = c.ch * c.wo := wrap_in (by omega) (by omega)
    have s2 : IntKind.i64.wrap (3 + c.wk + 2 * c.sl + c.ch + c.ch * c.wo) = 3 + c.wk + 2 * c.sl + c.ch + c.ch * c.wo := wrap_in (by omega) (by omega)
    clear hm
    go_enter Tryz.func77, Tryz.ntmps77
    go_wp2_with (go_at_call 120; refine (rmay_any c _).mono ?_; rw [H.out]; rintro e wA ⟨rfl, uA⟩; obtain ⟨h0, h1, h2, h3, h4, h5⟩ := hat.up uA)
    go_ret
    exact ⟨ret_int (by unfold fwN; rfl), (Up.alloc _ _).trans uA⟩

set_option maxHeartbeats 1000000 in
theorem rat_any (c : Cf) (f m i : Int) (w : World) (h : mayB c = true → (0 ≤ f ∧ f ≤ 100000000) ∧ (0 ≤ m ∧ m ≤ 100000000)) :
    Calls Tryz.prog 83 #[c.v, .int .i64 f, .int .i64 m, .int .i64 i] w fun e w' => e = .returned (.int .i64 (atN c f m i)) ∧ Up w w' := by
  cases hm : mayB c
  · rw [atN_no (.inl hm)]
    have H := Lib.hid hm
    clear hm h
    go_enter Tryz.func83, Tryz.ntmps83
    go_wp2_with (go_at_call 120; refine (rmay_any c _).mono ?_; rw [H.out]; rintro e wA ⟨rfl, uA⟩)
    go_ret
    exact ⟨rfl, (Up.alloc _ _).trans uA⟩
  · obtain ⟨⟨f0, f1⟩, m0, m1⟩ := h hm
    have H := Lib.hid hm
    by_cases hi : 0 ≤ i ∧ i < m
    · obtain ⟨i0, i1⟩ := hi
      rw [atN_is hm i0 i1]
      clear hm h
      go_enter Tryz.func83, Tryz.ntmps83
      go_wp2_with (go_at_call 120; refine (rmay_any c _).mono ?_; rw [H.out]; rintro e wA ⟨rfl, uA⟩)
      go_ret
      exact ⟨rfl, (Up.alloc _ _).trans uA⟩
    · rw [atN_no (.inr hi)]
      clear hm h
      rcases (show i < 0 ∨ (0 ≤ i ∧ m ≤ i) by omega) with hj | ⟨hj, hk⟩
      all_goals
        clear hi
        go_enter Tryz.func83, Tryz.ntmps83
        go_wp2_with (go_at_call 120; refine (rmay_any c _).mono ?_; rw [H.out]; rintro e wA ⟨rfl, uA⟩)
        go_ret
        exact ⟨rfl, (Up.alloc _ _).trans uA⟩
theorem rat_no (c : Cf) (f m i : Int) (w : World) (h : mayB c = false) :
    Calls Tryz.prog 83 #[c.v, .int .i64 f, .int .i64 m, .int .i64 i] w fun e w' => e = .returned (.int .i64 (-1)) ∧ Up w w' := by
  have k := rat_any c f m i w (fun hm => by rw [h] at hm; cases hm)
  rw [atN_no (.inl h)] at k
  exact k

set_option maxHeartbeats 1000000 in
theorem rpin_any (c : Cf) (i : Int) (w : World) :
    Calls Tryz.prog 79 #[c.v, .int .i64 i] w fun e w' => e = .returned (.int .i64 (lpinN c i)) ∧ Up w w' := by
  have hat := c.at_new w
  cases hm : mayB c
  · unfold lpinN
    rw [atN_no (.inl hm)]
    have H := Lib.hid hm
    clear hm
    go_enter Tryz.func79, Tryz.ntmps79
    go_wp2_with (go_at_call 83; refine (rat_no c _ _ _ _ H.out).mono ?_; rintro e wA ⟨rfl, uA⟩)
    go_ret
    exact ⟨rfl, (Up.alloc _ _).trans uA⟩
  · obtain ⟨⟨_, _⟩, ⟨_, _⟩, ⟨_, _⟩, ⟨_, _⟩, _⟩ := may_small hm
    have B' := Lib.hid (show mayB c = true → (0 ≤ (3 : Int) ∧ (3 : Int) ≤ 100000000) ∧ (0 ≤ c.wk ∧ c.wk ≤ 100000000) from fun _ => by omega)
    clear hm
    go_enter Tryz.func79, Tryz.ntmps79
    go_wp2_with (go_at_call 83; refine (rat_any c _ _ _ _ B'.out).mono ?_; rintro e wA ⟨rfl, uA⟩)
    go_ret
    exact ⟨rfl, (Up.alloc _ _).trans uA⟩

set_option maxHeartbeats 1000000 in
theorem rslot_any (c : Cf) (i : Int) (w : World) :
    Calls Tryz.prog 35 #[c.v, .int .i64 i] w fun e w' => e = .returned (.int .i64 (lslotN c i)) ∧ Up w w' := by
  have hat := c.at_new w
  cases hm : mayB c
  · unfold lslotN
    rw [atN_no (.inl hm)]
    have H := Lib.hid hm
    clear hm
    go_enter Tryz.func35, Tryz.ntmps35
    go_wp2_with (go_at_call 83; refine (rat_no c _ _ _ _ H.out).mono ?_; rintro e wA ⟨rfl, uA⟩)
    go_ret
    exact ⟨rfl, (Up.alloc _ _).trans uA⟩
  · obtain ⟨⟨_, _⟩, ⟨_, _⟩, ⟨_, _⟩, ⟨_, _⟩, _⟩ := may_small hm
    have B' := Lib.hid (show mayB c = true → (0 ≤ (3 + c.wk + c.sl) ∧ (3 + c.wk + c.sl) ≤ 100000000) ∧ (0 ≤ c.sl ∧ c.sl ≤ 100000000) from fun _ => by omega)
    clear hm
    go_enter Tryz.func35, Tryz.ntmps35
    go_wp2_with (go_at_call 83; refine (rat_any c _ _ _ _ B'.out).mono ?_; rintro e wA ⟨rfl, uA⟩)
    go_ret
    exact ⟨rfl, (Up.alloc _ _).trans uA⟩

set_option maxHeartbeats 1000000 in
theorem rlink_any (c : Cf) (i : Int) (w : World) :
    Calls Tryz.prog 78 #[c.v, .int .i64 i] w fun e w' => e = .returned (.int .i64 (llinkN c i)) ∧ Up w w' := by
  have hat := c.at_new w
  cases hm : mayB c
  · unfold llinkN
    rw [atN_no (.inl hm)]
    have H := Lib.hid hm
    clear hm
    go_enter Tryz.func78, Tryz.ntmps78
    go_wp2_with (go_at_call 83; refine (rat_no c _ _ _ _ H.out).mono ?_; rintro e wA ⟨rfl, uA⟩)
    go_ret
    exact ⟨rfl, (Up.alloc _ _).trans uA⟩
  · obtain ⟨⟨_, _⟩, ⟨_, _⟩, ⟨_, _⟩, ⟨_, _⟩, _⟩ := may_small hm
    have B' := Lib.hid (show mayB c = true → (0 ≤ (3 + c.wk + 2 * c.sl) ∧ (3 + c.wk + 2 * c.sl) ≤ 100000000) ∧ (0 ≤ c.ch ∧ c.ch ≤ 100000000) from fun _ => by omega)
    clear hm
    go_enter Tryz.func78, Tryz.ntmps78
    go_wp2_with (go_at_call 83; refine (rat_any c _ _ _ _ B'.out).mono ?_; rintro e wA ⟨rfl, uA⟩)
    go_ret
    exact ⟨rfl, (Up.alloc _ _).trans uA⟩

theorem ret_what' {t : Int × Int × Int} {a b d a' b' d' : Int} (h : t = (a, b, d)) (ha : a' = a) (hb : b' = b) (hd : d' = d) : Ending.returned (.tuple #[.int .i64 a', .int .i64 b', .int .i64 d']) = .returned (whatV t) := by subst h ha hb hd; rfl

end Go.Proofs.YtkopplnjomkleaaGreat

/-
  The reference's memory laid out by a configuration (RW); its Look.
-/
namespace Go.Proofs.YtkopplnjomkleaaGreat
open Go.RowKit
open W64
set_option maxRecDepth 100000
/-- The document's W lies at k: over the memory at p (its cells at g), its stacks at qp, qs, its epoch at qe; the roots begin at r0; n slots. -/
structure RW (w : World) (k p g qp qs qe : Nat) (c : Cf) (r0 n : Nat) (xs : List Int) (cnt : Int) : Prop where
  obj : Whole w k 57 #[.int .i64 c.wk, .int .i64 c.ch, .int .i64 c.wo, .int .i64 c.sl, .int .i64 c.ca, .int .i64 c.ba, .pointer (some ⟨p, 0, none⟩), .pointer (some ⟨qp, 0, none⟩), .pointer (some ⟨qs, 0, none⟩), .pointer (some ⟨qe, 0, none⟩)]
  env : REnv w p g qs 1 (r0 + n) n xs cnt
  may : mayB c = true
  hr : (r0 : Int) = 3 + c.wk
  hn : (n : Int) = c.sl
section
variable {w w' : World} {k p g qp qs qe r0 n b : Nat} {c : Cf} {xs xs' : List Int} {cnt cnt' : Int} {K : Lk}
theorem RW.kp (R : RW w k p g qp qs qe c r0 n xs cnt) : k ≠ p := R.obj.ne_type R.env.mem.top (by decide)
theorem RW.kg (R : RW w k p g qp qs qe c r0 n xs cnt) : k ≠ g := R.obj.ne_type R.env.mem.row (by decide)
theorem RW.kq (R : RW w k p g qp qs qe c r0 n xs cnt) : k ≠ qs := R.obj.ne_type R.env.stk (by decide)
theorem RW.turn (R : RW w k p g qp qs qe c r0 n xs cnt) (m : Ref w' p g xs' cnt') {x : List Nat} (u : Else x w w') (h1 : k ∉ x) (h2 : qs ∉ x) (ok : Words xs') (hl : xs'.length = xs.length) : RW w' k p g qp qs qe c r0 n xs' cnt' :=
  ⟨u.whole R.obj h1, R.env.turn m u h2 ok hl, R.may, R.hr, R.hn⟩
theorem RW.else (R : RW w k p g qp qs qe c r0 n xs cnt) {x : List Nat} (u : Else x w w') (h : p ∉ x ∧ g ∉ x ∧ qs ∉ x ∧ k ∉ x) : RW w' k p g qp qs qe c r0 n xs cnt :=
  ⟨u.whole R.obj h.2.2.2, R.env.else u h.1 h.2.1 h.2.2.1, R.may, R.hr, R.hn⟩
theorem RW.up (R : RW w k p g qp qs qe c r0 n xs cnt) (u : Up w w') : RW w' k p g qp qs qe c r0 n xs cnt := ⟨R.obj.up u, R.env.up u, R.may, R.hr, R.hn⟩
theorem RW.at (R : RW w k p g qp qs qe c r0 n xs cnt) {s : Nat} (h : s < n) : lrootN c (s : Int) = ((r0 + s : Nat) : Int) ∧ r0 + s < xs.length := by
  have h1 := R.hr
  have h2 := R.hn
  have h3 := R.env.hl
  refine ⟨?_, by omega⟩
  unfold lrootN
  rw [atN_is R.may (by omega) (by omega)]
  omega
/-- What one access of a machine leaves. -/
def ROut (w : World) (k p g qp qs qe : Nat) (c : Cf) (r0 n : Nat) (xs : List Int) (cnt : Int) (own : List Nat) (M : World → Prop) (w' : World) : Prop :=
  RW w' k p g qp qs qe c r0 n xs (wrap64 (cnt + 1)) ∧ M w' ∧ Else (own ++ [p, g]) w w'
abbrev cfV (c : Cf) : Value := .agg #[.int .i64 c.wk, .int .i64 c.ch, .int .i64 c.wo, .int .i64 c.sl, .int .i64 c.ca, .int .i64 c.ba]
theorem rloadc_to {a x : Int} {j : Nat} (ha : a = (j : Int)) (m : Ref w p g xs cnt) (h : j < xs.length) (hx : xs.getD j 0 = x) :
    Calls Tryz.prog 85 #[.pointer (some ⟨p, 0, none⟩), .int .i64 a] w fun e w' => e = .returned (.int .u64 x) ∧ Ref w' p g xs (wrap64 (cnt + 1)) ∧ Else [p, g] w w' := by
  subst ha hx; exact rload_in m h
/-- A variable of the call's own, newer than n blocks. -/
structure Var (n : Nat) (a : World) (d : Nat) (t : TypeId) (cs : Array Value) : Prop where
  at_ : Whole a d t cs
  new : n ≤ d
theorem var_up {a : World} {t : TypeId} {cs : Array Value} {m : Nat} (u : Up (a.alloc (.cells cs t)) w') (h : m ≤ a.heap.size) : Var m w' a.heap.size t cs := ⟨(Whole.new a t cs).up u, h⟩
theorem var_upd {a : World} {t : TypeId} {cs : Array Value} {m : Nat} (u : Up (a.alloc (.cells cs t)).drew w') (h : m ≤ a.heap.size) : Var m w' a.heap.size t cs := ⟨(show Whole (a.alloc (.cells cs t)).drew a.heap.size t cs from Whole.new a t cs).up u, h⟩
theorem var_else {a : World} {t : TypeId} {cs : Array Value} {m : Nat} (u : Else [p, g] (a.alloc (.cells cs t)) w') (h : m ≤ a.heap.size) (hp : p < m) (hg : g < m) : Var m w' a.heap.size t cs := ⟨u.whole (Whole.new a t cs) (by simp; omega), h⟩
theorem Var.up {a : World} {t : TypeId} {cs : Array Value} {m d : Nat} (V : Var m a d t cs) (u : Up a w') : Var m w' d t cs := ⟨V.at_.up u, V.new⟩
theorem Var.else {a : World} {t : TypeId} {cs : Array Value} {m d : Nat} (V : Var m a d t cs) (u : Else [p, g] a w') (hp : p < m) (hg : g < m) : Var m w' d t cs := ⟨u.whole V.at_ (by have := V.new; simp; omega), V.new⟩
theorem go_world {K : Exit → Act → World → Prop} {x : Exit} {a : Act} {W : World} {F : World → Prop} (h : F W) (k : ∀ w4, F w4 → K x a w4) : K x a W := k W h
end
end Go.Proofs.YtkopplnjomkleaaGreat

/-
  The reference's stack: Fill, List; the statement's own same.
-/
namespace Go.Proofs.YtkopplnjomkleaaGreat
open Go.RowKit
open W64
set_option maxRecDepth 100000

/-- The links that Fill lays, up to k. -/
def fillR (xs : List Int) (ln n : Nat) : Nat → List Int
  | 0 => xs
  | k + 1 => (fillR xs ln n k).set (ln + k) (if k + 1 = n then 0 else (k : Int) + 2)
theorem fillR_len (xs : List Int) (ln n : Nat) : ∀ k, (fillR xs ln n k).length = xs.length
  | 0 => rfl
  | k + 1 => by unfold fillR; rw [List.length_set, fillR_len]
theorem fillR_ok {xs : List Int} (h : ∀ i, 0 ≤ xs.getD i 0 ∧ xs.getD i 0 < 18446744073709551616) (ln n : Nat) : ∀ k, k ≤ 8192 → ∀ i, 0 ≤ (fillR xs ln n k).getD i 0 ∧ (fillR xs ln n k).getD i 0 < 18446744073709551616
  | 0, _ => h
  | k + 1, hk => by
    unfold fillR
    refine ok_set (fillR_ok h ln n k (by omega)) ?_ ?_ <;> split <;> omega
theorem fillR_hd {xs : List Int} {ln n : Nat} {v : Int} (hln : 1 ≤ ln) : ∀ k, fillR (xs.set 0 v) ln n k = (fillR xs ln n k).set 0 v
  | 0 => rfl
  | k + 1 => by
    unfold fillR
    rw [fillR_hd hln k, List.set_comm _ _ (by omega)]
theorem fillR_K (s : St) (n : Nat) : ∀ k, k < n → fillR s.xs 2 n k = (fillK s 2 k).xs
  | 0, _ => rfl
  | k + 1, h => by
    unfold fillR fillK St.lay
    dsimp only
    rw [fillR_K s n k (by omega), if_neg (by omega), show (((2 : Nat) : Int) + k).toNat = 2 + k by omega]
theorem fillR_is (s : St) (n : Nat) (h : 1 ≤ n) : fillR (s.xs.set 0 1) 2 n n = (fillS s 0 2 n).xs := by
  obtain ⟨k, rfl⟩ : ∃ k, n = k + 1 := ⟨n - 1, by omega⟩
  rw [fillR_hd (by omega)]
  unfold fillS St.lay
  dsimp only
  unfold fillR
  rw [fillR_K s (k + 1) k (by omega), if_pos rfl, show (((2 : Nat) : Int) + ((k + 1 : Nat) : Int) - 1).toNat = 2 + k by omega, show k + 1 - 1 = k by omega]
  rfl
section
variable {w w' : World} {p g q hd ln n : Nat} {xs : List Int} {c : Int} {s : St} {S : List Nat}
theorem REnv.put (E : REnv w p g q hd ln n xs c) (i : Nat) {v : Int} (h0 : 0 ≤ v) (h1 : v < 18446744073709551616) : REnv (w.setCell ⟨g, i, none⟩ (.int .u64 v)) p g q hd ln n (xs.set i v) c := by
  have u : Else [p, g] w (w.setCell ⟨g, i, none⟩ (.int .u64 v)) := (Else.refl _ w).set (.inl (by simp)) _
  exact E.turn (E.mem.set i v) u (by simp [E.np, E.ng]) (ok_set E.ok h0 h1) (by simp)
theorem head_one : headB 0 0 = true ∧ headN 0 0 = 1 := by decide
def RFill (w : World) (p g q hd ln n : Nat) (xs : List Int) (c : Int) (i : Value) (wr : World) : Prop := ∃ k : Nat, k ≤ n ∧ i = .int .i64 k ∧ REnv wr p g q hd ln n (fillR xs ln n k) c ∧ Else [p, g] w wr
theorem tmod_fill {k n : Nat} (h : k + 1 < n) : ((k : Int) + 2).tmod ((n : Int) + 1) = (k : Int) + 2 := by
  rw [Int.tmod_eq_emod_of_nonneg (by omega)]; exact Int.emod_eq_of_lt (by omega) (by omega)
theorem tmod_last {k n : Nat} (h : k + 1 = n) : ((k : Int) + 2).tmod ((n : Int) + 1) = 0 := by
  have : (k : Int) + 2 = (n : Int) + 1 := by omega
  rw [this]; exact Int.tmod_self
set_option maxHeartbeats 4000000 in
theorem rfill_in (E : REnv w p g q hd ln n xs c) :
    Calls Tryz.prog 80 #[.pointer (some ⟨q, 0, none⟩)] w fun e w' => e = .returned (.tuple #[]) ∧ REnv w' p g q hd ln n (fillR (xs.set hd 1) ln n n) c ∧ Else [p, g] w w' := by
  have H1 := Lib.hid head_one
  have n0 := E.n0
  have n1 := E.n1
  have hhx := E.hh
  have hlx := E.hl
  have htx := E.top
  have hq : q ∉ [p, g] := by simp [E.np, E.ng]
  have i8 : (0 : Int) ≤ (hd : Int) := Int.natCast_nonneg _
  have i9 : (hd : Int) < (xs.length : Int) := by omega
  have HE := Lib.hid E
  clear E
  go_enter Tryz.func80, Tryz.ntmps80
  go_upto_region 1 with (first
    | (go_at_call 121; refine (rputHead_yes 0 0 _ H1.out.1).mono ?_; rintro e w1 ⟨rfl, U1⟩; rw [H1.out.2]))
  have HE1 := Lib.hid (HE.out.up U1)
  obtain ⟨k0, k1, k2, k3⟩ := HE1.out.cells
  have r0 := HE1.out.mem.cells.1
  have rh := HE1.out.mem.cell hhx
  have rf := HE1.out.mem.row.frozen hd
  go_still_tail 13, (by kernel_rfl)
  go_wp2_with fail
  have HE2 := Lib.hid ((HE1.out.put hd (v := 1) (by omega) (by omega)).up (Up.drewN _ 1))
  have HX2 := Lib.hid (((Else.of_up (s := [p, g]) U1).set (p := ⟨g, hd, none⟩) (.inl (by simp)) (.int .u64 1)).up (Up.drewN _ 1))
  clear k0 k1 k2 k3 r0 rh rf U1
  go_loopw [4] (fun i wr => RFill w p g q hd ln n (xs.set hd 1) c i wr) (fun i _ => n - (intOf i).toNat)
  case atStart => exact ⟨0, Nat.zero_le _, rfl, HE2.out, HX2.out⟩
  case round =>
    obtain ⟨k, hk, rfl, ER, XR⟩ := hrel
    have HER := Lib.hid ER
    have HXR := Lib.hid XR
    clear ER XR
    obtain ⟨k0, k1, k2, k3⟩ := HER.out.cells
    have r0 := HER.out.mem.cells.1
    rw [fillR_len, List.length_set] at r0
    have i0 : (0 : Int) ≤ (k : Int) := Int.natCast_nonneg _
    by_cases hlt : k < n
    · have i1 : (k : Int) < (n : Int) := by omega
      have hkl : ln + k < (fillR (xs.set hd 1) ln n k).length := by rw [fillR_len, List.length_set]; omega
      have rh := HER.out.mem.cell hkl
      have rf := HER.out.mem.row.frozen (ln + k)
      have i2 : (ln : Int) + (k : Int) < (xs.length : Int) := by omega
      have i3 : (0 : Int) ≤ (ln : Int) + (k : Int) := by omega
      have e1 : ((ln : Int) + (k : Int)).toNat = ln + k := by omega
      have HK := Lib.hid hkl
      clear hkl
      have s9 : (-9223372036854775808 ≤ (k : Int) + 2 ∧ (k : Int) + 2 ≤ 9223372036854775807) ∧ (-9223372036854775808 ≤ (n : Int) + 1 ∧ (n : Int) + 1 ≤ 9223372036854775807) ∧ (0 ≤ (k : Int) + 2 ∧ (k : Int) + 2 ≤ 18446744073709551615) ∧ ln + k ≤ 8400000 ∧ (-9223372036854775808 ≤ (n : Int) - 1 ∧ (n : Int) - 1 ≤ 9223372036854775807) := by omega
      obtain ⟨z1, z2, z3, z4, z5⟩ := s9
      have HZ := Lib.hid (And.intro (IntWalk.i64_in ((k : Int) + 2) z1) (And.intro (IntWalk.i64_in ((n : Int) + 1) z2) (And.intro (IntWalk.u64_in ((k : Int) + 2) z3) (And.intro (wrapS (a := ln) (b := k) z4) (IntWalk.i64_in ((n : Int) - 1) z5)))))
      clear z1 z2 z3 z4 z5
      by_cases hlast : k + 1 = n
      · have I4 := Lib.hid (show ((k : Int) == (n : Int) - 1) = true by simp; omega)
        have HS := Lib.hid (show fillR (xs.set hd 1) ln n (k + 1) = ((fillR (xs.set hd 1) ln n k).set (ln + k) 0).set (ln + k) 0 by
          rw [List.set_set]; show (fillR (xs.set hd 1) ln n k).set (ln + k) (if k + 1 = n then 0 else (k : Int) + 2) = _
          rw [if_pos hlast])
        have t1 := tmod_last hlast
        have HLA := Lib.hid hlast
        clear hlast
        go_upto_region 5 with fail
        obtain ⟨y1, y2, y3, ⟨y4, y5⟩, y6⟩ := HZ.out
        have y7 : ¬ ((n : Int) + 1 = 0) := by clear y1 y2 y3 y4 y5 y6; omega
        have y8 : ((n : Int) + 1 == 0) = false := by simpa using y7
        go_still_tail 23, (by kernel_rfl)
        have HE5 := Lib.hid ((HER.out.put (ln + k) (v := 0) (by omega) (by omega)).up (up_drew _))
        have HX5 := Lib.hid ((HXR.out.set (p := ⟨g, ln + k, none⟩) (.inl (by simp)) (.int .u64 0)).up (up_drew _))
        go_upto_region 6 with fail
        clear k0 k1 k2 k3 r0 rh rf t1
        generalize (wr.setCell ⟨g, ln + k, none⟩ (.int .u64 0)).drew = w5 at *
        obtain ⟨k0, k1, k2, k3⟩ := HE5.out.cells
        have r0 := HE5.out.mem.cells.1
        rw [List.length_set, fillR_len, List.length_set] at r0
        have rh := HE5.out.mem.cell (i := ln + k) (by rw [List.length_set]; exact HK.out)
        have rf := HE5.out.mem.row.frozen (ln + k)
        have i4 := I4.out
        go_upto_region 7 with fail
        clear i4
        go_still_tail 14, (by kernel_rfl)
        go_wp2_with fail
        go_roundw
        case rel =>
          refine ⟨k + 1, by omega, by go_num, ?_, (HX5.out.set (p := ⟨g, ln + k, none⟩) (.inl (by simp)) (.int .u64 0)).up (up_drew _)⟩
          rw [HS.out]; exact (HE5.out.put (ln + k) (v := 0) (by omega) (by omega)).up (up_drew _)
        case measure => simp [intOf]; omega
      · have i4 : ((k : Int) == (n : Int) - 1) = false := by simp; omega
        have HS := Lib.hid (show fillR (xs.set hd 1) ln n (k + 1) = (fillR (xs.set hd 1) ln n k).set (ln + k) ((k : Int) + 2) by
          show (fillR (xs.set hd 1) ln n k).set (ln + k) (if k + 1 = n then 0 else (k : Int) + 2) = _
          rw [if_neg hlast])
        have t1 := tmod_fill (k := k) (n := n) (by omega)
        go_upto_region 5 with fail
        obtain ⟨y1, y2, y3, ⟨y4, y5⟩, y6⟩ := HZ.out
        have y7 : ¬ ((n : Int) + 1 = 0) := by clear y1 y2 y3 y4 y5 y6; omega
        have y8 : ((n : Int) + 1 == 0) = false := by simpa using y7
        go_still_tail 23, (by kernel_rfl)
        have HE5 := Lib.hid ((HER.out.put (ln + k) (v := (k : Int) + 2) (by omega) (by omega)).up (up_drew _))
        have HX5 := Lib.hid ((HXR.out.set (p := ⟨g, ln + k, none⟩) (.inl (by simp)) (.int .u64 ((k : Int) + 2))).up (up_drew _))
        go_upto_region 6 with fail
        clear k0 k1 k2 k3 r0 rh rf t1
        generalize (wr.setCell ⟨g, ln + k, none⟩ (.int .u64 ((k : Int) + 2))).drew = w5 at *
        obtain ⟨k0, k1, k2, k3⟩ := HE5.out.cells
        go_wp2_with fail
        go_roundw
        case rel => exact ⟨k + 1, by omega, by go_num, by rw [HS.out]; exact HE5.out, HX5.out⟩
        case measure => simp [intOf]; omega
    · have i1 : ¬ (k : Int) < (n : Int) := by omega
      have ek : k = n := by omega
      subst ek
      go_wp2_with fail
      go_end0
      exact ⟨rfl, HER.out, HXR.out⟩
end
end Go.Proofs.YtkopplnjomkleaaGreat
