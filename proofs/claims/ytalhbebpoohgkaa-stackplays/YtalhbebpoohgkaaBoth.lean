/-
  The program's Step and the reference's, side by side: what both leave, in the same letters.
-/
import Derived.Test.YtalhbebpoohgkaaSysX
namespace Go.Proofs.Ytalhbebpoohgkaa
open Go.RowKit
open W64
set_option maxRecDepth 100000
section
variable {w w' : World} {p g q n t b pr gr qr rb : Nat} {s s' : St} {S : List Nat} {m : Nat → Stk.Mach} {has : Nat → List Nat} {l : List Nat} {i most : Nat} {old deep : Int} {v rv nx : Value}
/-- What the program's Push leaves. -/
def PB (p g q n t b : Nat) (S : List Nat) (m : Nat → Stk.Mach) (has : Nat → List Nat) (u : Nat) (l : List Nat) (v : Value) (c : Int) (xs' : List Int) (i' : Nat) (old' : Int) (d : Bool) (w' : World) : Prop :=
  ∃ s', s'.xs = xs' ∧ s'.c = wrap64 (c + 1) ∧
    ((d = false ∧ (∃ f, w'.cell? ⟨b, 4, none⟩ = some (meth f b)) ∧ PushM w' b q v l i' old' ∧ Sys w' p g q n s' t S (Stk.upd m u (.push l i' old')) has) ∨
     (d = true ∧ w'.cell? ⟨b, 4, none⟩ = some .nilFunc ∧ Sys w' p g q n s' (t + 1) (l ++ S) (Stk.upd m u .idle) has))
/-- Both Steps of a Push, from one state. -/
theorem push_both (Y : Sys w p g q n s t S m has) {u : Nat} (hu : u < 4) (e : m u = .push l i old) (ht : t < 4294967295) (P : PushM w b q v l i old) (A : Apart b p g q v) (RA : Apart rb pr gr qr rv) :
    ∃ xs' i' old' d, xs'.length = s.xs.length ∧ (∀ j, 0 ≤ xs'.getD j 0 ∧ xs'.getD j 0 < 18446744073709551616) ∧
      (Calls Try.prog 20 #[.pointer (some ⟨b, 0, none⟩)] w fun e w' => e = .returned (.bool true) ∧ Else [b, p, g] w w' ∧ PB p g q n t b S m has u l v s.c xs' i' old' d w') ∧
      (∀ wz, REnv wz pr gr qr 0 2 n s.xs s.c → RPushAt wz rb qr rv l i old false →
        Calls Try.prog 40 #[.pointer (some ⟨rb, 0, none⟩)] wz fun e w' => e = .returned (.bool true) ∧ RPushAt w' rb qr rv l i' old' d ∧ Ref w' pr gr xs' (wrap64 (s.c + 1)) ∧ Else [rb, pr, gr] wz w') := by
  obtain ⟨hn, hl0, hi⟩ := GI.puts_lt Y.gi hu e
  have hl8 : l.length ≤ 8192 := by have := GI.push_len Y.gi hu e; have := Y.env.n1; omega
  have n1 := Y.env.n1
  have n0 := Y.env.n0
  have lp := List.length_pos_iff.2 hl0
  have ok0 : ∀ j, 0 ≤ s.xs.getD j 0 ∧ s.xs.getD j 0 < 18446744073709551616 := fun j => by have := Y.env.ok (j : Int); rw [get_nat] at this; exact this
  by_cases h1 : i ≤ l.length
  · suffices H : ∃ xs', xs' = pushXs n s.xs l i old ∧ xs'.length = s.xs.length ∧ (∀ j, 0 ≤ xs'.getD j 0 ∧ xs'.getD j 0 < 18446744073709551616) ∧ (∀ wz, REnv wz pr gr qr 0 2 n s.xs s.c → RPushAt wz rb qr rv l i old false →
        Calls Try.prog 40 #[.pointer (some ⟨rb, 0, none⟩)] wz fun e w' => e = .returned (.bool true) ∧ RPushAt w' rb qr rv l (i + 1) (if i + 1 = l.length then Stk.hdOf s.xs else old) false ∧ Ref w' pr gr xs' (wrap64 (s.c + 1)) ∧ Else [rb, pr, gr] wz w') by
      obtain ⟨xs', hx, h2, h3, h4⟩ := H
      refine ⟨xs', i + 1, if i + 1 = l.length then Stk.hdOf s.xs else old, false, h2, h3, ?_, h4⟩
      refine (push_goX Y hu e h1 P A).mono ?_
      rintro e w' ⟨rfl, s2, ⟨hc, hxs⟩, _, P2, Y2, E2⟩
      obtain ⟨f, hf⟩ := P2.next
      exact ⟨rfl, E2, s2, hxs.trans hx.symm, hc, .inl ⟨rfl, ⟨f, hf⟩, P2, Y2⟩⟩
    by_cases c1 : i + 1 < l.length
    · have m1 := hn _ (Stk.getD_mem c1)
      refine ⟨_, rfl, ?_, ?_, ?_⟩
      · unfold pushXs; rw [if_pos c1, List.length_set]
      · unfold pushXs; rw [if_pos c1]; exact ok_set ok0 (by omega) (by omega)
      · intro wz RE RP
        unfold pushXs
        rw [if_pos c1, if_neg (by omega)]
        exact rpush_link RE RP RA hl0 hn hl8 c1
    · by_cases c2 : i + 1 = l.length
      · refine ⟨_, rfl, ?_, ?_, ?_⟩
        · unfold pushXs; rw [if_neg c1, if_pos c2]
        · unfold pushXs; rw [if_neg c1, if_pos c2]; exact ok0
        · intro wz RE RP
          unfold pushXs
          rw [if_neg c1, if_pos c2, if_pos c2]
          exact rpush_load RE RP RA hl0 hn hl8 c2
      · obtain ⟨t0, t1⟩ := topN_in (n := n) P.2.1 n0
        refine ⟨_, rfl, ?_, ?_, ?_⟩
        · unfold pushXs; rw [if_neg c1, if_neg c2, List.length_set]
        · unfold pushXs; rw [if_neg c1, if_neg c2]; exact ok_set ok0 (by omega) (by omega)
        · intro wz RE RP
          unfold pushXs
          rw [if_neg c1, if_neg c2, if_neg c2]
          exact rpush_last RE RP RA hl0 hn hl8 (by omega) P.2.1 P.2.2
  · by_cases h2 : old = Stk.hdOf s.xs
    · have hnx := nextW_in (Stk.hdOf s.xs) (l.getD 0 0 : Nat)
      refine ⟨s.xs.set 0 (nextW (Stk.hdOf s.xs) (l.getD 0 0 : Nat)), l.length - 1, old, true, by rw [List.length_set], ok_set ok0 hnx.1 hnx.2, ?_, ?_⟩
      · refine (push_doneX Y hu e (by omega) h2 ht P A).mono ?_
        rintro e w' ⟨rfl, s2, ⟨hc, hxs⟩, c4, Y2, E2⟩
        exact ⟨rfl, E2, s2, hxs, hc, .inr ⟨rfl, c4, Y2⟩⟩
      · intro wz RE RP
        have := rpush_yes RE RP RA hl0 hn hl8 (by omega) P.2.1 P.2.2 h2.symm
        rw [h2] at this ⊢
        exact this
    · refine ⟨s.xs, l.length - 1, old, false, rfl, ok0, ?_, ?_⟩
      · refine (push_failX Y hu e (by omega) h2 P A).mono ?_
        rintro e w' ⟨rfl, s2, ⟨hc, hxs⟩, P2, Y2, E2⟩
        obtain ⟨f, hf⟩ := P2.next
        exact ⟨rfl, E2, s2, hxs, hc, .inl ⟨rfl, ⟨f, hf⟩, P2, Y2⟩⟩
      · intro wz RE RP
        exact rpush_no RE RP RA hl0 hn hl8 (by omega) P.2.1 P.2.2 (fun h => h2 h.symm)
/-- What the program's Pop leaves. -/
def OB (w : World) (p g q n t b most : Nat) (S : List Nat) (m : Nat → Stk.Mach) (has : Nat → List Nat) (u : Nat) (v : Value) (c : Int) (xs' : List Int) (i' : Nat) (deep' old' : Int) (l' : List Nat) (d : Bool) (w' : World) : Prop :=
  ∃ s' v', s'.xs = xs' ∧ s'.c = wrap64 (c + 1) ∧ (v'.ownBlock = v.ownBlock ∨ v'.ownBlock = none ∨ ∃ r, v'.ownBlock = some r ∧ w.heap.size ≤ r) ∧
    ((d = false ∧ (∃ f, w'.cell? ⟨b, 5, none⟩ = some (meth f b)) ∧ PopM w' b q v' l' most i' deep' old' ∧ Sys w' p g q n s' t S (Stk.upd m u (.pop most i' deep' old' (if i' = 0 then [] else l'))) has) ∨
     (d = true ∧ PopAt w' b q v' l' most deep' old' .nilFunc ∧ l'.length ≤ 8 ∧ (l' = [] → v' = .slice none 0 0) ∧ ∃ t' S', t' ≤ t + 1 ∧ Sys w' p g q n s' t' S' (Stk.upd m u .idle) (Stk.upd has u (has u ++ l'))))
/-- What the reference's leaves. -/
def RB (wz : World) (pr gr qr rb most : Nat) (rv : Value) (c : Int) (xs' : List Int) (i' : Nat) (deep' old' : Int) (l' : List Nat) (d : Bool) (w' : World) : Prop :=
  ∃ v', RPopAt w' rb qr v' l' most i' deep' old' d ∧ Ref w' pr gr xs' (wrap64 (c + 1)) ∧ (v'.ownBlock = rv.ownBlock ∨ v'.ownBlock = none ∨ ∃ r, v'.ownBlock = some r ∧ wz.heap.size ≤ r) ∧ Else (rb :: (rv.ownBlock.toList ++ [pr, gr])) wz w'
/-- Both Steps of a Pop, from one state. -/
theorem pop_both (Y : Sys w p g q n s t S m has) {u : Nat} (hu : u < 4) {l0 : List Nat} (e : m u = .pop most i deep old l0) (hl : l0 = if i = 0 then [] else l) (ht : t < 4294967295) (P : PopM w b q v l most i deep old) (A : Apart b p g q v) (RA : Apart rb pr gr qr rv) :
    ∃ xs' i' deep' old' l' d, xs'.length = s.xs.length ∧ (∀ j, 0 ≤ xs'.getD j 0 ∧ xs'.getD j 0 < 18446744073709551616) ∧ l'.length ≤ 8 ∧
      (Calls Try.prog 22 #[.pointer (some ⟨b, 0, none⟩)] w fun e w' => e = .returned (.bool true) ∧ Else (b :: (v.ownBlock.toList ++ [p, g])) w w' ∧ OB w p g q n t b most S m has u v s.c xs' i' deep' old' l' d w') ∧
      (∀ wz, REnv wz pr gr qr 0 2 n s.xs s.c → RPopAt wz rb qr rv l most i deep old false →
        Calls Try.prog 41 #[.pointer (some ⟨rb, 0, none⟩)] wz fun e w' => e = .returned (.bool true) ∧ RB wz pr gr qr rb most rv s.c xs' i' deep' old' l' d w') := by
  have ok0 : ∀ j, 0 ≤ s.xs.getD j 0 ∧ s.xs.getD j 0 < 18446744073709551616 := fun j => by have := Y.env.ok (j : Int); rw [get_nat] at this; exact this
  have hi : i ≤ 2 := by
    have k := Y.gi.ok u hu
    rw [e] at k; exact k.1
  have hp : Stk.puts (m u) = [] := by rw [e]; rfl
  have m8 := P.m8
  have l8 := P.l8
  have hT := Y.holds.top
  rw [get_hd] at hT
  rcases (show i = 0 ∨ i = 1 ∨ i = 2 by omega) with rfl | rfl | rfl
  · cases S with
    | nil =>
      refine ⟨s.xs, 0, deep, Stk.hdOf s.xs, [], true, rfl, ok0, by simp, ?_, ?_⟩
      · refine (pop_none Y hu hp rfl P A).mono ?_
        rintro e w' ⟨rfl, s2, hc, hxs, P2, Y2, E2⟩
        refine ⟨rfl, else_pop E2, s2, _, hxs, hc, .inr (.inl rfl), .inr ⟨rfl, P2, by simp, fun _ => rfl, t, [], by omega, ?_⟩⟩
        rw [List.append_nil, Stk.upd_id]; exact Y2
      · intro wz RE RP
        refine (rpop_none RE RP RA (by rw [show s.xs.getD 0 0 = Stk.hdOf s.xs from rfl, hT]; rfl)).mono ?_
        rintro e w' ⟨rfl, P2, M2, E2⟩
        exact ⟨rfl, _, P2, M2, .inr (.inl rfl), else_pop E2⟩
    | cons x rs =>
      refine ⟨s.xs, 1, deep, Stk.hdOf s.xs, [x], false, rfl, ok0, by simp, ?_, ?_⟩
      · refine (pop_head Y hu hp rfl P A).mono ?_
        rintro e w' ⟨rfl, s2, r2, cap2, hc, hxs, hr, P2, A2, Y2, E2⟩
        obtain ⟨f, hf⟩ := P2.next
        exact ⟨rfl, else_pop E2, s2, _, hxs, hc, .inr (.inr ⟨r2, rfl, hr⟩), .inl ⟨rfl, ⟨f, hf⟩, P2, Y2⟩⟩
      · intro wz RE RP
        refine (rpop_head (t := x) RE RP RA (by rw [show s.xs.getD 0 0 = Stk.hdOf s.xs from rfl, hT]; simp [Stk.linkOf])).mono ?_
        rintro e w' ⟨rfl, ⟨r2, cap2, hr, P2⟩, M2, E2⟩
        exact ⟨rfl, _, P2, M2, .inr (.inr ⟨r2, rfl, hr⟩), else_pop E2⟩
  · rw [if_neg (by omega)] at hl
    subst hl
    obtain ⟨hn, hne⟩ := GI.pop_parts Y.gi hu e
    have hgl := Stk.getLast_getD hne
    have hlk := Y.gi.links _ (hn _ (List.getLast_mem hne))
    have hB : belowN n (s.xs.getD (2 + l0.getD (l0.length - 1) 0) 0) = Stk.lkOf s.xs (l0.getLast hne) - 1 := by
      rw [show s.xs.getD (2 + l0.getD (l0.length - 1) 0) 0 = Stk.lkOf s.xs (l0.getD (l0.length - 1) 0) from rfl, ← hgl]; unfold belowN; rw [if_neg (by omega)]
    by_cases hS : Stk.lkOf s.xs (l0.getLast hne) = 0 ∨ l0.length = most
    · refine ⟨s.xs, 2, Stk.lkOf s.xs (l0.getLast hne) - 1, old, l0, false, rfl, ok0, by omega, ?_, ?_⟩
      · refine (pop_stop Y hu e hne hS P A).mono ?_
        rintro e w' ⟨rfl, s2, hc, hxs, P2, Y2, E2⟩
        obtain ⟨f, hf⟩ := P2.next
        exact ⟨rfl, else_pop E2, s2, v, hxs, hc, .inl rfl, .inl ⟨rfl, ⟨f, hf⟩, P2, Y2⟩⟩
      · intro wz RE RP
        by_cases hz : Stk.lkOf s.xs (l0.getLast hne) = 0
        · rw [hz] at hB ⊢
          refine (rpop_stopA RE RP RA hne hn (by omega) hB).mono ?_
          rintro e w' ⟨rfl, P2, M2, E2⟩
          exact ⟨rfl, _, P2, M2, .inl rfl, else_pop E2⟩
        · have hm : l0.length = most := hS.resolve_left hz
          obtain ⟨d, hd⟩ : ∃ d : Nat, Stk.lkOf s.xs (l0.getLast hne) - 1 = d := ⟨(Stk.lkOf s.xs (l0.getLast hne) - 1).toNat, by omega⟩
          rw [hd] at hB ⊢
          refine (rpop_stopB RE RP RA hne hn (by omega) hm hB).mono ?_
          rintro e w' ⟨rfl, P2, M2, E2⟩
          exact ⟨rfl, _, P2, M2, .inl rfl, else_pop E2⟩
    · have h1 : Stk.lkOf s.xs (l0.getLast hne) ≠ 0 := fun h => hS (.inl h)
      have h2 : l0.length ≠ most := fun h => hS (.inr h)
      obtain ⟨d, hd⟩ : ∃ d : Nat, Stk.lkOf s.xs (l0.getLast hne) = d + 1 := ⟨(Stk.lkOf s.xs (l0.getLast hne) - 1).toNat, by omega⟩
      rw [hd] at hB
      refine ⟨s.xs, 1, d, old, l0 ++ [d], false, rfl, ok0, by simp; omega, ?_, ?_⟩
      · obtain ⟨r0, c0, rfl, _⟩ := P.at_.row.get hne
        refine (pop_goes Y hu e hne hd h2 P A).mono ?_
        rintro e w' ⟨rfl, s2, r2, cap2, hc, hxs, hr, P2, A2, Y2, E2⟩
        obtain ⟨f, hf⟩ := P2.next
        refine ⟨rfl, E2 r0 rfl, s2, _, hxs, hc, ?_, .inl ⟨rfl, ⟨f, hf⟩, P2, Y2⟩⟩
        rcases hr with h | h
        · exact .inl h.symm
        · exact .inr (.inr ⟨r2, rfl, h⟩)
      · intro wz RE RP
        obtain ⟨r0, c0, rfl, _⟩ := RP.row.get hne
        refine (rpop_more (d := d) RE RP RA hne hn (by omega) (by omega) (hB.trans (by omega))).mono ?_
        rintro e w' ⟨rfl, ⟨r2, cap2, hr, P2⟩, M2, E2⟩
        refine ⟨rfl, _, P2, M2, ?_, E2 r0 rfl⟩
        rcases hr with h | h
        · exact .inl h.symm
        · exact .inr (.inr ⟨r2, rfl, h⟩)
  · rw [if_neg (by omega)] at hl
    subst hl
    have K := Y.gi.ok u hu
    rw [e] at K
    obtain ⟨d0, d1, hne, _⟩ := K.2.2.2 rfl
    by_cases h2 : old = Stk.hdOf s.xs
    · have hnx := nextW_in (Stk.hdOf s.xs) deep
      refine ⟨s.xs.set 0 (nextW (Stk.hdOf s.xs) deep), 0, deep, old, l0, true, by rw [List.length_set], ok_set ok0 hnx.1 hnx.2, by omega, ?_, ?_⟩
      · refine (pop_doneX Y hu e h2 ht P A).mono ?_
        rintro e w' ⟨rfl, s2, rs, ⟨hc, hxs⟩, _, P2, Y2, E2⟩
        exact ⟨rfl, else_pop E2, s2, v, hxs, hc, .inl rfl, .inr ⟨rfl, P2, by omega, fun h => absurd h hne, t + 1, rs, by omega, Y2⟩⟩
      · intro wz RE RP
        have k := rpop_yes RE RP RA P.o0 P.o1 (by omega) (by omega) h2.symm
        rw [← h2]
        refine k.mono ?_
        rintro e w' ⟨rfl, P2, M2, E2⟩
        exact ⟨rfl, _, P2, M2, .inl rfl, else_pop E2⟩
    · refine ⟨s.xs, 0, deep, old, l0, false, rfl, ok0, by omega, ?_, ?_⟩
      · refine (pop_fail Y hu e h2 P A).mono ?_
        rintro e w' ⟨rfl, s2, hc, hxs, P2, Y2, E2⟩
        obtain ⟨f, hf⟩ := P2.next
        exact ⟨rfl, else_pop E2, s2, v, hxs, hc, .inl rfl, .inl ⟨rfl, ⟨f, hf⟩, P2, Y2⟩⟩
      · intro wz RE RP
        refine (rpop_no RE RP RA P.o0 P.o1 (by omega) (by omega) (fun h => h2 h.symm)).mono ?_
        rintro e w' ⟨rfl, P2, M2, E2⟩
        exact ⟨rfl, _, P2, M2, .inl rfl, else_pop E2⟩
end
end Go.Proofs.Ytalhbebpoohgkaa
