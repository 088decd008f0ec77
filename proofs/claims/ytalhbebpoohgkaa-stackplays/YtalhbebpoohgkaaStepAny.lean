/-
  One Step of a Push or a Pop, whatever comes next; Got of a Pop that is done.
-/
import Derived.Test.YtalhbebpoohgkaaCuts
namespace Go.Proofs.Ytalhbebpoohgkaa
open Go.RowKit
set_option maxRecDepth 100000
section
variable {w w1 w' : World} {p g q n t b r : Nat} {s s' : St} {S : List Nat} {m : Nat → Stk.Mach} {has : Nat → List Nat} {l l' : List Nat} {cap most i : Nat} {v v2 : Value} {old deep : Int}
theorem pushNx_meth (b len i : Nat) : ∃ f, pushNx b len i = meth f b := by
  unfold pushNx
  split
  · exact ⟨_, rfl⟩
  · split
    · exact ⟨_, rfl⟩
    · split
      · exact ⟨_, rfl⟩
      · exact ⟨_, rfl⟩
theorem popNx_meth (b i : Nat) : ∃ f, popNx b i = meth f b := by
  unfold popNx
  split
  · exact ⟨_, rfl⟩
  · split
    · exact ⟨_, rfl⟩
    · exact ⟨_, rfl⟩
theorem PushM.next (P : PushM w b q v l i old) : ∃ f, w.cell? ⟨b, 4, none⟩ = some (meth f b) := by
  obtain ⟨f, e⟩ := pushNx_meth b l.length i
  exact ⟨f, by rw [← e]; exact P.1.cells.2.2.2.2⟩
theorem PopM.next (P : PopM w b q v l most i deep old) : ∃ f, w.cell? ⟨b, 5, none⟩ = some (meth f b) := by
  obtain ⟨f, e⟩ := popNx_meth b i
  exact ⟨f, by rw [← e]; exact P.at_.cells.2.2.2.2.2⟩
/-- What a Push's Step leaves: it goes on, or it is done. -/
def PushOut (p g q n t b : Nat) (S : List Nat) (m : Nat → Stk.Mach) (has : Nat → List Nat) (u : Nat) (l : List Nat) (v : Value) (w' : World) : Prop :=
  (∃ f s' i' old', w'.cell? ⟨b, 4, none⟩ = some (meth f b) ∧ PushM w' b q v l i' old' ∧ Sys w' p g q n s' t S (Stk.upd m u (.push l i' old')) has) ∨
  (∃ s', w'.cell? ⟨b, 4, none⟩ = some .nilFunc ∧ Sys w' p g q n s' (t + 1) (l ++ S) (Stk.upd m u .idle) has)
theorem pushStep_any (Y : Sys w p g q n s t S m has) {u : Nat} (hu : u < 4) (e : m u = .push l i old) (ht : t < 4294967295) (P : PushM w b q v l i old) (A : Apart b p g q v) :
    Calls Try.prog 20 #[.pointer (some ⟨b, 0, none⟩)] w fun e w' => e = .returned (.bool true) ∧ Else [b, p, g] w w' ∧ PushOut p g q n t b S m has u l v w' := by
  obtain ⟨_, _, hi⟩ := GI.puts_lt Y.gi hu e
  by_cases h1 : i ≤ l.length
  · refine (push_go Y hu e h1 P A).mono ?_
    rintro e w' ⟨rfl, s2, _, _, P2, Y2, E2⟩
    obtain ⟨f, hf⟩ := P2.next
    exact ⟨rfl, E2, .inl ⟨f, s2, _, _, hf, P2, Y2⟩⟩
  · by_cases h2 : old = Stk.hdOf s.xs
    · refine (push_done Y hu e (by omega) h2 ht P A).mono ?_
      rintro e w' ⟨rfl, s2, _, c4, Y2, E2⟩
      exact ⟨rfl, E2, .inr ⟨s2, c4, Y2⟩⟩
    · refine (push_fail Y hu e (by omega) h2 P A).mono ?_
      rintro e w' ⟨rfl, s2, _, P2, Y2, E2⟩
      obtain ⟨f, hf⟩ := P2.next
      exact ⟨rfl, E2, .inl ⟨f, s2, _, _, hf, P2, Y2⟩⟩
/-- What a Pop's Step leaves. -/
def PopOut (w : World) (p g q n t b most : Nat) (S : List Nat) (m : Nat → Stk.Mach) (has : Nat → List Nat) (u : Nat) (v : Value) (w' : World) : Prop :=
  (∃ f s' v' lo i' deep' old', w'.cell? ⟨b, 5, none⟩ = some (meth f b) ∧ PopM w' b q v' lo most i' deep' old' ∧ Sys w' p g q n s' t S (Stk.upd m u (.pop most i' deep' old' (if i' = 0 then [] else lo))) has ∧ (v'.ownBlock = v.ownBlock ∨ ∃ r, v'.ownBlock = some r ∧ w.heap.size ≤ r)) ∨
  (∃ s' v' l2 deep' old' S' t', t' ≤ t + 1 ∧ PopAt w' b q v' l2 most deep' old' .nilFunc ∧ l2.length ≤ 8 ∧ (l2 = [] → v' = .slice none 0 0) ∧ Sys w' p g q n s' t' S' (Stk.upd m u .idle) (Stk.upd has u (has u ++ l2)))
theorem else_pop (h : Else [b, p, g] w w') : Else (b :: (v.ownBlock.toList ++ [p, g])) w w' := h.more (by intro j hj; simp at hj ⊢; rcases hj with h | h | h <;> simp [h])
theorem popStep_any (Y : Sys w p g q n s t S m has) {u : Nat} (hu : u < 4) (e : m u = .pop most i deep old l') (hl : l' = if i = 0 then [] else l) (ht : t < 4294967295) (P : PopM w b q v l most i deep old) (A : Apart b p g q v) :
    Calls Try.prog 22 #[.pointer (some ⟨b, 0, none⟩)] w fun e w' => e = .returned (.bool true) ∧ Else (b :: (v.ownBlock.toList ++ [p, g])) w w' ∧ PopOut w p g q n t b most S m has u v w' := by
  have hi : i ≤ 2 := by
    have k := Y.gi.ok u hu
    rw [e] at k; exact k.1
  have hp : Stk.puts (m u) = [] := by rw [e]; rfl
  rcases (show i = 0 ∨ i = 1 ∨ i = 2 by omega) with rfl | rfl | rfl
  · cases S with
    | nil =>
      refine (pop_none Y hu hp rfl P A).mono ?_
      rintro e w' ⟨rfl, s2, _, _, P2, Y2, E2⟩
      refine ⟨rfl, else_pop E2, .inr ⟨s2, _, [], _, _, [], t, by omega, P2, by simp, fun _ => rfl, ?_⟩⟩
      rw [List.append_nil, Stk.upd_id]; exact Y2
    | cons x rs =>
      refine (pop_head Y hu hp rfl P A).mono ?_
      rintro e w' ⟨rfl, s2, r2, cap2, _, _, hr, P2, A2, Y2, E2⟩
      obtain ⟨f, hf⟩ := P2.next
      exact ⟨rfl, else_pop E2, .inl ⟨f, s2, _, [x], 1, _, _, hf, P2, Y2, .inr ⟨r2, rfl, hr⟩⟩⟩
  · rw [if_neg (by omega)] at hl
    subst hl
    obtain ⟨_, hne⟩ := GI.pop_parts Y.gi hu e
    by_cases hS : Stk.lkOf s.xs (l'.getLast hne) = 0 ∨ l'.length = most
    · refine (pop_stop Y hu e hne hS P A).mono ?_
      rintro e w' ⟨rfl, s2, _, _, P2, Y2, E2⟩
      obtain ⟨f, hf⟩ := P2.next
      exact ⟨rfl, else_pop E2, .inl ⟨f, s2, v, l', 2, _, _, hf, P2, Y2, .inl rfl⟩⟩
    · have h1 : Stk.lkOf s.xs (l'.getLast hne) ≠ 0 := fun h => hS (.inl h)
      have h2 : l'.length ≠ most := fun h => hS (.inr h)
      have hlk := Y.gi.links _ ((GI.pop_parts Y.gi hu e).1 _ (List.getLast_mem hne))
      obtain ⟨d, hd⟩ : ∃ d : Nat, Stk.lkOf s.xs (l'.getLast hne) = d + 1 := ⟨(Stk.lkOf s.xs (l'.getLast hne) - 1).toNat, by omega⟩
      obtain ⟨r0, c0, rfl, _⟩ := P.at_.row.get hne
      refine (pop_goes Y hu e hne hd h2 P A).mono ?_
      rintro e w' ⟨rfl, s2, r2, cap2, _, _, hr, P2, A2, Y2, E2⟩
      obtain ⟨f, hf⟩ := P2.next
      refine ⟨rfl, ?_, .inl ⟨f, s2, _, l' ++ [d], 1, _, _, hf, P2, Y2, ?_⟩⟩
      · exact E2 r0 rfl
      · rcases hr with h | h
        · exact .inl h.symm
        · exact .inr ⟨r2, rfl, h⟩
  · rw [if_neg (by omega)] at hl
    subst hl
    have K := Y.gi.ok u hu
    rw [e] at K
    have hne : l' ≠ [] := (K.2.2.2 rfl).2.2.1
    by_cases h2 : old = Stk.hdOf s.xs
    · refine (pop_done Y hu e h2 ht P A).mono ?_
      rintro e w' ⟨rfl, s2, rs, _, _, P2, Y2, E2⟩
      have := P.l8
      have := P.m8
      exact ⟨rfl, else_pop E2, .inr ⟨s2, v, l', _, _, rs, t + 1, by omega, P2, by omega, fun h => absurd h hne, Y2⟩⟩
    · refine (pop_fail Y hu e h2 P A).mono ?_
      rintro e w' ⟨rfl, s2, _, _, P2, Y2, E2⟩
      obtain ⟨f, hf⟩ := P2.next
      exact ⟨rfl, else_pop E2, .inl ⟨f, s2, v, l', 0, _, _, hf, P2, Y2, .inl rfl⟩⟩
theorem got_any {nx : Value} (P : PopAt w b q v l most deep old nx) (hn : nx = .nilFunc) (hl : l.length ≤ 8) (h0 : l = [] → v = .slice none 0 0) :
    Calls Try.prog 24 #[.pointer (some ⟨b, 0, none⟩)] w fun e w' => ∃ v', e = .returned v' ∧ Ints w' v' (I l) ∧ Fresh w v' ∧ Up w w' := by
  subst hn
  by_cases h : l = []
  · have e := h0 h
    subst e h
    refine (got_nil P).mono ?_
    rintro e w' ⟨rfl, rfl⟩
    exact ⟨_, rfl, Ints.nil _, (fun k hk => by simp [Value.ownBlock] at hk), Up.refl _⟩
  · refine (got_in P h (by omega)).mono ?_
    rintro e w' ⟨r, cap, rfl, i1, i2, _, i4⟩
    exact ⟨_, rfl, i1, fresh_row i2, i4⟩
end
end Go.Proofs.Ytalhbebpoohgkaa
