/-
  The statement's own goes: a Pop that goes on.
-/
import Derived.Test.YtalhbebpoohgkaaGoesPush
namespace Go.Proofs.Ytalhbebpoohgkaa
open Go.RowKit
set_option maxRecDepth 100000
section
variable {wB w w1 w2 w3 w4 w' : World} {p g q pr gr qr n t t' u bH b rb i most : Nat} {S S' l lo : List Nat} {m : Nat → Stk.Mach} {has : Nat → List Nat} {vP vO vX vY vL : Nat → Value} {oM : Nat → List Nat} {v v' rv rv' : Value} {old deep : Int} {s : St}
/-- What is turned by both Steps of a Pop. -/
def popX (b rb p g pr gr : Nat) (v rv : Value) : List Nat := (b :: (v.ownBlock.toList ++ [p, g])) ++ (rb :: (rv.ownBlock.toList ++ [pr, gr]))
theorem else_popX (E1 : Else (b :: (v.ownBlock.toList ++ [p, g])) w w1) (E2 : Else (rb :: (rv.ownBlock.toList ++ [pr, gr])) w1 w2) : Else (popX b rb p g pr gr v rv) w w2 :=
  (E1.more (fun _ hj => List.mem_append_left _ hj)).trans (E2.more (fun _ hj => List.mem_append_right _ hj))
theorem popX_in (D : XD wB w p g q pr gr qr n t S m has vP vO vX vY vL oM) (eo : oM u = b :: (v.ownBlock.toList ++ rb :: rv.ownBlock.toList)) : ∀ j ∈ popX b rb p g pr gr v rv, j ∈ oM u ∨ j < wB.heap.size := by
  obtain ⟨h1, h2, h3, h4, h5, h6⟩ := D.base
  intro j hj
  unfold popX at hj
  simp only [List.mem_append, List.mem_cons, List.not_mem_nil, or_false] at hj
  rw [eo]
  rcases hj with (h | h | h | h) | (h | h | h | h)
  · left; simp [h]
  · left; simp only [List.mem_cons, List.mem_append]; exact .inr (.inl h)
  · right; omega
  · right; omega
  · left; simp [h]
  · left; simp only [List.mem_cons, List.mem_append]; exact .inr (.inr (.inr h))
  · right; omega
  · right; omega
theorem pop_apart (nd : (b :: (v.ownBlock.toList ++ rb :: rv.ownBlock.toList)).Nodup) : b ≠ rb ∧ (∀ j, v.ownBlock = some j → j ≠ b ∧ j ≠ rb) ∧ (∀ j, rv.ownBlock = some j → j ≠ b ∧ j ≠ rb ∧ v.ownBlock ≠ some j) := by
  rw [List.nodup_cons, List.nodup_append, List.nodup_cons] at nd
  obtain ⟨h1, h2, ⟨h3, h4⟩, h5⟩ := nd
  simp only [List.mem_append, List.mem_cons, Option.mem_toList, not_or] at h1 h3 h5
  refine ⟨h1.2.1, fun j hj => ⟨fun e => h1.1 (by rw [← e]; exact hj), h5 j hj rb (.inl rfl)⟩, fun j hj => ⟨fun e => h1.2.2 (by rw [← e]; exact hj), fun e => h3 (by rw [← e]; exact hj), fun e => h5 j e j (.inr hj) rfl⟩⟩
def FreshOr (w : World) (v v' : Value) : Prop := v'.ownBlock = v.ownBlock ∨ v'.ownBlock = none ∨ ∃ r, v'.ownBlock = some r ∧ w.heap.size ≤ r
theorem XD.pop_go (D : XD wB w p g q pr gr qr n t S m has vP vO vX vY vL oM) (hu : u < 4) (ea : vP u = .pointer none) (ec : vO u = .pointer (some ⟨b, 0, none⟩)) (ey : vY u = .pointer (some ⟨rb, 0, none⟩)) (eo : oM u = b :: (v.ownBlock.toList ++ rb :: rv.ownBlock.toList)) (hb : wB.heap.size ≤ w.heap.size)
    (E : Else (popX b rb p g pr gr v rv) w w2) {i' : Nat} {deep' old' : Int} (P : PopM w2 b q v' lo most i' deep' old') (R : RPopAt w2 rb qr rv' lo most i' deep' old' false) (hv : FreshOr w v v') (hvl : ∀ j, v'.ownBlock = some j → j < w1.heap.size) (hrv : FreshOr w1 rv rv') (h1 : w.heap.size ≤ w1.heap.size)
    (Y : Sys w2 p g q n s t S (Stk.upd m u (.pop most i' deep' old' (if i' = 0 then [] else lo))) has) (RE : REnv w2 pr gr qr 0 2 n s.xs s.c) :
    XD wB w2 p g q pr gr qr n t S (Stk.upd m u (.pop most i' deep' old' (if i' = 0 then [] else lo))) has vP vO vX vY vL (Stk.upd oM u (b :: (v'.ownBlock.toList ++ rb :: rv'.ownBlock.toList))) := by
  have nd := (D.parts hu).1
  rw [eo] at nd
  obtain ⟨a1, a2, a3⟩ := pop_apart nd
  have lb := D.lt (j := b) hu (by rw [eo]; simp)
  have lrb := D.lt (j := rb) hu (by rw [eo]; simp)
  have lv : ∀ j, v.ownBlock = some j → wB.heap.size ≤ j ∧ j < w.heap.size := fun j hj => D.lt hu (by rw [eo]; simp [hj])
  have lrv : ∀ j, rv.ownBlock = some j → wB.heap.size ≤ j ∧ j < w.heap.size := fun j hj => D.lt hu (by rw [eo]; simp [hj])
  have lL : ∀ j, (vL u).ownBlock = some j → (wB.heap.size ≤ j ∧ j < w.heap.size) ∧ j ≠ b ∧ j ≠ rb ∧ v.ownBlock ≠ some j ∧ rv.ownBlock ≠ some j := fun j hj => by
    have := (D.parts hu).2 j (by simp [hj])
    rw [eo] at this
    simp only [List.mem_cons, List.mem_append, Option.mem_toList, not_or] at this
    exact ⟨D.hlt hu hj, this.1, this.2.2.1, this.2.1, this.2.2.2⟩
  have aw := P.at_.away
  have raw := R.away
  have key : ∀ j, v'.ownBlock = some j → (v.ownBlock = some j ∨ w.heap.size ≤ j) := fun j hj => by
    rcases hv with h | h | ⟨r, h, hr⟩
    · exact .inl (h ▸ hj)
    · rw [h] at hj; cases hj
    · rw [h] at hj; injection hj with hj; exact .inr (by omega)
  have rkey : ∀ j, rv'.ownBlock = some j → (rv.ownBlock = some j ∨ w1.heap.size ≤ j) := fun j hj => by
    rcases hrv with h | h | ⟨r, h, hr⟩
    · exact .inl (h ▸ hj)
    · rw [h] at hj; cases hj
    · rw [h] at hj; injection hj with hj; exact .inr (by omega)
  have H := D.turn (t' := t) (S' := S) (M' := .pop most i' deep' old' (if i' = 0 then [] else lo)) (h' := has u) (a := vP u) (c := vO u) (X := vX u) (Yv := vY u) (h := vL u) (o := b :: (v'.ownBlock.toList ++ rb :: rv'.ownBlock.toList)) hu E (fun j hj => (popX_in D eo j hj).imp (fun h => by simp [ow, h]) id) ⟨s, by rw [Stk.upd_id]; exact Y, RE⟩ (by rw [ea, ec, ey]; exact .pop P R) (D.ilK hu E (popX_in D eo))
    (fun j hj => by
      simp only [ow, List.mem_append, List.mem_cons, Option.mem_toList] at hj
      have hE := E.size
      rcases hj with (h | h | h | h) | h
      · subst h; exact ⟨.inl (by simp [ow, eo]), by omega⟩
      · refine ⟨?_, P.at_.row.lt h⟩
        rcases key j h with h | h
        · exact .inl (by simp [ow, eo, h])
        · exact .inr h
      · subst h; exact ⟨.inl (by simp [ow, eo]), by omega⟩
      · refine ⟨?_, R.row.lt h⟩
        rcases rkey j h with h | h
        · exact .inl (by simp [ow, eo, h])
        · exact .inr (by omega)
      · exact ⟨.inl (by simp [ow, h]), by have := (lL j h).1; omega⟩)
    (by
      unfold ow
      rw [List.nodup_append, List.nodup_cons, List.nodup_append, List.nodup_cons]
      simp only [List.mem_append, List.mem_cons, Option.mem_toList, not_or]
      refine ⟨⟨⟨aw, a1, fun e => ?_⟩, by cases v'.ownBlock <;> simp, ⟨raw, by cases rv'.ownBlock <;> simp⟩, fun x hx y hy e => ?_⟩, by cases (vL u).ownBlock <;> simp, fun x hx y hy e => ?_⟩
      · rcases rkey b e with h | h
        · exact (a3 b h).1 rfl
        · omega
      · subst e
        rcases hy with h | h
        · subst h
          rcases key x hx with h | h
          · exact (a2 x h).2 rfl
          · omega
        · rcases rkey x h with h2 | h2
          · rcases key x hx with h3 | h3
            · exact (a3 x h2).2.2 h3
            · have := (lrv x h2).2; omega
          · have := hvl x hx; omega
      · subst e
        obtain ⟨g1, g2, g3, g4, g5⟩ := lL x hy
        rcases hx with h | h | h | h
        · exact g2 h
        · rcases key x h with h | h
          · exact g4 h
          · omega
        · exact g3 h
        · rcases rkey x h with h | h
          · exact g5 h
          · omega) hb
  simpa only [Stk.upd_id] using H
theorem XD.pop_done (D : XD wB w p g q pr gr qr n t S m has vP vO vX vY vL oM) (hu : u < 4) (ea : vP u = .pointer none) (hb : wB.heap.size ≤ w.heap.size)
    {x : List Nat} (E : Else x w w') (hx : ∀ j ∈ x, j ∈ oM u ∨ j ∈ (vL u).ownBlock.toList ∨ j < wB.heap.size) {l2 : List Nat} {h : Value} (J : Ints w' h (I (has u ++ l2))) (hh : h.ownBlock = (vL u).ownBlock ∨ ∃ r, h.ownBlock = some r ∧ w.heap.size ≤ r)
    (Y : ∃ s, Sys w' p g q n s t' S' (Stk.upd m u .idle) (Stk.upd has u (has u ++ l2)) ∧ REnv w' pr gr qr 0 2 n s.xs s.c) :
    XD wB w' p g q pr gr qr n t' S' (Stk.upd m u .idle) (Stk.upd has u (has u ++ l2)) vP (Stk.upd vO u (.pointer none)) vX vY (Stk.upd vL u h) (Stk.upd oM u []) := by
  have H := D.turn (t' := t') (S' := S') (M' := .idle) (h' := has u ++ l2) (a := vP u) (c := .pointer none) (X := vX u) (Yv := vY u) (h := h) (o := []) hu E (fun j hj => by
      rcases hx j hj with h | h | h
      · exact .inl (by simp [ow, h])
      · exact .inl (by simp only [ow, List.mem_append]; exact .inr h)
      · exact .inr h) Y (by rw [ea]; exact .idle) J
    (fun j hj => by
      simp only [ow, List.nil_append] at hj
      refine ⟨?_, J.lt (by simpa using hj)⟩
      rcases hh with e | ⟨r, e, hr⟩
      · left; rw [e] at hj; simp only [ow, List.mem_append]; exact .inr hj
      · rw [e] at hj; simp at hj; right; omega)
    (by
      unfold ow
      cases h.ownBlock <;> simp) hb
  simpa only [Stk.upd_id] using H
end
end Go.Proofs.Ytalhbebpoohgkaa
