/-
  Four who share a stack: what each way of one round leaves (HD anew).
-/
import Derived.Test.YtalhbebpoohgkaaHands
import Derived.Test.YtalhbebpoohgkaaOnce
namespace Go.Proofs.Ytalhbebpoohgkaa
open Go.RowKit
set_option maxRecDepth 100000
section
variable {wB w w5 w' : World} {p g q n t t' : Nat} {S S' : List Nat} {m : Nat → Stk.Mach} {has : Nat → List Nat} {vP vO vH vQ : Nat → Value} {oM : Nat → List Nat} {u b r k cap i most : Nat} {l l' lo : List Nat} {old deep : Int} {v : Value} {s : St}
/-- append as one step of a region that draws its order. -/
theorem step_app {v2 : Value} {xs ys : List Int} {ops : Array Oper} {o : Oper} {a : Act} {K : Act → World → Prop} {Q : Exit → Act → World → Prop} {E : Prop} (hgd : o.guard = none) (s x : Operand)
    (ho : o.op = .call { callee := .builtin .append, args := #[s, x], argTypes := #[22, 22] }) (hs : a.eval s = v) (hx : a.eval x = v2) (J : Ints w v xs) (R : Rd w v2 ys) (hl : xs.length + ys.length ≤ 8192)
    (h : ∀ v' w', Ints w' v' (xs ++ ys) → w.grownBy w' v.ownBlock → (v'.ownBlock = v.ownBlock ∨ v'.ownBlock = some w.heap.size) → K (a.put o.dst v') w') : if Region.wanted o (yielded ops a.tmps) = true then Oper.wp Try.prog o a w K Q else E := by
  have hw : Region.wanted o (yielded ops a.tmps) = true := by simp [Region.wanted, hgd]
  rw [if_pos hw]
  exact wp_app s x ho hs hx J R hl h
/-- All that the first j have, and what their machines have in hand. -/
def accL (has : Nat → List Nat) (m : Nat → Stk.Mach) : Nat → List Nat
  | 0 => []
  | j + 1 => accL has m j ++ (has j ++ Stk.puts (m j))
theorem HM.ways {M : Stk.Mach} {a c : Value} {o : List Nat} (h : HM w q M a c o) : (M = .idle ∧ a = .pointer none ∧ c = .pointer none ∧ o = []) ∨
    (∃ b r k cap l i old, M = .push l i old ∧ a = .pointer (some ⟨b, 0, none⟩) ∧ c = .pointer none ∧ o = [b, r] ∧ PushM w b q (.slice (some ⟨r, 0, none⟩) k cap) l i old) ∨
    (∃ b v l most i deep old, M = .pop most i deep old (if i = 0 then [] else l) ∧ a = .pointer none ∧ c = .pointer (some ⟨b, 0, none⟩) ∧ o = b :: v.ownBlock.toList ∧ PopM w b q v l most i deep old) := by
  cases h with
  | idle => exact .inl ⟨rfl, rfl, rfl, rfl⟩
  | push P => exact .inr (.inl ⟨_, _, _, _, _, _, _, rfl, rfl, rfl, rfl, P⟩)
  | pop P => exact .inr (.inr ⟨_, _, _, _, _, _, _, rfl, rfl, rfl, rfl, P⟩)
theorem HD.lt (D : HD wB w p g q n t S m has vP vO vH vQ oM) (hu : u < 4) {j : Nat} (hj : j ∈ oM u) : wB.heap.size ≤ j ∧ j < w.heap.size := D.lo u hu j (by simp [ob, hj])
theorem HD.hlt (D : HD wB w p g q n t S m has vP vO vH vQ oM) (hu : u < 4) {j : Nat} (hj : (vH u).ownBlock = some j) : wB.heap.size ≤ j ∧ j < w.heap.size := D.lo u hu j (by simp [ob, hj])
theorem HD.apart (D : HD wB w p g q n t S m has vP vO vH vQ oM) (hu : u < 4) (hb : b ∈ oM u) (hv : ∀ j, v.ownBlock = some j → j ∈ oM u) : Apart b p g q v := by
  obtain ⟨h1, h2, h3⟩ := D.base
  have hb := (D.lt hu hb).1
  refine ⟨by omega, by omega, by omega, fun e => ?_, fun e => ?_, fun e => ?_⟩
  · have := (D.lt hu (hv _ e)).1; omega
  · have := (D.lt hu (hv _ e)).1; omega
  · have := (D.lt hu (hv _ e)).1; omega
/-- One's two lists are not among his machine's blocks, nor are they one. -/
theorem HD.parts (D : HD wB w p g q n t S m has vP vO vH vQ oM) (hu : u < 4) : (∀ j ∈ (vH u).ownBlock.toList, j ∉ oM u) ∧ (∀ j ∈ (vQ u).ownBlock.toList, j ∉ oM u) ∧ (∀ j ∈ (vQ u).ownBlock.toList, j ∉ (vH u).ownBlock.toList) := by
  have nd := D.nd u hu
  unfold ob at nd
  rw [List.nodup_append, List.nodup_append] at nd
  obtain ⟨_, ⟨_, _, h3⟩, h4⟩ := nd
  refine ⟨fun j hj hk => h4 j hk j (by simp at hj ⊢; exact .inl hj) rfl, fun j hj hk => h4 j hk j (by simp at hj ⊢; exact .inr hj) rfl, fun j hj hk => h3 j hk j hj rfl⟩
theorem HD.ihK (D : HD wB w p g q n t S m has vP vO vH vQ oM) (hu : u < 4) {x : List Nat} (E : Else x w w') (hx : ∀ j ∈ x, j ∈ oM u ∨ j < wB.heap.size) : Ints w' (vH u) (I (has u)) := by
  refine (D.ih u hu).else E (away_in fun j hj hjx => ?_)
  rcases hx j hjx with h | h
  · exact (D.parts hu).1 j hj h
  · have := (D.hlt hu (by simpa using hj)).1; omega
theorem HD.iqK (D : HD wB w p g q n t S m has vP vO vH vQ oM) (hu : u < 4) {x : List Nat} (E : Else x w w') (hx : ∀ j ∈ x, j ∈ oM u ∨ j < wB.heap.size) : Ints w' (vQ u) (I (Stk.puts (m u))) := by
  refine (D.iq u hu).else E (away_in fun j hj hjx => ?_)
  rcases hx j hjx with h | h
  · exact (D.parts hu).2.1 j hj h
  · have := (D.lo u hu j (by simp only [ob, List.mem_append]; exact .inr (.inr hj))).1; omega
theorem in_three {a c : Nat} {P : Nat → Prop} (h1 : P b) (h2 : P a) (h3 : P c) : ∀ j ∈ [b, a, c], P j := by
  intro j hj; simp at hj; rcases hj with rfl | rfl | rfl <;> assumption
/-- A Push goes on. -/
theorem HD.push_go (D : HD wB w p g q n t S m has vP vO vH vQ oM) (hu : u < 4) (em : m u = .push l i old) (ea : vP u = .pointer (some ⟨b, 0, none⟩)) (ec : vO u = .pointer none) (eo : oM u = [b, r]) (hb : wB.heap.size ≤ w.heap.size)
    (E : Else [b, p, g] w w5) {i' : Nat} {old' : Int} (P : PushM w5 b q (.slice (some ⟨r, 0, none⟩) k cap) l i' old') (Y : Sys w5 p g q n s t S (Stk.upd m u (.push l i' old')) has) :
    HD wB w5 p g q n t S (Stk.upd m u (.push l i' old')) has vP vO vH vQ oM := by
  obtain ⟨h1, h2, h3⟩ := D.base
  have hx : ∀ j ∈ [b, p, g], j ∈ oM u ∨ j < wB.heap.size := in_three (.inl (by rw [eo]; simp)) (.inr h1) (.inr h2)
  have iq := D.iqK hu E hx
  rw [em] at iq
  have H := D.turn (t' := t) (S' := S) (M' := .push l i' old') (h' := has u) (a := vP u) (c := vO u) (h := vH u) (k := vQ u) (o := oM u) hu E (fun j hj => (hx j hj).imp (fun h => by simp [ob, h]) id) ⟨s, by rw [Stk.upd_id]; exact Y⟩ (by rw [ea, ec, eo]; exact .push P) (D.ihK hu E hx) iq
    (fun j hj => ⟨.inl hj, Nat.lt_of_lt_of_le (D.lo u hu j hj).2 E.size⟩) (D.nd u hu) hb
  simpa only [Stk.upd_id] using H
/-- A Push is done. -/
theorem HD.push_done (D : HD wB w p g q n t S m has vP vO vH vQ oM) (hu : u < 4) (ec : vO u = .pointer none) (eo : oM u = [b, r]) (hb : wB.heap.size ≤ w.heap.size)
    (E : Else [b, p, g] w w5) (Y : Sys w5 p g q n s t' S' (Stk.upd m u .idle) has) :
    HD wB w5 p g q n t' S' (Stk.upd m u .idle) has (Stk.upd vP u (.pointer none)) vO vH (Stk.upd vQ u (.slice none 0 0)) (Stk.upd oM u []) := by
  obtain ⟨h1, h2, h3⟩ := D.base
  have hx : ∀ j ∈ [b, p, g], j ∈ oM u ∨ j < wB.heap.size := in_three (.inl (by rw [eo]; simp)) (.inr h1) (.inr h2)
  have H := D.turn (t' := t') (S' := S') (M' := .idle) (h' := has u) (a := .pointer none) (c := vO u) (h := vH u) (k := .slice none 0 0) (o := []) hu E (fun j hj => (hx j hj).imp (fun h => by simp [ob, h]) id) ⟨s, by rw [Stk.upd_id]; exact Y⟩ (by rw [ec]; exact .idle) (D.ihK hu E hx) (Ints.nil _)
    (fun j hj => by
      have hj : j ∈ ob (oM u) (vH u) (vQ u) := by simp [ob, Value.ownBlock] at hj ⊢; simp [hj]
      exact ⟨.inl hj, Nat.lt_of_lt_of_le (D.lo u hu j hj).2 E.size⟩)
    (by
      unfold ob
      cases (vH u).ownBlock <;> simp [Value.ownBlock]) hb
  simpa only [Stk.upd_id] using H
/-- A Pop goes on. -/
theorem HD.pop_go (D : HD wB w p g q n t S m has vP vO vH vQ oM) (hu : u < 4) (em : Stk.puts (m u) = []) (ea : vP u = .pointer none) (ec : vO u = .pointer (some ⟨b, 0, none⟩)) (eo : oM u = b :: v.ownBlock.toList) (hb : wB.heap.size ≤ w.heap.size)
    (E : Else (b :: (v.ownBlock.toList ++ [p, g])) w w5) {i' : Nat} {deep' old' : Int} {v' : Value} (P : PopM w5 b q v' lo most i' deep' old') (hv : v'.ownBlock = v.ownBlock ∨ ∃ r, v'.ownBlock = some r ∧ w.heap.size ≤ r)
    (Y : Sys w5 p g q n s t S (Stk.upd m u (.pop most i' deep' old' (if i' = 0 then [] else lo))) has) :
    HD wB w5 p g q n t S (Stk.upd m u (.pop most i' deep' old' (if i' = 0 then [] else lo))) has vP vO vH vQ (Stk.upd oM u (b :: v'.ownBlock.toList)) := by
  obtain ⟨h1, h2, h3⟩ := D.base
  have hx : ∀ j ∈ b :: (v.ownBlock.toList ++ [p, g]), j ∈ oM u ∨ j < wB.heap.size := by
    intro j hj
    rw [eo]
    simp at hj ⊢
    rcases hj with h | h | h | h
    · exact .inl (.inl h)
    · exact .inl (.inr h)
    · exact .inr (by omega)
    · exact .inr (by omega)
  have iq := D.iqK hu E hx
  rw [em] at iq
  have bl := D.lt (j := b) hu (by rw [eo]; simp)
  have old_ : ∀ j ∈ (vH u).ownBlock.toList ++ (vQ u).ownBlock.toList, wB.heap.size ≤ j ∧ j < w.heap.size := fun j hj => D.lo u hu j (by simp only [ob, List.mem_append] at hj ⊢; exact .inr hj)
  have H := D.turn (t' := t) (S' := S) (M' := .pop most i' deep' old' (if i' = 0 then [] else lo)) (h' := has u) (a := vP u) (c := vO u) (h := vH u) (k := vQ u) (o := b :: v'.ownBlock.toList) hu E (fun j hj => (hx j hj).imp (fun h => by simp [ob, h]) id) ⟨s, by rw [Stk.upd_id]; exact Y⟩ (by rw [ea, ec]; exact .pop P) (D.ihK hu E hx) iq
    (fun j hj => by
      simp only [ob, List.mem_append, List.mem_cons] at hj
      rcases hj with (h | h) | h
      · subst h; exact ⟨.inl (by simp [ob, eo]), by have := E.size; omega⟩
      · have hvl := P.at_.row.lt (by simpa using h)
        refine ⟨?_, hvl⟩
        rcases hv with e | ⟨r, e, hr⟩
        · left; rw [e] at h; simp only [ob, List.mem_append]; left; rw [eo]; exact List.mem_cons_of_mem _ h
        · rw [e] at h; simp at h; right; omega
      · have := old_ j (by simp only [List.mem_append]; exact h)
        exact ⟨.inl (by simp only [ob, List.mem_append]; exact .inr h), by have := E.size; omega⟩)
    (by
      have nd := D.nd u hu
      unfold ob at nd ⊢
      rw [List.nodup_append] at nd ⊢
      refine ⟨?_, nd.2.1, fun x hx y hy e => ?_⟩
      · have := P.at_.away
        cases hq : v'.ownBlock with
        | none => simp
        | some j => rw [hq] at this; simp; exact fun e => this (by rw [e])
      · subst e
        simp only [List.mem_cons] at hx
        rcases hx with h | h
        · subst h; exact nd.2.2 x (by rw [eo]; simp) x hy rfl
        · rcases hv with e | ⟨r, e, hr⟩
          · rw [e] at h; exact nd.2.2 x (by rw [eo]; exact List.mem_cons_of_mem _ h) x hy rfl
          · rw [e] at h; simp at h; have := old_ x hy; omega) hb
  simpa only [Stk.upd_id] using H
/-- A Pop is done, and what it got is with what one has. -/
theorem HD.pop_done (D : HD wB w p g q n t S m has vP vO vH vQ oM) (hu : u < 4) (em : Stk.puts (m u) = []) (ea : vP u = .pointer none) (hb : wB.heap.size ≤ w.heap.size)
    {x : List Nat} (E : Else x w w') (hx : ∀ j ∈ x, j ∈ oM u ∨ j ∈ (vH u).ownBlock.toList ∨ j < wB.heap.size) {l2 : List Nat} {h : Value} (J : Ints w' h (I (has u ++ l2))) (hh : h.ownBlock = (vH u).ownBlock ∨ ∃ r, h.ownBlock = some r ∧ w.heap.size ≤ r)
    (Y : ∃ s, Sys w' p g q n s t' S' (Stk.upd m u .idle) (Stk.upd has u (has u ++ l2))) :
    HD wB w' p g q n t' S' (Stk.upd m u .idle) (Stk.upd has u (has u ++ l2)) vP (Stk.upd vO u (.pointer none)) (Stk.upd vH u h) vQ (Stk.upd oM u []) := by
  have ql : ∀ j ∈ (vQ u).ownBlock.toList, wB.heap.size ≤ j ∧ j < w.heap.size := fun j hj => D.lo u hu j (by simp only [ob, List.mem_append]; exact .inr (.inr hj))
  have iq : Ints w' (vQ u) (I (Stk.puts Stk.Mach.idle)) := by
    have k := D.iq u hu
    rw [em] at k
    refine Ints.else (k : Ints w (vQ u) (I [])) E (away_in fun j hj hjx => ?_)
    rcases hx j hjx with h | h | h
    · exact (D.parts hu).2.1 j hj h
    · exact (D.parts hu).2.2 j hj h
    · have := (ql j hj).1; omega
  have H := D.turn (t' := t') (S' := S') (M' := .idle) (h' := has u ++ l2) (a := vP u) (c := .pointer none) (h := h) (k := vQ u) (o := []) hu E (fun j hj => by
      rcases hx j hj with h | h | h
      · exact .inl (by simp [ob, h])
      · exact .inl (by simp only [ob, List.mem_append]; exact .inr (.inl h))
      · exact .inr h) Y (by rw [ea]; exact .idle) J iq
    (fun j hj => by
      simp only [ob, List.nil_append, List.mem_append] at hj
      rcases hj with hj | hj
      · refine ⟨?_, J.lt (by simpa using hj)⟩
        rcases hh with e | ⟨r, e, hr⟩
        · left; rw [e] at hj; simp only [ob, List.mem_append]; exact .inr (.inl hj)
        · rw [e] at hj; simp at hj; right; omega
      · exact ⟨.inl (by simp only [ob, List.mem_append]; exact .inr (.inr hj)), by have := (ql j hj).2; have := E.size; omega⟩)
    (by
      unfold ob
      rw [List.nil_append, List.nodup_append]
      refine ⟨by cases h.ownBlock <;> simp, by cases (vQ u).ownBlock <;> simp, fun x hx y hy e => ?_⟩
      subst e
      rcases hh with e | ⟨r, e, hr⟩
      · rw [e] at hx; exact (D.parts hu).2.2 x hy hx
      · rw [e] at hx; simp at hx; have := (ql x hy).2; omega) hb
  simpa only [Stk.upd_id] using H
/-- A Pop begins. -/
theorem HD.pop_new (D : HD wB w p g q n t S m has vP vO vH vQ oM) (hu : u < 4) (em : m u = .idle) (ea : vP u = .pointer none) (hb : wB.heap.size ≤ w.heap.size)
    {x : List Nat} (E : Else x w w') (hx : ∀ j ∈ x, j < wB.heap.size) (hs : p ∉ x ∧ g ∉ x ∧ q ∉ x) (P : PopM w' b q (.slice none 0 0) [] most 0 0 0) (hbn : w.heap.size ≤ b) :
    HD wB w' p g q n t S (Stk.upd m u (.pop most 0 0 0 [])) has vP (Stk.upd vO u (.pointer (some ⟨b, 0, none⟩))) vH vQ (Stk.upd oM u [b]) := by
  obtain ⟨s, Y⟩ := D.sys
  have Y2 : Sys w' p g q n s t S (Stk.upd m u (.pop most 0 0 0 [])) has := ⟨Y.env.else E hs.1 hs.2.1 hs.2.2, Y.len, Y.gi.pop_new hu (by rw [em]; rfl) most 0 0⟩
  have iq := D.iqK hu E (fun j hj => .inr (hx j hj))
  rw [em] at iq
  have ol : ∀ j ∈ (vH u).ownBlock.toList ++ (vQ u).ownBlock.toList, wB.heap.size ≤ j ∧ j < w.heap.size := fun j hj => D.lo u hu j (by simp only [ob, List.mem_append] at hj ⊢; exact .inr hj)
  have H := D.turn (t' := t) (S' := S) (M' := .pop most 0 0 0 []) (h' := has u) (a := vP u) (c := .pointer (some ⟨b, 0, none⟩)) (h := vH u) (k := vQ u) (o := [b]) hu E (fun j hj => .inr (hx j hj)) ⟨s, by rw [Stk.upd_id]; exact Y2⟩ (by rw [ea]; exact .pop P) (D.ihK hu E (fun j hj => .inr (hx j hj))) iq
    (fun j hj => by
      simp only [ob, List.mem_append, List.mem_cons, List.not_mem_nil, or_false] at hj
      rcases hj with h | h
      · subst h; exact ⟨.inr hbn, P.at_.top.lt⟩
      · have := ol j (by simp only [List.mem_append]; exact h)
        exact ⟨.inl (by simp only [ob, List.mem_append]; exact .inr h), by have := E.size; omega⟩)
    (by
      have nd := D.nd u hu
      unfold ob at nd ⊢
      rw [List.nodup_append] at nd ⊢
      refine ⟨by simp, nd.2.1, fun x hx y hy e => ?_⟩
      subst e; simp at hx; subst hx
      have := ol x hy; omega) hb
  simpa only [Stk.upd_id] using H
/-- A Push begins. -/
theorem HD.push_new (D : HD wB w p g q n t S m has vP vO vH vQ oM) (hu : u < 4) (em : m u = .idle) (ec : vO u = .pointer none) (hb : wB.heap.size ≤ w.heap.size) {rr : List Nat} (hh : has u = l ++ rr) (h0 : l ≠ [])
    {x : List Nat} (E : Else x w w') (hx : ∀ j ∈ x, j < wB.heap.size) (hs : p ∉ x ∧ g ∉ x ∧ q ∉ x) (P : PushM w' b q (.slice (some ⟨r, 0, none⟩) k cap) l 0 0) {h kq : Value} (J : Ints w' h (I rr)) (K : Ints w' kq (I l))
    (ord : w.heap.size ≤ b ∧ w.heap.size ≤ r ∧ b ≠ r) (fh : ∀ j, h.ownBlock = some j → w.heap.size ≤ j ∧ j ≠ b ∧ j ≠ r) (fk : ∀ j, kq.ownBlock = some j → w.heap.size ≤ j ∧ j ≠ b ∧ j ≠ r ∧ h.ownBlock ≠ some j) :
    HD wB w' p g q n t S (Stk.upd m u (.push l 0 0)) (Stk.upd has u rr) (Stk.upd vP u (.pointer (some ⟨b, 0, none⟩))) vO (Stk.upd vH u h) (Stk.upd vQ u kq) (Stk.upd oM u [b, r]) := by
  obtain ⟨s, Y⟩ := D.sys
  have Y2 : Sys w' p g q n s t S m has := ⟨Y.env.else E hs.1 hs.2.1 hs.2.2, Y.len, Y.gi⟩
  have H := D.turn (t' := t) (S' := S) (M' := .push l 0 0) (h' := rr) (a := .pointer (some ⟨b, 0, none⟩)) (c := vO u) (h := h) (k := kq) (o := [b, r]) hu E (fun j hj => .inr (hx j hj)) ⟨s, Y2.push_new hu (by rw [em]; rfl) hh h0⟩ (by rw [ec]; exact .push P) J K
    (fun j hj => by
      simp only [ob, List.mem_append, List.mem_cons, List.not_mem_nil, or_false, Option.mem_toList] at hj
      rcases hj with (h | h) | h | h
      · subst h; exact ⟨.inr ord.1, P.1.top.lt⟩
      · subst h; exact ⟨.inr ord.2.1, P.1.row.lt rfl⟩
      · exact ⟨.inr (fh j h).1, J.lt h⟩
      · exact ⟨.inr (fk j h).1, K.lt h⟩)
    (by
      unfold ob
      rw [List.nodup_append, List.nodup_append]
      refine ⟨by simp [ord.2.2], ⟨by cases h.ownBlock <;> simp, by cases kq.ownBlock <;> simp, fun x hx y hy e => ?_⟩, fun x hx y hy e => ?_⟩
      · subst e; simp at hx hy; exact (fk x hy).2.2.2 hx
      · subst e
        simp only [List.mem_append, Option.mem_toList, List.mem_cons, List.not_mem_nil, or_false] at hx hy
        rcases hy with h | h
        · rcases hx with e | e
          · exact (fh x h).2.1 e
          · exact (fh x h).2.2 e
        · rcases hx with e | e
          · exact (fk x h).2.1 e
          · exact (fk x h).2.2.1 e) hb
  simpa only [Stk.upd_id] using H
theorem HD.once (D : HD wB w p g q n t S m has vP vO vH vQ oM) : (S ++ accL has m 4).length = n ∧ (∀ x ∈ S ++ accL has m 4, x < n) ∧ (S ++ accL has m 4).Nodup := by
  obtain ⟨s, Y⟩ := D.sys
  exact Y.gi.once (by simp [accL])
theorem HD.small (D : HD wB w p g q n t S m has vP vO vH vQ oM) (hu : u < 4) : S.length ≤ n ∧ (has u).length ≤ n ∧ (Stk.puts (m u)).length ≤ n ∧ (accL has m u).length ≤ n := by
  have h := D.once.1
  simp only [accL, List.length_append, List.length_nil] at h
  rcases (show u = 0 ∨ u = 1 ∨ u = 2 ∨ u = 3 by omega) with rfl | rfl | rfl | rfl <;> simp only [accL, List.length_append, List.length_nil] <;> omega
end
end Go.Proofs.Ytalhbebpoohgkaa
