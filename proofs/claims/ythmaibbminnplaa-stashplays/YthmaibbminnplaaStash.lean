/-
  Package stash: the stash in memory (Sta), the contracts of New, Give, Take, All, Over, List, Len. The reference's stash lies likewise, at another type.
-/
import Derived.Test.YthmaibbminnplaaIntCut
namespace Go.Proofs.Ythmaibbminnplaa
open Go.RowKit
set_option maxRecDepth 100000

/-- A stash of type t with the greatest number m and the items xs lies at q; its slice is v; all its blocks are among F. -/
structure StaV (t : TypeId) (w : World) (q : Nat) (F : List Nat) (m : Int) (xs : List Int) (v : Value) : Prop where
  top : Whole w q t #[.int .i64 m, v]
  ints : Ints w v xs
  mem : q ∈ F
  inF : ∀ b, v.ownBlock = some b → b ∈ F
  nq : v.ownBlock ≠ some q
  lt : ∀ b, b ∈ F → b < w.heap.size
def Sta (t : TypeId) (w : World) (q : Nat) (F : List Nat) (m : Int) (xs : List Int) : Prop := ∃ v, StaV t w q F m xs v
/-- The stash is turned, and all else that it may own is as it was. -/
def Gave (t : TypeId) (w w' : World) (q : Nat) (F : List Nat) (m : Int) (xs : List Int) : Prop := ∃ F', Sta t w' q F' m xs ∧ Next w F F' ∧ Else F w w'
/-- The same, and o reads as out and is no more its own. -/
def Took (t : TypeId) (w w' : World) (q : Nat) (F : List Nat) (m : Int) (xs : List Int) (o : Value) (out : List Int) : Prop :=
  ∃ F', Sta t w' q F' m xs ∧ Rd w' o out ∧ Away o F' ∧ Next w F F' ∧ (∀ b, o.ownBlock = some b → b ∈ F ∨ w.heap.size ≤ b) ∧ Else F w w'
section
variable {t : TypeId} {w w1 w2 w' : World} {q n : Nat} {F F1 : List Nat} {m : Int} {xs ys zs : List Int} {v v' o : Value}
theorem StaV.up (E : StaV t w q F m xs v) (u : Up w w') : StaV t w' q F m xs v := ⟨E.top.up u, E.ints.up u, E.mem, E.inF, E.nq, fun b hb => Nat.lt_of_lt_of_le (E.lt b hb) u.size⟩
theorem StaV.else (E : StaV t w q F m xs v) {l : List Nat} (u : Else l w w') (h : ∀ b, b ∈ F → b ∉ l) : StaV t w' q F m xs v :=
  ⟨u.whole E.top (h _ E.mem), E.ints.else u (fun b hb e => h b (E.inF b e) hb), E.mem, E.inF, E.nq, fun b hb => Nat.lt_of_lt_of_le (E.lt b hb) u.size⟩
theorem Sta.up (E : Sta t w q F m xs) (u : Up w w') : Sta t w' q F m xs := E.imp fun _ E => E.up u
theorem Sta.else (E : Sta t w q F m xs) {l : List Nat} (u : Else l w w') (h : ∀ b, b ∈ F → b ∉ l) : Sta t w' q F m xs := E.imp fun _ E => E.else u h
theorem Sta.lt (E : Sta t w q F m xs) : ∀ b, b ∈ F → b < w.heap.size := E.elim fun _ E => E.lt
theorem Sta.mem (E : Sta t w q F m xs) : q ∈ F := E.elim fun _ E => E.mem
theorem StaV.cells (E : StaV t w q F m xs v) : w.cell? ⟨q, 0, none⟩ = some (.int .i64 m) ∧ w.cell? ⟨q, 1, none⟩ = some v := ⟨E.top.cell rfl, E.top.cell rfl⟩
/-- A new slice in the place of the old one. -/
theorem StaV.put (E : StaV t w q F m xs v) (top : Whole w2 q t #[.int .i64 m, v]) (J : Ints w2 v' ys) (hq : v'.ownBlock ≠ some q) :
    StaV t (w2.setCell ⟨q, 1, none⟩ v') q (q :: v'.ownBlock.toList) m ys v' := by
  have u : Else [q] w2 (w2.setCell ⟨q, 1, none⟩ v') := (Else.refl _ _).set (.inl (by simp)) _
  refine ⟨top.set 1 v', J.else u (fun b hb e => by simp at hb; subst hb; exact hq e), by simp, fun b hb => by simp [hb], hq, fun b hb => ?_⟩
  rcases List.mem_cons.1 hb with rfl | hb
  · exact Nat.lt_of_lt_of_le top.lt u.size
  · simp at hb; exact Nat.lt_of_lt_of_le (J.lt hb) u.size
/-- Behind an append to its own slice. -/
theorem StaV.gave (E : StaV t w q F m xs v) (g : w.grownBy w2 v.ownBlock) (J : Ints w2 v' ys) (hv : v'.ownBlock = v.ownBlock ∨ v'.ownBlock = some w.heap.size) : Gave t w (w2.setCell ⟨q, 1, none⟩ v') q F m ys := by
  have hqlt := E.lt q E.mem
  have hq : v'.ownBlock ≠ some q := by
    rcases hv with h | h
    · rw [h]; exact E.nq
    · rw [h]; intro e; injection e with e; omega
  refine ⟨_, ⟨v', E.put (E.top.grown g (fun e => E.nq e.symm)) J hq⟩, fun b hb => ?_, (((Else.refl F w).grown g (fun b hb => .inl (E.inF b hb))).set (.inl E.mem) _)⟩
  rcases List.mem_cons.1 hb with rfl | hb
  · exact .inl E.mem
  · simp at hb
    rcases hv with h | h
    · exact .inl (E.inF b (h ▸ hb))
    · rw [hb] at h; injection h with h; exact .inr (by omega)
/-- Behind a new slice that is stored. -/
theorem StaV.renew (E : StaV t w q F m xs v) (u : Up w w2) (J : Ints w2 v' ys) (hv : Fresh w v') : Gave t w (w2.setCell ⟨q, 1, none⟩ v') q F m ys := by
  have hqlt := E.lt q E.mem
  have hq : v'.ownBlock ≠ some q := fun e => by have := hv q e; omega
  refine ⟨_, ⟨v', E.put (E.top.up u) J hq⟩, fun b hb => ?_, ((Else.of_up u).set (.inl E.mem) _)⟩
  rcases List.mem_cons.1 hb with rfl | hb
  · exact .inl E.mem
  · simp at hb; exact .inr (hv b hb)
/-- The slice is handed out. -/
theorem StaV.handed (E : StaV t w q F m xs v) : Took t w (w.setCell ⟨q, 1, none⟩ (.slice none 0 0)) q F m [] v xs ∧ Ints (w.setCell ⟨q, 1, none⟩ (.slice none 0 0)) v xs := by
  have u : Else [q] w (w.setCell ⟨q, 1, none⟩ (.slice none 0 0)) := (Else.refl _ _).set (.inl (by simp)) _
  have hn : (Value.slice none 0 0).ownBlock ≠ some q := by simp [Value.ownBlock]
  refine ⟨⟨_, ⟨_, E.put (v' := .slice none 0 0) E.top (Ints.nil _) hn⟩, E.ints.rd.else u (fun b hb e => by simp at hb; subst hb; exact E.nq e), fun b hb e => ?_, fun b hb => ?_, fun b hb => .inl (E.inF b hb), u.more (fun b hb => by simp at hb; subst hb; exact E.mem)⟩, E.ints.else u (fun b hb e => by simp at hb; subst hb; exact E.nq e)⟩
  · simp [Value.ownBlock] at hb; subst hb; exact E.nq e
  · simp [Value.ownBlock] at hb; subst hb; exact .inl E.mem
def cutM (a : Int) : Int := if a < 0 then 0 else if 64 < a then 64 else a
theorem cutM_bounds (a : Int) : 0 ≤ cutM a ∧ cutM a ≤ 64 := by unfold cutM; split; omega; split <;> omega
theorem sta_new (w : World) (t : TypeId) (m : Int) : Sta t (w.alloc (.cells #[.int .i64 m, .slice none 0 0] t)) w.heap.size [w.heap.size] m [] :=
  ⟨_, Whole.new _ _ _, Ints.nil _, by simp, fun b hb => by simp [Value.ownBlock] at hb, by simp [Value.ownBlock], fun b hb => by simp at hb; subst hb; simp⟩
set_option maxHeartbeats 1000000 in
theorem snew_any (w : World) (a : Int) : Calls Try.prog 8 #[.int .i64 a] w fun e w' => ∃ q, e = .returned (.pointer (some ⟨q, 0, none⟩)) ∧ Sta 47 w' q [q] (cutM a) [] ∧ w.heap.size ≤ q ∧ Up w w' := by
  unfold cutM
  by_cases h0 : a < 0
  · rw [if_pos h0]
    have h1 : ¬ (0 : Int) ≤ a := by omega
    go_enter Try.func8, Try.ntmps8
    go_wp2
    go_ret
    exact ⟨_, rfl, sta_new _ _ _, Nat.le_refl _, Up.alloc _ _⟩
  · rw [if_neg h0]
    by_cases h1 : 64 < a
    · rw [if_pos h1]
      go_enter Try.func8, Try.ntmps8
      go_wp2
      go_ret
      exact ⟨_, rfl, sta_new _ _ _, Nat.le_refl _, Up.alloc _ _⟩
    · rw [if_neg h1]
      go_enter Try.func8, Try.ntmps8
      go_wp2
      go_ret
      exact ⟨_, rfl, sta_new _ _ _, Nat.le_refl _, Up.alloc _ _⟩
set_option maxHeartbeats 1000000 in
theorem sgive_any (E : Sta 47 w q F m xs) (R : Rd w v ys) (hl : xs.length + ys.length ≤ 8192) :
    Calls Try.prog 11 #[.pointer (some ⟨q, 0, none⟩), v] w fun e w' => e = .returned (.tuple #[]) ∧ Gave 47 w w' q F m (xs ++ ys) := by
  obtain ⟨u, E⟩ := E
  obtain ⟨A, N, c, rfl⟩ := shapeI E.ints
  obtain ⟨c0, c1⟩ := E.cells
  obtain ⟨A2, cap2, rfl⟩ := R.slice
  have HE := Lib.hid E
  have HR := Lib.hid R
  clear E R
  go_enter Try.func11, Try.ntmps11
  go_wp2_with (at_builtin; refine wpList_app (v := .slice A N c) rfl _ _ rfl rfl rfl HE.out.ints HR.out hl ?_; intro v5 w5 J5 G5 A5; obtain ⟨B5, M5, k5, rfl⟩ := shapeI J5; have T5 := HE.out.top.grown G5 (fun e => HE.out.nq e.symm); have c5 : w5.cell? ⟨q, 1, none⟩ = some (.slice A N c) := T5.cell rfl; have f5 := T5.frozen 1; have HJ5 := Lib.hid J5; have HG5 := Lib.hid G5; have HA5 := Lib.hid A5; clear J5 G5 A5 T5)
  go_end0
  exact ⟨rfl, HE.out.gave HG5.out HJ5.out HA5.out⟩
set_option maxHeartbeats 1000000 in
theorem sall_in (E : Sta 47 w q F m xs) : Calls Try.prog 18 #[.pointer (some ⟨q, 0, none⟩)] w fun e w' => ∃ o, e = .returned o ∧ Took 47 w w' q F m [] o xs ∧ Ints w' o xs := by
  obtain ⟨u, E⟩ := E
  obtain ⟨c0, c1⟩ := E.cells
  have f1 := E.top.frozen 1
  have HE := Lib.hid E
  clear E
  go_enter Try.func18, Try.ntmps18
  go_wp2_with fail
  go_ret
  exact ⟨_, rfl, HE.out.handed⟩
set_option maxHeartbeats 1000000 in
theorem slen_any (E : Sta 47 w q F m xs) : Calls Try.prog 21 #[.pointer (some ⟨q, 0, none⟩)] w fun e w' => e = .returned (.int .i64 (xs.length : Nat)) ∧ w = w' := by
  obtain ⟨u, E⟩ := E
  obtain ⟨A, c, rfl⟩ := E.ints.slice
  obtain ⟨c0, c1⟩ := E.cells
  clear E
  go_enter Try.func21, Try.ntmps21
  go_wp2_with fail
  go_ret
  exact ⟨rfl, rfl⟩
set_option maxHeartbeats 1000000 in
theorem slist_any (E : Sta 47 w q F m xs) (hl : xs.length ≤ 8192) : Calls Try.prog 20 #[.pointer (some ⟨q, 0, none⟩)] w fun e w' => ∃ o, e = .returned o ∧ Ints w' o xs ∧ Fresh w o ∧ Up w w' := by
  obtain ⟨u, E⟩ := E
  obtain ⟨c0, c1⟩ := E.cells
  have HR := Lib.hid E.ints.rd
  clear E
  go_enter Try.func20, Try.ntmps20
  go_wp2_with (go_at_call 22; refine (clone_any HR.out hl).mono ?_; rintro e w1 ⟨v1, rfl, J1, F1, U1⟩; have HJ1 := Lib.hid J1; have HF1 := Lib.hid F1; have HU1 := Lib.hid U1; clear J1 F1 U1)
  go_ret
  exact ⟨_, rfl, HJ1.out, HF1.out, HU1.out⟩
end
end Go.Proofs.Ythmaibbminnplaa
