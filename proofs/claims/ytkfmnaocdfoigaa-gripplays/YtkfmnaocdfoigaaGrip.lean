/-
  Package grip: the grip in memory (Gri: of the program's types or of the reference's), what a call leaves (Turn), what Pin, Unpin, Hold answer as plain functions.
-/
import Derived.Test.YtkfmnaocdfoigaaKeys
namespace Go.Proofs.Ytkfmnaocdfoigaa
open Go.RowKit
set_option maxRecDepth 100000

/-- A grip of type t, whose list has elements of type e, with d pins and the pairs L lies at q; its slice is v; all its blocks are among F. -/
structure GriV (t e : TypeId) (w : World) (q : Nat) (F : List Nat) (d : Nat) (L : List (Int × Int)) (v : Value) : Prop where
  top : Whole w q t #[.int .i64 (d : Int), v]
  prs : Prs e w v L
  mem : q ∈ F
  inF : ∀ b, v.ownBlock = some b → b ∈ F
  nq : v.ownBlock ≠ some q
  lt : ∀ b, b ∈ F → b < w.heap.size
  dle : d ≤ 15
  lle : L.length ≤ 8
def Gri (t e : TypeId) (w : World) (q : Nat) (F : List Nat) (d : Nat) (L : List (Int × Int)) : Prop := ∃ v, GriV t e w q F d L v
/-- The grip is turned, and all else that it may own is as it was. -/
def Turn (t e : TypeId) (w w' : World) (q : Nat) (F : List Nat) (d : Nat) (L : List (Int × Int)) : Prop := ∃ F', Gri t e w' q F' d L ∧ Next w F F' ∧ Else F w w'
section
variable {t e : TypeId} {w w1 w2 w' : World} {q n : Nat} {F F1 l : List Nat} {d d' : Nat} {L M : List (Int × Int)} {v v' o : Value}
theorem GriV.up (E : GriV t e w q F d L v) (u : Up w w') : GriV t e w' q F d L v := ⟨E.top.up u, E.prs.up u, E.mem, E.inF, E.nq, fun b hb => Nat.lt_of_lt_of_le (E.lt b hb) u.size, E.dle, E.lle⟩
theorem GriV.else (E : GriV t e w q F d L v) (u : Else l w w') (h : ∀ b, b ∈ F → b ∉ l) : GriV t e w' q F d L v :=
  ⟨u.whole E.top (h _ E.mem), E.prs.else u (fun b hb e => h b (E.inF b e) hb), E.mem, E.inF, E.nq, fun b hb => Nat.lt_of_lt_of_le (E.lt b hb) u.size, E.dle, E.lle⟩
theorem Gri.up (E : Gri t e w q F d L) (u : Up w w') : Gri t e w' q F d L := E.imp fun _ E => E.up u
theorem Gri.else (E : Gri t e w q F d L) (u : Else l w w') (h : ∀ b, b ∈ F → b ∉ l) : Gri t e w' q F d L := E.imp fun _ E => E.else u h
theorem Gri.lt (E : Gri t e w q F d L) : ∀ b, b ∈ F → b < w.heap.size := E.elim fun _ E => E.lt
theorem Gri.mem (E : Gri t e w q F d L) : q ∈ F := E.elim fun _ E => E.mem
theorem Gri.dle (E : Gri t e w q F d L) : d ≤ 15 := E.elim fun _ E => E.dle
theorem Gri.lle (E : Gri t e w q F d L) : L.length ≤ 8 := E.elim fun _ E => E.lle
theorem GriV.cells (E : GriV t e w q F d L v) : w.cell? ⟨q, 0, none⟩ = some (.int .i64 (d : Int)) ∧ w.cell? ⟨q, 1, none⟩ = some v := ⟨E.top.cell rfl, E.top.cell rfl⟩
/-- Another depth. -/
theorem GriV.putD (E : GriV t e w q F d L v) (h : d' ≤ 15) : GriV t e (w.setCell ⟨q, 0, none⟩ (.int .i64 (d' : Int))) q F d' L v := by
  have u : Else [q] w (w.setCell ⟨q, 0, none⟩ (.int .i64 (d' : Int))) := (Else.refl _ _).set (.inl (by simp)) _
  exact ⟨E.top.set 0 _, E.prs.else u (fun b hb e => by simp at hb; subst hb; exact E.nq e), E.mem, E.inF, E.nq, fun b hb => Nat.lt_of_lt_of_le (E.lt b hb) u.size, h, E.lle⟩
/-- A new slice in the place of the old one. -/
theorem GriV.put (E : GriV t e w q F d L v) (top : Whole w2 q t #[.int .i64 (d : Int), v]) (J : Prs e w2 v' M) (hq : v'.ownBlock ≠ some q) (hM : M.length ≤ 8) :
    GriV t e (w2.setCell ⟨q, 1, none⟩ v') q (q :: v'.ownBlock.toList) d M v' := by
  have u : Else [q] w2 (w2.setCell ⟨q, 1, none⟩ v') := (Else.refl _ _).set (.inl (by simp)) _
  refine ⟨top.set 1 v', J.else u (fun b hb e => by simp at hb; subst hb; exact hq e), by simp, fun b hb => by simp [hb], hq, fun b hb => ?_, E.dle, hM⟩
  rcases List.mem_cons.1 hb with rfl | hb
  · exact Nat.lt_of_lt_of_le top.lt u.size
  · simp at hb; exact Nat.lt_of_lt_of_le (J.lt hb) u.size
theorem GriV.same (E : GriV t e w q F d L v) : Turn t e w w q F d L := ⟨F, ⟨v, E⟩, Next.refl _ _, Else.refl _ _⟩
theorem GriV.turnD (E : GriV t e w q F d L v) (h : d' ≤ 15) : Turn t e w (w.setCell ⟨q, 0, none⟩ (.int .i64 (d' : Int))) q F d' L :=
  ⟨F, ⟨v, E.putD h⟩, Next.refl _ _, (Else.refl _ _).set (.inl E.mem) _⟩
/-- The list is let go. -/
theorem GriV.drop (E : GriV t e w q F d L v) : Turn t e w (w.setCell ⟨q, 1, none⟩ (.slice none 0 0)) q F d [] := by
  have hn : (Value.slice none 0 0).ownBlock ≠ some q := by simp [Value.ownBlock]
  refine ⟨_, ⟨_, E.put (v' := .slice none 0 0) E.top (Prs.nil _ _) hn (by simp)⟩, fun b hb => ?_, (Else.refl _ _).set (.inl E.mem) _⟩
  simp [Value.ownBlock] at hb; subst hb; exact .inl E.mem
theorem Turn.after (E1 : Else F w w1) (X1 : Next w F F1) (G : Turn t e w1 w2 q F1 d L) : Turn t e w w2 q F d L := by
  obtain ⟨F2, S2, X2, E2⟩ := G
  have h := E1.size
  refine ⟨F2, S2, X1.trans X2 h, ⟨E2.os.trans E1.os, E2.tape.trans E1.tape, E2.output.trans E1.output, Nat.le_trans h E2.size, fun k hk hs => ?_⟩⟩
  refine (E2.block k (Nat.lt_of_lt_of_le hk h) (fun h1 => ?_)).trans (E1.block k hk hs)
  rcases X1 k h1 with h' | h'
  · exact hs h'
  · omega
theorem Turn.up (T : Turn t e w1 w' q F d L) (u : Up w w1) : Turn t e w w' q F d L := Turn.after (Else.of_up u) (Next.refl _ _) T
/-- Behind an append to its own slice, out of a world that has only grown. -/
theorem GriV.gave (E : GriV t e w q F d L v) (u : Up w w1) (g : w1.grownBy w2 v.ownBlock) (J : Prs e w2 v' M) (hM : M.length ≤ 8) (hv : v'.ownBlock = v.ownBlock ∨ v'.ownBlock = some w1.heap.size) :
    Turn t e w (w2.setCell ⟨q, 1, none⟩ v') q F d M := by
  have hqlt := E.lt q E.mem
  have hs := u.size
  have E1 := E.up u
  have hq : v'.ownBlock ≠ some q := by
    rcases hv with h | h
    · rw [h]; exact E.nq
    · rw [h]; intro e; injection e with e; omega
  refine ⟨_, ⟨v', E1.put (E1.top.grown g (fun e => E.nq e.symm)) J hq hM⟩, fun b hb => ?_, (((Else.of_up u).grownK g (fun b hb => .inl (E.inF b hb))).set (.inl E.mem) _)⟩
  rcases List.mem_cons.1 hb with rfl | hb
  · exact .inl E.mem
  · simp at hb
    rcases hv with h | h
    · exact .inl (E.inF b (h ▸ hb))
    · rw [hb] at h; injection h with h; exact .inr (by omega)
/-- Behind a new slice that is stored. -/
theorem GriV.renew (E : GriV t e w q F d L v) (u : Up w w2) (J : Prs e w2 v' M) (hM : M.length ≤ 8) (hv : Fresh w v') : Turn t e w (w2.setCell ⟨q, 1, none⟩ v') q F d M := by
  have hqlt := E.lt q E.mem
  have hq : v'.ownBlock ≠ some q := fun e => by have := hv q e; omega
  refine ⟨_, ⟨v', E.put (E.top.up u) J hq hM⟩, fun b hb => ?_, ((Else.of_up u).set (.inl E.mem) _)⟩
  rcases List.mem_cons.1 hb with rfl | hb
  · exact .inl E.mem
  · simp at hb; exact .inr (hv b hb)
theorem gri_new (t e : TypeId) (w : World) : Gri t e (w.alloc (.cells #[.int .i64 0, .slice none 0 0] t)) w.heap.size [w.heap.size] 0 [] :=
  ⟨_, Whole.new _ _ _, Prs.nil _ _, by simp, fun b hb => by simp [Value.ownBlock] at hb, by simp [Value.ownBlock], fun b hb => by simp at hb; subst hb; simp, by omega, by simp⟩
end
/-- What Pin, Unpin, Hold answer and leave. -/
def pinB (d : Nat) : Bool := d == 0
def pinE (d : Nat) : Int := if d = 15 then 8 else 0
def pinD (d : Nat) : Nat := if d = 15 then 15 else d + 1
def unB (d : Nat) : Bool := d == 1
def unE (d : Nat) : Int := if d = 0 then 4 else 0
def unL (d : Nat) (L : List (Int × Int)) : List (Int × Int) := if d = 1 then [] else L
def holdE (d : Nat) (L : List (Int × Int)) (k : Int × Int) : Int := if d = 0 then 4 else if k ∈ L then 0 else if L.length = 8 then 8 else 0
def holdL (d : Nat) (L : List (Int × Int)) (k : Int × Int) : List (Int × Int) := if d = 0 then L else if k ∈ L then L else if L.length = 8 then L else L ++ [k]
end Go.Proofs.Ytkfmnaocdfoigaa
