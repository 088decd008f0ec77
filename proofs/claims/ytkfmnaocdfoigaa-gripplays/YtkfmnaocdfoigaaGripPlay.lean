/-
  The program's grip and the reference's beside each other (GTwo), both saying the same; the contracts at the class of worlds in which nothing has turned.
-/
import Derived.Test.YtkfmnaocdfoigaaRefGrip
import Derived.Test.YtkfmnaocdfoigaaArrsIn
namespace Go.Proofs.Ytkfmnaocdfoigaa
open Go.RowKit
set_option maxRecDepth 100000
structure GTwo (W w : World) (q p : Nat) (d : Nat) (L : List (Int × Int)) (d' : Nat) (L' : List (Int × Int)) (F G : List Nat) : Prop where
  a : Gri 44 46 w q F d L
  b : Gri 29 48 w p G d' L'
  dis : ∀ b, b ∈ F → b ∉ G
  nF : ∀ b, b ∈ F → W.heap.size ≤ b
  nG : ∀ b, b ∈ G → W.heap.size ≤ b
  up : Up W w
section
variable {t e : TypeId} {W w w1 w2 w' : World} {q p n : Nat} {F G F1 l : List Nat} {d d' d8 : Nat} {L L' L8 M : List (Int × Int)} {k : Int × Int} {v v' o : Value} {b : Bool} {c k0 k1 : Int}
theorem GTwo.then (D : GTwo W w q p d L d' L' F G) (u : Up w w') : GTwo W w' q p d L d' L' F G := ⟨D.a.up u, D.b.up u, D.dis, D.nF, D.nG, D.up.trans u⟩
theorem GTwo.turnA (D : GTwo W w q p d L d' L' F G) (T : Turn 44 46 w w' q F d8 L8) : ∃ F', GTwo W w' q p d8 L8 d' L' F' G ∧ Else F w w' := by
  obtain ⟨F', S, N, E⟩ := T
  have hs := D.up.size
  refine ⟨F', ⟨S, D.b.else E (fun b hb h => D.dis b h hb), fun b hb h => ?_, fun b hb => ?_, D.nG, Else.up_new D.up E D.nF⟩, E⟩
  · rcases N b hb with h' | h'
    · exact D.dis b h' h
    · have := D.b.lt b h; omega
  · rcases N b hb with h' | h'
    · exact D.nF b h'
    · omega
theorem GTwo.turnB (D : GTwo W w q p d L d' L' F G) (T : Turn 29 48 w w' p G d8 L8) : ∃ G', GTwo W w' q p d L d8 L8 F G' ∧ Else G w w' := by
  obtain ⟨G', S, N, E⟩ := T
  have hs := D.up.size
  refine ⟨G', ⟨D.a.else E (fun b hb h => D.dis b hb h), S, fun b hb h => ?_, D.nF, fun b hb => ?_, Else.up_new D.up E D.nG⟩, E⟩
  · rcases N b h with h' | h'
    · exact D.dis b hb h'
    · have := D.a.lt b hb; omega
  · rcases N b hb with h' | h'
    · exact D.nG b h'
    · omega
theorem gtwo_new (M : GMine 44 46 W w q d L F) (S : Gri 29 48 w' p G d' L') (u : Up w w') (hG : ∀ b, b ∈ G → w.heap.size ≤ b) : GTwo W w' q p d L d' L' F G :=
  ⟨M.gri.up u, S, fun b hb h => by have := M.gri.lt b hb; have := hG b h; omega, M.new, fun b hb => Nat.le_trans M.up.size (hG b hb), M.up.trans u⟩
/-- The cells of a grip. -/
theorem Gri.look (E : Gri t e w q F d L) (hn : L.length = n) : ∃ A c, w.cell? ⟨q, 0, none⟩ = some (.int .i64 (d : Int)) ∧ w.cell? ⟨q, 1, none⟩ = some (.slice A n c) := by
  obtain ⟨v, E⟩ := E
  obtain ⟨A, c, rfl⟩ := E.prs.slice
  obtain ⟨c0, c1⟩ := E.cells
  exact ⟨A, c, c0, hn ▸ c1⟩
theorem gdepth_cl (E : Gri 44 46 W q F d L) (x : UpOf W) : Calls Try.prog 16 #[.pointer (some ⟨q, 0, none⟩)] x.w fun e w' => e = .returned (.int .i64 (d : Int)) ∧ ∃ y : UpOf W, w' = y.w := same_class (gdepth_any (E.up x.up))
theorem glen_cl (E : Gri 44 46 W q F d L) (hn : L.length = n) (x : UpOf W) : Calls Try.prog 17 #[.pointer (some ⟨q, 0, none⟩)] x.w fun e w' => e = .returned (.int .i64 (n : Nat)) ∧ ∃ y : UpOf W, w' = y.w := same_class (hn ▸ glen_any (E.up x.up))
theorem gholds_cl (E : Gri 44 46 W q F d L) (hb : decide ((k0, k1) ∈ L) = b) (x : UpOf W) : Calls Try.prog 18 #[.pointer (some ⟨q, 0, none⟩), .int .i64 k0, .int .i64 k1] x.w fun e w' => e = .returned (.bool b) ∧ ∃ y : UpOf W, w' = y.w := up_class (hb ▸ gholds_any (E.up x.up) k0 k1)
theorem rgholds_cl (E : Gri 29 48 W q F d L) (hb : decide ((k0, k1) ∈ L) = b) (x : UpOf W) : Calls Try.prog 19 #[.pointer (some ⟨q, 0, none⟩), .int .i64 k0, .int .i64 k1] x.w fun e w' => e = .returned (.bool b) ∧ ∃ y : UpOf W, w' = y.w := same_class (hb ▸ rgholds_any (E.up x.up) k0 k1)
/-- Each call, with what it answers and leaves told by equations. -/
theorem gpin_q (E : Gri 44 46 w q F d L) (hb : pinB d = b) (hc : pinE d = c) (hd : pinD d = d8) : Calls Try.prog 10 #[.pointer (some ⟨q, 0, none⟩)] w fun e w' => e = .returned (.tuple #[.bool b, .int .i64 c]) ∧ Turn 44 46 w w' q F d8 L := by
  subst hb hc hd; exact gpin_any E
theorem rgpin_q (E : Gri 29 48 w q F d L) (hb : pinB d = b) (hc : pinE d = c) (hd : pinD d = d8) : Calls Try.prog 11 #[.pointer (some ⟨q, 0, none⟩)] w fun e w' => e = .returned (.tuple #[.bool b, .int .i64 c]) ∧ Turn 29 48 w w' q F d8 L := by
  subst hb hc hd; exact rgpin_any E
theorem gunpin_q (E : Gri 44 46 w q F d L) (hb : unB d = b) (hc : unE d = c) (hd : d - 1 = d8) (hL : unL d L = L8) : Calls Try.prog 12 #[.pointer (some ⟨q, 0, none⟩)] w fun e w' => e = .returned (.tuple #[.bool b, .int .i64 c]) ∧ Turn 44 46 w w' q F d8 L8 := by
  subst hb hc hd hL; exact gunpin_any E
theorem rgunpin_q (E : Gri 29 48 w q F d L) (hb : unB d = b) (hc : unE d = c) (hd : d - 1 = d8) (hL : unL d L = L8) : Calls Try.prog 13 #[.pointer (some ⟨q, 0, none⟩)] w fun e w' => e = .returned (.tuple #[.bool b, .int .i64 c]) ∧ Turn 29 48 w w' q F d8 L8 := by
  subst hb hc hd hL; exact rgunpin_any E
theorem ghold_q (E : Gri 44 46 w q F d L) (hc : holdE d L (k0, k1) = c) (hL : holdL d L (k0, k1) = L8) : Calls Try.prog 14 #[.pointer (some ⟨q, 0, none⟩), .int .i64 k0, .int .i64 k1] w fun e w' => e = .returned (.int .i64 c) ∧ Turn 44 46 w w' q F d L8 := by
  subst hc hL; exact ghold_any E k0 k1
theorem rghold_q (E : Gri 29 48 w q F d L) (hc : holdE d L (k0, k1) = c) (hL : holdL d L (k0, k1) = L8) : Calls Try.prog 15 #[.pointer (some ⟨q, 0, none⟩), .int .i64 k0, .int .i64 k1] w fun e w' => e = .returned (.int .i64 c) ∧ Turn 29 48 w w' q F d L8 := by
  subst hc hL; exact rghold_any E k0 k1
def GPlayRel (W : World) (q p len : Nat) (i : Value) (w : World) : Prop := ∃ (j d : Nat) (L : List (Int × Int)) (F G : List Nat), i = .int .i64 j ∧ j ≤ len ∧ GTwo W w q p d L d L F G
end
end Go.Proofs.Ytkfmnaocdfoigaa
