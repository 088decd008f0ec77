/-
  StashPlays: Over told in one way, of both stashes; the reference's contracts as the statement uses them.
-/
import Derived.Test.YthmaibbminnplaaRefStash
import Derived.Test.YthmaibbminnplaaRecsIn
namespace Go.Proofs.Ythmaibbminnplaa
open Go.RowKit
set_option maxRecDepth 100000
section
variable {t : TypeId} {W w w1 w2 w' : World} {q p n K : Nat} {F F1 G : List Nat} {m a : Int} {xs ys zs : List Int} {v v' o : Value}
theorem sover_all (E : Sta 47 w q F m xs) (hK : ((xs.length : Int) - m).toNat = K) (hm : 0 ≤ m ∧ m ≤ 64) (hl : xs.length ≤ 8000) (hd : xs.drop K = ys) (ht : xs.take K = zs) :
    Calls Try.prog 16 #[.pointer (some ⟨q, 0, none⟩)] w fun e w' => ∃ A c, e = .returned (.slice A K c) ∧ Took 47 w w' q F m ys (.slice A K c) zs := by
  subst hd ht
  by_cases h : 0 < K
  · refine (sover_many E (K := K) (by omega) h hm.1 (by omega)).mono ?_
    rintro e w' ⟨A, rfl, T⟩
    exact ⟨A, K, rfl, T⟩
  · obtain rfl : K = 0 := by omega
    refine (sover_few E (by omega) hm.2).mono ?_
    rintro e w' ⟨rfl, U⟩
    exact ⟨none, 0, rfl, F, E.up U, Rd.nil _, fun b _ e => by simp [Value.ownBlock] at e, Next.refl _ _, fun b e => by simp [Value.ownBlock] at e, Else.of_up U⟩
theorem rsover_all (E : Sta 39 w q F m xs) (hK : ((xs.length : Int) - m).toNat = K) (hm : 0 ≤ m ∧ m ≤ 64) (hl : xs.length ≤ 8000) (hd : xs.drop K = ys) (ht : xs.take K = zs) :
    Calls Try.prog 17 #[.pointer (some ⟨q, 0, none⟩)] w fun e w' => ∃ A c, e = .returned (.slice A K c) ∧ Took 39 w w' q F m ys (.slice A K c) zs := by
  subst hd ht
  have hlen : (xs.take K).length = K := by rw [List.length_take]; omega
  by_cases h : (xs.length : Int) < m
  · obtain rfl : K = 0 := by omega
    refine (rsover_few E h hm hl).mono ?_
    rintro e w' ⟨o, rfl, T⟩
    obtain ⟨A, c, rfl⟩ := T.shape hlen
    exact ⟨A, c, rfl, T⟩
  · refine (rsover_many E (K := K) (by omega) hm.1 hl).mono ?_
    rintro e w' ⟨o, rfl, T⟩
    obtain ⟨A, c, rfl⟩ := T.shape hlen
    exact ⟨A, c, rfl, T⟩
theorem rsall_to (E : Sta 39 w q F m xs) (hn : xs.length = n) : Calls Try.prog 19 #[.pointer (some ⟨q, 0, none⟩)] w fun e w' => ∃ A c, e = .returned (.slice A n c) ∧ Took 39 w w' q F m [] (.slice A n c) xs := by
  refine (rsall_any E).mono ?_
  rintro e w' ⟨o, rfl, T⟩
  obtain ⟨A, c, rfl⟩ := T.shape hn
  exact ⟨A, c, rfl, T⟩
theorem rstake_to (E : Sta 39 w q F m xs) (h : xs = ys ++ [a]) (hl : ys.length ≤ 8000) : Calls Try.prog 14 #[.pointer (some ⟨q, 0, none⟩)] w fun e w' => e = .returned (.tuple #[.int .i64 a, .bool true]) ∧ Gave 39 w w' q F m ys := by
  subst h; exact rstake_some E hl
theorem rsnew_q (w : World) (a : Int) {m : Int} (h : cutM a = m) : Calls Try.prog 9 #[.int .i64 a] w fun e w' => ∃ q, e = .returned (.pointer (some ⟨q, 0, none⟩)) ∧ Mine 39 w w' q m [] [q] :=
  (rsnew_any w a).mono fun _ _ ⟨q, he, S, hq, U⟩ => ⟨q, he, ⟨h ▸ S, U, fun b hb => by simp at hb; omega⟩⟩
/-- The cell of a stash's slice. -/
theorem Sta.look (E : Sta t w q F m xs) (hn : xs.length = n) : ∃ A c, w.cell? ⟨q, 1, none⟩ = some (.slice A n c) ∧ Rd w (.slice A n c) xs := by
  obtain ⟨v, E⟩ := E
  obtain ⟨A, c, e⟩ := E.ints.slice
  rw [hn] at e
  subst e
  exact ⟨A, c, E.cells.2, E.ints.rd⟩
theorem IsRecs.do2 {a : Option Addr} {len cap i : Nat} {z : Nat → Nat → Value} (h : IsRecs [.i .i64, .s] w a len cap z) (hi : i < len) :
    ∃ b off kd it xs, a = some ⟨b, off, none⟩ ∧ b < w.heap.size ∧ w.cell? ⟨b, off + i * 2, none⟩ = some (.int .i64 kd) ∧ w.cell? ⟨b, off + i * 2 + 1, none⟩ = some it ∧ Rd w it xs := by
  obtain ⟨b, off, ha, hb, hc⟩ := h.at (by simp) (by omega)
  obtain ⟨c0, n0, e0, w0⟩ := hc i hi 0 _ rfl
  obtain ⟨c1, xs, e1⟩ := hc i hi 1 _ rfl
  rw [e0] at c0
  exact ⟨b, off, n0, _, xs, ha, hb, c0, c1, e1⟩
theorem app_new {v5 : Value} {w5 : World} (G5 : w.grownBy w5 (Value.slice none 0 0).ownBlock) (A5 : v5.ownBlock = (Value.slice none 0 0).ownBlock ∨ v5.ownBlock = some w.heap.size) : Up w w5 ∧ Fresh w v5 :=
  ⟨up_app (Up.refl w) G5 (fresh_nil _), fresh_app (fresh_nil w) (Nat.le_refl _) A5⟩
def PlayRel (W : World) (q p : Nat) (m : Int) (len : Nat) (i : Value) (w : World) : Prop :=
  ∃ (k : Nat) (xs : List Int) (F G : List Nat), i = .int .i64 k ∧ k ≤ len ∧ xs.length ≤ 40 * k ∧ Pair 47 39 W w q p m m xs xs F G
end
end Go.Proofs.Ythmaibbminnplaa
