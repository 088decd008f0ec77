/-
  LimboPlays: the program's limbo and the reference's beside each other (Two); the reference's contracts as the statement uses them.
-/
import Derived.Test.YthajdabdiaogiaaLimboLaws
import Derived.Test.YthajdabdiaogiaaRefLimbo3
import Derived.Test.YthajdabdiaogiaaRecsIn
namespace Go.Proofs.Ythajdabdiaogiaa
open Go.RowKit
set_option maxRecDepth 100000
section
variable {W w w1 w' : World} {q p n k : Nat} {F G : List Nat} {S R S' R' : Lb} {v o : Value} {now tag : Int} {xs items : List Int}
/-- The two limbos, each with blocks of its own, all newer than W, of which nothing has turned. -/
structure Two (W w : World) (q p : Nat) (F G : List Nat) (S R : Lb) : Prop where
  lim : Lim w q F S
  rim : RLim w p G R
  dis : ∀ b, b ∈ F → b ∉ G
  nF : ∀ b, b ∈ F → W.heap.size ≤ b
  nG : ∀ b, b ∈ G → W.heap.size ≤ b
  up : Up W w
theorem Two.then (D : Two W w q p F G S R) (u : Up w w') : Two W w' q p F G S R := ⟨D.lim.up u, D.rim.up u, D.dis, D.nF, D.nG, D.up.trans u⟩
theorem Two.took (D : Two W w q p F G S R) (T : Took w w' q F S' xs o) : ∃ F', Two W w' q p F' G S' R ∧ Ints w' o xs ∧ Away o G ∧ Next w F F' ∧ Else F w w' := by
  obtain ⟨F', L, J, A, N, O, E⟩ := T
  have hs := D.up.size
  refine ⟨F', ⟨L, D.rim.else E (fun b hb h => D.dis b h hb), fun b hb h => ?_, fun b hb => ?_, D.nG, Else.up_new D.up E D.nF⟩, J, fun b hb e => ?_, N, E⟩
  · rcases N b hb with h' | h'
    · exact D.dis b h' h
    · have := D.rim.lt b h; omega
  · rcases N b hb with h' | h'
    · exact D.nF b h'
    · omega
  · rcases O b e with h' | h'
    · exact D.dis b h' hb
    · have := D.rim.lt b hb; omega
theorem Two.rtook (D : Two W w q p F G S R) (T : RTook w w' p G R' xs o) : ∃ G', Two W w' q p F G' S R' ∧ Ints w' o xs ∧ Away o F ∧ Next w G G' ∧ Else G w w' := by
  obtain ⟨G', L, J, A, N, O, E⟩ := T
  have hs := D.up.size
  refine ⟨G', ⟨D.lim.else E (fun b hb h => D.dis b hb h), L, fun b hb h => ?_, D.nF, fun b hb => ?_, Else.up_new D.up E D.nG⟩, J, fun b hb e => ?_, N, E⟩
  · rcases N b h with h' | h'
    · exact D.dis b hb h'
    · have := D.lim.lt b hb; omega
  · rcases N b hb with h' | h'
    · exact D.nG b h'
    · omega
  · rcases O b e with h' | h'
    · exact D.dis b hb h'
    · have := D.lim.lt b hb; omega
theorem RTook.shape (T : RTook w w' p G R' xs o) (h : xs.length = n) : ∃ A c, o = .slice A n c := by
  obtain ⟨F', L, J, _⟩ := T
  obtain ⟨A, c, e⟩ := J.slice
  exact ⟨A, c, h ▸ e⟩
theorem rlretire_to (E : RLim w p G R) (Rd2 : Rd w v items) (Aw : Away v G) (h0 : items ≠ []) (h1 : 0 ≤ tag ∧ R.last ≤ tag) (h2 : tag ≤ 4611686018427387903) (hk : tag % 3 = k) (hl : R.size + items.length ≤ 8192) (hS : R.rretire k tag items = R') (hx : R.rtaken k tag = xs) (hn : xs.length = n) :
    Calls Try.prog 14 #[.pointer (some ⟨p, 0, none⟩), .int .i64 tag, v] w fun e w' => ∃ A c, e = .returned (.tuple #[.slice A n c, .bool true]) ∧ RTook w w' p G R' xs (.slice A n c) := by
  subst hS hx
  refine (rlretire_yes E Rd2 Aw h0 h1 h2 hk hl).mono ?_
  rintro e w' ⟨o, rfl, T⟩
  obtain ⟨A, c, rfl⟩ := T.shape hn
  exact ⟨A, c, rfl, T⟩
theorem rlready_to (E : RLim w p G R) (hn2 : now < 9223372036854775808) (hs : R.size ≤ 8192) (hS : R.rremain now = R') (hx : R.router now = xs) (hn : xs.length = n) :
    Calls Try.prog 17 #[.pointer (some ⟨p, 0, none⟩), .int .i64 now] w fun e w' => ∃ A c, e = .returned (.slice A n c) ∧ RTook w w' p G R' xs (.slice A n c) := by
  subst hS hx
  refine (rlready_any E hn2 hs).mono ?_
  rintro e w' ⟨o, rfl, T⟩
  obtain ⟨A, c, rfl⟩ := T.shape hn
  exact ⟨A, c, rfl, T⟩
theorem rbucket_to (E : RLim w p G R) {i : Int} (hi : i = (k : Int)) (hk : k < 3) (hT : (if R.L k = [] then 0 else R.T k) = tag) (hL : R.L k = xs) (hl : xs.length ≤ 8192) (hn : xs.length = n) :
    Calls Try.prog 19 #[.pointer (some ⟨p, 0, none⟩), .int .i64 i] w fun e w' => ∃ A c, e = .returned (.tuple #[.int .i64 tag, .slice A n c]) ∧ Ints w' (.slice A n c) xs ∧ Fresh w (.slice A n c) ∧ Up w w' := by
  subst hi hT hL
  refine (rbucket_in E hk hl).mono ?_
  rintro e w' ⟨v, rfl, J, Fr, U⟩
  obtain ⟨A, c, e⟩ := J.slice
  rw [hn] at e
  subst e
  exact ⟨A, c, rfl, J, Fr, U⟩
theorem rllen_to (E : RLim w p G R) (hs : R.size = n) (hn : n ≤ 8192) : Calls Try.prog 21 #[.pointer (some ⟨p, 0, none⟩)] w fun e w' => e = .returned (.int .i64 (n : Nat)) ∧ Up w w' := by
  subst hs
  exact rllen_any E (by omega)
/-- What each bucket tells is the same. -/
theorem Sim.bucket (h : Sim S R) (hk : k < 3) : (if R.L k = [] then 0 else R.T k) = S.T k ∧ R.L k = S.L k := by
  refine ⟨?_, (h.L k).symm⟩
  by_cases hl : S.L k = []
  · rw [if_pos (by rw [← h.L]; exact hl), h.ok.nil k hk hl]
  · rw [if_neg (by rw [← h.L]; exact hl), h.T k hk hl]
def PlayRel (W : World) (q p len : Nat) (i : Value) (w : World) : Prop := ∃ (k : Nat) (F G : List Nat) (S R : Lb), i = .int .i64 k ∧ k ≤ len ∧ Two W w q p F G S R ∧ Sim S R ∧ S.size ≤ 40 * k
def BkRel (w : World) (i : Value) (wr : World) : Prop := ∃ j : Nat, j ≤ 5 ∧ i = .int .i64 ((j : Int) - 1) ∧ Up w wr
theorem IsRecs.do {a : Option Addr} {len cap i : Nat} {z : Nat → Nat → Value} (h : IsRecs [.i .i64, .i .i64, .s] w a len cap z) (hi : i < len) :
    ∃ b off kd tg it xs, a = some ⟨b, off, none⟩ ∧ b < w.heap.size ∧ w.cell? ⟨b, off + i * 3, none⟩ = some (.int .i64 kd) ∧ w.cell? ⟨b, off + i * 3 + 1, none⟩ = some (.int .i64 tg) ∧ w.cell? ⟨b, off + i * 3 + 2, none⟩ = some it ∧
      (Lit.int .i64 kd).wf = true ∧ (Lit.int .i64 tg).wf = true ∧ Rd w it xs := by
  obtain ⟨b, off, ha, hb, hc⟩ := h.at (by simp) (by omega)
  obtain ⟨c0, n0, e0, w0⟩ := hc i hi 0 _ rfl
  obtain ⟨c1, n1, e1, w1⟩ := hc i hi 1 _ rfl
  obtain ⟨c2, xs, e2⟩ := hc i hi 2 _ rfl
  rw [e0] at c0
  rw [e1] at c1
  exact ⟨b, off, n0, n1, _, xs, ha, hb, c0, c1, c2, w0, w1, e2⟩
theorem rd_away (R2 : Rd w v items) (h0 : items ≠ []) (h : ∀ b, b ∈ F → w.heap.size ≤ b) : Away v F := by
  obtain ⟨A, cap, rfl, _, hc⟩ := R2
  obtain ⟨g, off, rfl, hcell⟩ := hc 0 (List.length_pos_iff.2 h0)
  intro b hb e
  simp [Value.ownBlock] at e
  subst e
  have := World.block_lt_of_cell? w _ hcell
  have := h _ hb
  simp at *
  omega
end
end Go.Proofs.Ythajdabdiaogiaa
