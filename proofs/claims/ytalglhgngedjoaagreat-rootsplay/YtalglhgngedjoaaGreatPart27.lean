/-
  Texts beneath RootsPlay, part 27: RtGens2.
-/
import Derived.Test.YtalglhgngedjoaaGreatPart26
/-
  RootsGens: each call of its, told by what its loops keep (Gens).
-/
namespace Go.Proofs.YtalglhgngedjoaaGreat
open Go.RowKit
open W64
set_option maxRecDepth 100000
section
variable {W w w' : World} {l : Lie} {n bG bL T x j : Nat} {S r : List Nat} {gen : Nat → Int} {live : Nat → Bool} {s : St} {xs : List Int}
theorem Gens.spare (G : Gens W w l n bG bL S gen live T s) :
    Calls Tryz.prog 12 #[.pointer (some ⟨l.q, 0, none⟩)] w fun e w' => ∃ v, e = .returned v ∧ Ints w' v (I S) ∧ Up w w' := by
  have h := rtSpare G.sole.roo
  rw [G.gs.lst] at h
  refine h.mono ?_
  rintro e w' ⟨v, rfl, J, _, U⟩
  exact ⟨v, rfl, J, U⟩
def GensOut (W : World) (l : Lie) (n bG bL : Nat) (S : List Nat) (gen : Nat → Int) (live : Nat → Bool) (T : Nat) (w' : World) : Prop := ∃ s', Gens W w' l n bG bL S gen live T s'
theorem Gens.noSlot (G : Gens W w l n bG bL [] gen live T s) (hT : T + 1 ≤ 100) (a : Int) :
    Calls Tryz.prog 14 #[.pointer (some ⟨l.q, 0, none⟩), .int .i64 a] w fun e w' => e = .returned (.tuple #[.int .i64 0, .int .i64 0, .bool false]) ∧ GensOut W l n bG bL [] gen live (T + 1) w' := by
  refine (creates_ov G.sole.roo a rfl (G.gs.none _) rfl rfl (gg := 0) rfl rfl (y := false) rfl).mono ?_
  rintro e w' ⟨rfl, L⟩
  obtain ⟨s', G', _⟩ := G.left L (G.gs.more hT)
  exact ⟨rfl, s', G'⟩
structure Taken (W w w' : World) (l : Lie) (n bG bL x : Nat) (r : List Nat) (gen : Nat → Int) (live : Nat → Bool) (T : Nat) (cls y : Int) (s' : St) : Prop where
  g : GensT W w' l n bG bL r gen (updA gen x y) live (updA live x true) T s'
  rg : (rtOf (s'.xs.getD (4 + x) 0)).g = y
  rm : (rtOf (s'.xs.getD (4 + x) 0)).m = 1
  rc : (rtOf (s'.xs.getD (4 + x) 0)).c = cls
  ro : (rtOf (s'.xs.getD (4 + x) 0)).o = 0
  el : Else [l.p, l.g] w w'
theorem Taken.ups {cls y : Int} {w0 : World} (H : Taken W w0 w l n bG bL x r gen live T cls y s) (u : Up w w') : Taken W w0 w' l n bG bL x r gen live T cls y s := ⟨H.g.ups u, H.rg, H.rm, H.rc, H.ro, H.el.up u⟩
theorem Gens.take (G : Gens W w l n bG bL (x :: r) gen live T s) (hT : T + 1 ≤ 100) {a cls y : Int} (hc : cutC a = cls) (hy : gen x + 1 = y) :
    Calls Tryz.prog 14 #[.pointer (some ⟨l.q, 0, none⟩), .int .i64 a] w fun e w' => e = .returned (.tuple #[.int .i64 (x : Int), .int .i64 y, .bool true]) ∧ ∃ s', Taken W w w' l n bG bL x r gen live (T + 1) cls y s' := by
  subst hc hy
  have hi := cutC_in a
  obtain ⟨t1, t2, _, _, t5, t6, t7, t8, t9⟩ := G.gs.take hT hi.1 hi.2
  refine (creates_ov G.sole.roo a rfl t1 rfl rfl t2 rfl (y := true) rfl).mono ?_
  rintro e w' ⟨rfl, L⟩
  obtain ⟨s', G', hx⟩ := G.leftT L t9
  obtain ⟨_, _, O⟩ := L.out
  exact ⟨rfl, s', ⟨G', by rw [hx]; exact t5, by rw [hx]; exact t6, by rw [hx]; exact t7, by rw [hx]; exact t8, O.el⟩⟩
theorem Taken.root {cls y : Int} {w0 : World} (H : Taken W w0 w l n bG bL x r gen live T cls y s) (hx : x < n) :
    Calls Tryz.prog 15 #[.pointer (some ⟨l.q, 0, none⟩), .int .i64 (x : Int)] w fun e w' => e = .returned (.agg #[.int .i64 y, .int .i64 1, .int .i64 cls, .int .i64 0]) ∧ Up w w' :=
  rtRoot H.g.sole.roo hx rfl H.rg H.rm H.rc H.ro
def GensTOut (W : World) (l : Lie) (n bG bL : Nat) (S : List Nat) (gen : Nat → Int) (live live' : Nat → Bool) (T : Nat) (w' : World) : Prop := ∃ s', GensT W w' l n bG bL S gen gen live live' T s'
theorem Gens.fin (G : Gens W w l n bG bL S gen live T s) (hT : T + 1 ≤ 100) (hx : x < n) (hl : live x = true) {y : Int} (hy : gen x = y) :
    Calls Tryz.prog 16 #[.pointer (some ⟨l.q, 0, none⟩), .int .i64 (x : Int), .int .i64 y] w fun e w' => e = .returned (.bool true) ∧ GensTOut W l n bG bL (x :: S) gen live (updA live x false) (T + 1) w' := by
  subst hy
  obtain ⟨t1, t2, t3⟩ := G.gs.fin hx hl
  refine (ends_fine G.sole.roo hx t1 rfl rfl t2 rfl).mono ?_
  rintro e w' ⟨rfl, L⟩
  obtain ⟨s', G', _⟩ := G.leftT L (t3.more hT)
  exact ⟨rfl, s', G'⟩
theorem Gens.stale (G : Gens W w l n bG bL S gen live T s) (hT : T + 1 ≤ 100) (hx : x < n) (hl : live x = false) {y : Int} (hy : gen x = y) :
    Calls Tryz.prog 16 #[.pointer (some ⟨l.q, 0, none⟩), .int .i64 (x : Int), .int .i64 y] w fun e w' => e = .returned (.bool false) ∧ GensOut W l n bG bL S gen live (T + 1) w' := by
  subst hy
  refine (ends_stale G.sole.roo hx (G.gs.stale hx hl) rfl rfl).mono ?_
  rintro e w' ⟨rfl, L⟩
  obtain ⟨s', G', _⟩ := G.left L (G.gs.more hT)
  exact ⟨rfl, s', G'⟩
/-- A Look that has begun. -/
structure Lkd (W w : World) (l : Lie) (n bG bL : Nat) (S : List Nat) (gen : Nat → Int) (live : Nat → Bool) (T : Nat) (s : St) (b : Nat) (K : Lk) : Prop where
  g : Gens W w l n bG bL S gen live T s
  mach : LkM w b l.q 4 K
  nb : ∃ w0, Gens W w0 l n bG bL S gen live T s ∧ Up w0 w ∧ w0.heap.size ≤ b
theorem Gens.lookNew (G : Gens W w l n bG bL S gen live T s) (hx : x < n) {y : Int} (_hy : gen x = y) :
    Calls Tryz.prog 17 #[.pointer (some ⟨l.q, 0, none⟩), .int .i64 (x : Int), .int .i64 y] w fun e w' => ∃ b, e = .returned (.tuple #[.pointer (some ⟨b, 0, none⟩), .int .i64 0]) ∧ Lkd W w' l n bG bL S gen live T s b (Lk.new x y) := by
  refine (lkNew G.sole.roo hx y).mono ?_
  rintro e w' ⟨b, rfl, M, hb, U⟩
  exact ⟨b, rfl, G.ups U, M, w, G, U, hb⟩
theorem Lkd.ups {b : Nat} {K : Lk} (H : Lkd W w l n bG bL S gen live T s b K) (u : Up w w') : Lkd W w' l n bG bL S gen live T s b K := by
  obtain ⟨w0, a, c, d⟩ := H.nb
  exact ⟨H.g.ups u, H.mach.up u, w0, a, c.trans u, d⟩
theorem Lkd.step {b : Nat} {y : Int} {cd : Int} (H : Lkd W w l n bG bL S gen live T s b (Lk.new x y)) (hx : x < n) (hy : gen x = y) (hcd : (if live x = true then 0 else 3) = cd) :
    Calls Tryz.prog 18 #[.pointer (some ⟨b, 0, none⟩)] w fun e w' => e = .returned (.bool true) ∧ ∃ s' K', K'.fin = true ∧ K'.code = cd ∧ LkM w' b l.q 4 K' ∧ Gens W w' l n bG bL S gen live T s' := by
  subst hy
  obtain ⟨w0, G0, U0, hb⟩ := H.nb
  refine (lkStep H.g.sole.roo H.mach hx rfl).mono ?_
  rintro e w' ⟨rfl, P⟩
  obtain ⟨s', hs, O, M⟩ := (Ov.ups (Ov.new G0.sole.roo) U0).went P (by intro k hk; simp at hk; subst hk; exact hb)
  obtain ⟨s2, G2, _⟩ := G0.left ⟨s', hs, O⟩ G0.gs
  have hl := G0.gs.look hx
  refine ⟨rfl, s2, _, ?_, ?_, M, G2⟩
  · unfold Lk.go; split <;> rfl
  · unfold Lk.go Lk.live Lk.new
    dsimp only
    rw [hl]
    cases h : live x <;> rw [h] at hcd <;> simpa using hcd
theorem Gens.cells (G : Gens W w l n bG bL S gen live T s) (hx : x < 4) {y : Int} {b : Bool} (hy : gen x = y) (hb : live x = b) : w.cell? ⟨bG, x, none⟩ = some (.int .i64 y) ∧ w.cell? ⟨bL, x, none⟩ = some (.bool b) := by
  subst hy hb
  exact ⟨G.tg.cell (row4_get hx), G.tl.cell (row4_get hx)⟩
theorem GensT.cells {gen' : Nat → Int} {live' : Nat → Bool} (G : GensT W w l n bG bL S gen gen' live live' T s) (hx : x < 4) {y : Int} {b : Bool} (hy : gen x = y) (hb : live x = b) : w.cell? ⟨bG, x, none⟩ = some (.int .i64 y) ∧ w.cell? ⟨bL, x, none⟩ = some (.bool b) := by
  subst hy hb
  exact ⟨G.tg.cell (row4_get hx), G.tl.cell (row4_get hx)⟩
end
/-- The first loop. -/
def GensRel (W : World) (l : Lie) (n bG bL len : Nat) (u i : Value) (wr : World) : Prop :=
  ∃ (j : Nat) (us : Int) (S : List Nat) (gen : Nat → Int) (live : Nat → Bool) (s : St), j ≤ len ∧ i = .int .i64 j ∧ u = .int .i64 us ∧ us + (S.length : Int) = n ∧ Gens W wr l n bG bL S gen live j s
/-- The second. -/
def GensRel2 (W : World) (l : Lie) (n bG bL : Nat) (S : List Nat) (gen : Nat → Int) (live : Nat → Bool) (T : Nat) (i : Value) (wr : World) : Prop :=
  ∃ (j : Nat) (s : St), j ≤ n ∧ i = .int .i64 j ∧ Gens W wr l n bG bL S gen live T s
theorem made_to {n : Nat} {i : Int} (hi : i = (n : Int)) (h1 : 1 ≤ n) (h4 : n ≤ 4) (w : World) :
    Calls Tryz.prog 7 #[.agg #[.int .i64 1, .int .i64 1, .int .i64 8, .int .i64 i, .int .i64 0, .int .i64 1]] w fun e w' => ∃ l : Lie, e = .returned (.tuple #[.pointer (some ⟨l.p, 0, none⟩), .pointer (some ⟨l.q, 0, none⟩), .pointer (some ⟨l.k, 0, none⟩)]) ∧ Twin w w' l n (m0 n) := by
  subst hi; exact made_any h1 h4 w
theorem gens_start {W w : World} {l : Lie} {n : Nat} (T : Sole W w l n (m0 n)) (h1 : 1 ≤ n) (h4 : n ≤ 4) :
    Gens W ((w.alloc (.cells #[.int .i64 0, .int .i64 0, .int .i64 0, .int .i64 0] 62)).alloc (.cells #[.bool false, .bool false, .bool false, .bool false] 63)) l n w.heap.size (w.heap.size + 1) (List.range n) (fun _ => 0) (fun _ => false) 0 (m0 n) := by
  have e : (w.alloc (.cells #[.int .i64 0, .int .i64 0, .int .i64 0, .int .i64 0] 62)).heap.size = w.heap.size + 1 := by simp
  have hL := Whole.new (w.alloc (.cells #[.int .i64 0, .int .i64 0, .int .i64 0, .int .i64 0] 62)) 63 #[.bool false, .bool false, .bool false, .bool false]
  rw [e] at hL
  exact ⟨(T.ups (Up.alloc _ _)).ups (Up.alloc _ _), GS.begin_ h1 h4, (Whole.new w 62 #[.int .i64 0, .int .i64 0, .int .i64 0, .int .i64 0]).up (Up.alloc _ _), hL, T.up.size, Nat.le_succ_of_le T.up.size⟩
theorem quo2 {z : Int} (h : (Lit.int .i64 z).wf = true) : IntKind.i64.wrap (z.tdiv 2) = z.tdiv 2 ∧ wrap64 (z.tdiv 2) = z.tdiv 2 := by
  have := W64.i64_in h
  have h2 : -9223372036854775808 ≤ z.tdiv 2 ∧ z.tdiv 2 < 9223372036854775808 := by
    rcases Int.le_total 0 z with h | h
    · rw [Int.tdiv_eq_ediv_of_nonneg h]; omega
    · have e : z.tdiv 2 = -((-z).tdiv 2) := by rw [Int.neg_tdiv]; omega
      rw [e, Int.tdiv_eq_ediv_of_nonneg (by omega)]; omega
  exact ⟨IntWalk.i64_in _ (by omega), wrap64_in h2.1 h2.2⟩
end Go.Proofs.YtalglhgngedjoaaGreat
