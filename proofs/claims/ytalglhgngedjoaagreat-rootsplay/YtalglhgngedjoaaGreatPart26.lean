/-
  Texts beneath RootsPlay, part 26: RtGens, RtList.
-/
import Derived.Test.YtalglhgngedjoaaGreatPart25
/-
  One alone who makes and ends regions (RootsGens), in plain data: the spare slots are a list, each root has its slot's generation (GS). No function of the program is named here.
-/
namespace Go.Proofs.YtalglhgngedjoaaGreat
open Go.RowKit
open W64
set_option maxRecDepth 100000
theorem rt_root {g m c o : Int} (h : rootB g m c o = true) : (rtOf (rootV g m c o)).g = g ∧ (rtOf (rootV g m c o)).m = m ∧ (rtOf (rootV g m c o)).c = c ∧ (rtOf (rootV g m c o)).o = o := by
  obtain ⟨_, _, _, _⟩ := rootB_iff.1 h
  unfold rtOf rootV
  rw [if_pos h]
  unfold rootN
  dsimp only
  omega
def oneN (b : Bool) : Int := if b = true then 1 else 0
structure GS (n : Nat) (xs : List Int) (S : List Nat) (gen : Nat → Int) (live : Nat → Bool) (T : Nat) : Prop where
  len : 4 + 2 * n ≤ xs.length
  n1 : 1 ≤ n
  n4 : n ≤ 4
  top : xs.getD 1 0 % 4294967296 = Stk.linkOf S
  chain : Stk.Chain (fun i => xs.getD (4 + n + i) 0) S
  mem : ∀ x ∈ S, x < n
  nd : S.Nodup
  all : ∀ x, x < n → (x ∈ S ↔ live x = false)
  root : ∀ x, x < n → ∃ cl, 0 ≤ cl ∧ cl ≤ 3 ∧ xs.getD (4 + x) 0 = rootV (gen x) (oneN (live x)) cl 0
  gb : ∀ x, x < n → 0 ≤ gen x ∧ gen x ≤ T
  tb : T ≤ 100
section
variable {n T x : Nat} {xs : List Int} {S r : List Nat} {gen : Nat → Int} {live : Nat → Bool} {cls : Int}
theorem GS.rt (H : GS n xs S gen live T) (hx : x < n) : (rtOf (xs.getD (4 + x) 0)).g = gen x ∧ (rtOf (xs.getD (4 + x) 0)).m = oneN (live x) := by
  obtain ⟨cl, c0, c1, e⟩ := H.root x hx
  have hg := H.gb x hx
  have ht := H.tb
  rw [e]
  have h := rt_root (g := gen x) (m := oneN (live x)) (c := cl) (o := 0) (rootB_iff.2 ⟨by omega, by unfold oneN; split <;> omega, ⟨c0, c1⟩, by omega⟩)
  exact ⟨h.1, h.2.1⟩
theorem GS.look (H : GS n xs S gen live T) (hx : x < n) : liveB (rtOf (xs.getD (4 + x) 0)).g (rtOf (xs.getD (4 + x) 0)).m (gen x) = live x := by
  obtain ⟨h1, h2⟩ := H.rt hx
  rw [h1, h2]
  unfold liveB oneN
  cases live x <;> simp
theorem GS.len_le (H : GS n xs S gen live T) : S.length ≤ n := by
  have h := List.Nodup.length_le_of_subset H.nd (l₂ := List.range n) (fun x hx => List.mem_range.2 (H.mem x hx))
  simpa using h
theorem GS.lst (H : GS n xs S gen live T) : lstOf n 1 (4 + n) xs = S := lstOf_chain H.len_le H.mem H.chain H.top
theorem GS.none (H : GS n xs [] gen live T) (cls : Int) : Cr.run n 4 (xs, Cr.new cls) 10 = (xs, crNone xs cls) := Cr.run_none cls (by have := H.top; simpa [Stk.linkOf] using this) 9
theorem GS.more (H : GS n xs S gen live T) (h : T + 1 ≤ 100) : GS n xs S gen live (T + 1) := ⟨H.len, H.n1, H.n4, H.top, H.chain, H.mem, H.nd, H.all, H.root, fun x hx => by have := H.gb x hx; omega, h⟩
theorem GS.take (H : GS n xs (x :: r) gen live T) (h : T + 1 ≤ 100) (c0 : 0 ≤ cls) (c1 : cls ≤ 3) :
    Cr.run n 4 (xs, Cr.new cls) 10 = (crXs 4 xs x r cls, crEnd 4 xs x r cls) ∧ pcrGen (crEnd 4 xs x r cls) = gen x + 1 ∧ x < n ∧ live x = false ∧
    (rtOf ((crXs 4 xs x r cls).getD (4 + x) 0)).g = gen x + 1 ∧ (rtOf ((crXs 4 xs x r cls).getD (4 + x) 0)).m = 1 ∧ (rtOf ((crXs 4 xs x r cls).getD (4 + x) 0)).c = cls ∧ (rtOf ((crXs 4 xs x r cls).getD (4 + x) 0)).o = 0 ∧
    GS n (crXs 4 xs x r cls) r (updA gen x (gen x + 1)) (updA live x true) (T + 1) := by
  have hx : x < n := H.mem x (by simp)
  have hr : ∀ y ∈ r, y < n := fun y hy => H.mem y (by simp [hy])
  have hlk : xs.getD (4 + n + x) 0 = Stk.linkOf r := H.chain.1
  have hlen := H.len
  have hg := H.gb x hx
  have hl : live x = false := (H.all x hx).1 (by simp)
  have hX : xs.getD (4 + x) 0 / 4294967296 = gen x := (H.rt hx).1
  have hla : laterN (xs.getD (4 + x) 0 / 4294967296) = gen x + 1 := by unfold laterN; rw [hX, if_neg (by omega)]
  have hnd := List.nodup_cons.1 H.nd
  have hsm := link_small hr
  have hn4 := H.n4
  have hroot := rt_root (g := gen x + 1) (m := 1) (c := cls) (o := 0) (rootB_iff.2 ⟨by omega, by omega, ⟨c0, c1⟩, by omega⟩)
  have exs : crXs 4 xs x r cls = (xs.set 1 (nextW (xs.getD 1 0) (Stk.linkOf r - 1))).set (4 + x) (rootV (gen x + 1) 1 cls 0) := by unfold crXs; rw [hla]
  have gx : (crXs 4 xs x r cls).getD (4 + x) 0 = rootV (gen x + 1) 1 cls 0 := by rw [exs]; exact getD_same (by rw [List.length_set]; omega)
  have go : ∀ i, i ≠ 1 → i ≠ 4 + x → (crXs 4 xs x r cls).getD i 0 = xs.getD i 0 := fun i h1 h2 => by rw [exs, getD_other (Ne.symm h2), getD_other (Ne.symm h1)]
  have g1 : (crXs 4 xs x r cls).getD 1 0 = nextW (xs.getD 1 0) (Stk.linkOf r - 1) := by rw [exs, getD_other (by omega)]; exact getD_same (by omega)
  refine ⟨Cr.run_some cls H.mem H.top hlk (by decide) 5, ?_, hx, hl, by rw [gx]; exact hroot.1, by rw [gx]; exact hroot.2.1, by rw [gx]; exact hroot.2.2.1, by rw [gx]; exact hroot.2.2.2, ?_⟩
  · unfold pcrGen crEnd; dsimp only; rw [if_pos rfl]; exact hla
  · refine ⟨by rw [exs, List.length_set, List.length_set]; exact hlen, H.n1, hn4, ?_, ?_, hr, hnd.2, ?_, ?_, ?_, h⟩
    · rw [g1, nextW_mod (by omega) (by omega)]; omega
    · refine Chain.congr H.chain.2 fun y hy => ?_
      have := hr y hy
      exact go _ (by omega) (by omega)
    · intro y hy
      by_cases e : y = x
      · subst e; rw [updA_same]; simp [hnd.1]
      · rw [updA_ne _ _ e]
        have := H.all y hy
        simp [e] at this
        simpa using this
    · intro y hy
      by_cases e : y = x
      · subst e; rw [updA_same, updA_same]; exact ⟨cls, c0, c1, gx⟩
      · rw [updA_ne _ _ e, updA_ne _ _ e]
        obtain ⟨cl, a, b, e2⟩ := H.root y hy
        exact ⟨cl, a, b, by rw [go _ (by omega) (by omega)]; exact e2⟩
    · intro y hy
      by_cases e : y = x
      · subst e; rw [updA_same]; omega
      · rw [updA_ne _ _ e]; have := H.gb y hy; omega
theorem GS.stale (H : GS n xs S gen live T) (hx : x < n) (hl : live x = false) : Ed.run 4 (xs, Ed.new x (gen x)) 5 = (xs, edStale xs 4 x (gen x)) :=
  Ed.run_stale (by rw [H.look hx, hl]) 4
/-- The cells behind an End of x whose slot is given back. -/
def geXs (n : Nat) (xs : List Int) (x : Nat) (g : Int) : List Int := puXs n 1 (4 + n) (xs.set (4 + x) (rootV g 0 0 0)) x
theorem GS.fin (H : GS n xs S gen live T) (hx : x < n) (hl : live x = true) :
    Ed.run 4 (xs, Ed.new x (gen x)) 5 = (xs.set (4 + x) (rootV (gen x) 0 0 0), edEnd xs 4 x (gen x)) ∧
    Pu.run n 1 (4 + n) (xs.set (4 + x) (rootV (gen x) 0 0 0), Pu.new [x]) 5 = (geXs n xs x (gen x), ⟨[x], 0, (xs.set (4 + x) (rootV (gen x) 0 0 0)).getD 1 0, true⟩) ∧
    GS n (geXs n xs x (gen x)) (x :: S) gen (updA live x false) T := by
  have hlen := H.len
  have hn4 := H.n4
  have hsm := link_small H.mem
  have hg := (H.rt hx).1
  have hgb := H.gb x hx
  have htb := H.tb
  have hnS : x ∉ S := fun h => by have := (H.all x hx).1 h; rw [hl] at this; cases this
  refine ⟨?_, Pu.run_one (by omega) 2, ?_⟩
  · have h := Ed.run_live (r0 := 4) (xs := xs) (slot := x) (gen := gen x) (by rw [H.look hx, hl]) 3
    rw [hg] at h
    exact h
  · have y1 : (xs.set (4 + x) (rootV (gen x) 0 0 0)).getD 1 0 = xs.getD 1 0 := getD_other (by omega)
    have ht := topN_link H.mem H.top
    have exs : geXs n xs x (gen x) = ((xs.set (4 + x) (rootV (gen x) 0 0 0)).set (4 + n + x) (Stk.linkOf S)).set 1 (nextW (xs.getD 1 0) x) := by
      unfold geXs puXs; rw [y1, ht, show Stk.linkOf S - 1 + 1 = Stk.linkOf S by omega]
    have g1 : (geXs n xs x (gen x)).getD 1 0 = nextW (xs.getD 1 0) x := by rw [exs]; exact getD_same (by simp; omega)
    have go : ∀ i, i ≠ 1 → i ≠ 4 + x → i ≠ 4 + n + x → (geXs n xs x (gen x)).getD i 0 = xs.getD i 0 := fun i h1 h2 h3 => by rw [exs, getD_other (Ne.symm h1), getD_other (Ne.symm h3), getD_other (Ne.symm h2)]
    have gl : (geXs n xs x (gen x)).getD (4 + n + x) 0 = Stk.linkOf S := by rw [exs, getD_other (by omega)]; exact getD_same (by simp; omega)
    have gr : (geXs n xs x (gen x)).getD (4 + x) 0 = rootV (gen x) 0 0 0 := by rw [exs, getD_other (by omega), getD_other (by omega)]; exact getD_same (by omega)
    refine ⟨by rw [exs]; simp; omega, H.n1, hn4, ?_, ⟨gl, ?_⟩, ?_, List.nodup_cons.2 ⟨hnS, H.nd⟩, ?_, ?_, H.gb, htb⟩
    · rw [g1, nextW_mod (by omega) (by omega)]; rfl
    · refine Chain.congr H.chain fun y hy => ?_
      have := H.mem y hy
      have : y ≠ x := fun e => hnS (e ▸ hy)
      exact go _ (by omega) (by omega) (by omega)
    · intro y hy
      simp at hy
      rcases hy with rfl | hy
      · exact hx
      · exact H.mem y hy
    · intro y hy
      by_cases e : y = x
      · subst e; rw [updA_same]; simp
      · rw [updA_ne _ _ e]
        have := H.all y hy
        simp [e]
        simpa using this
    · intro y hy
      by_cases e : y = x
      · subst e; rw [updA_same]; exact ⟨0, by omega, by omega, gr⟩
      · rw [updA_ne _ _ e]
        obtain ⟨cl, a, b, e2⟩ := H.root y hy
        exact ⟨cl, a, b, by rw [go _ (by omega) (by omega) (by omega)]; exact e2⟩
theorem GS.begin_ {n : Nat} (h1 : 1 ≤ n) (h4 : n ≤ 4) : GS n (m0 n).xs (List.range n) (fun _ => 0) (fun _ => false) 0 := by
  have root0 : ∀ x, x < n → (m0 n).xs.getD (4 + x) 0 = rootV 0 0 0 0 := by
    rcases (show n = 1 ∨ n = 2 ∨ n = 3 ∨ n = 4 by omega) with rfl | rfl | rfl | rfl <;> (intro x hx; rcases (show x = 0 ∨ x = 1 ∨ x = 2 ∨ x = 3 by omega) with rfl | rfl | rfl | rfl <;> first | rfl | omega)
  refine ⟨by rw [m0_len]; omega, h1, h4, ?_, ?_, fun x hx => List.mem_range.1 hx, List.nodup_range, fun x hx => by simp [hx], fun x hx => ⟨0, by omega, by omega, root0 x hx⟩, fun x _ => by simp, by omega⟩
  · rcases (show n = 1 ∨ n = 2 ∨ n = 3 ∨ n = 4 by omega) with rfl | rfl | rfl | rfl <;> rfl
  · rcases (show n = 1 ∨ n = 2 ∨ n = 3 ∨ n = 4 by omega) with rfl | rfl | rfl | rfl
    · exact ⟨rfl, trivial⟩
    · exact ⟨rfl, rfl, trivial⟩
    · exact ⟨rfl, rfl, rfl, trivial⟩
    · exact ⟨rfl, rfl, rfl, rfl, trivial⟩
end
/-! ### The two tables -/
def row4 (V : Nat → Value) : Array Value := #[V 0, V 1, V 2, V 3]
theorem row4_get {V : Nat → Value} {u : Nat} (h : u < 4) : (row4 V)[u]? = some (V u) := by
  rcases (show u = 0 ∨ u = 1 ∨ u = 2 ∨ u = 3 by omega) with rfl | rfl | rfl | rfl <;> rfl
theorem row4_set (V : Nat → Value) {u : Nat} (h : u < 4) (x : Value) : (row4 V).setIfInBounds u x = row4 (updA V u x) := by
  rcases (show u = 0 ∨ u = 1 ∨ u = 2 ∨ u = 3 by omega) with rfl | rfl | rfl | rfl <;> rfl
def gV (gen : Nat → Int) (u : Nat) : Value := .int .i64 (gen u)
def lV (live : Nat → Bool) (u : Nat) : Value := .bool (live u)
theorem gV_upd (gen : Nat → Int) (u : Nat) (x : Int) : updA (gV gen) u (.int .i64 x) = gV (updA gen u x) := by
  funext k
  by_cases e : k = u
  · subst e; unfold gV; rw [updA_same, updA_same]
  · unfold gV; rw [updA_ne _ _ e, updA_ne _ _ e]
theorem lV_upd (live : Nat → Bool) (u : Nat) (x : Bool) : updA (lV live) u (.bool x) = lV (updA live u x) := by
  funext k
  by_cases e : k = u
  · subst e; unfold lV; rw [updA_same, updA_same]
  · unfold lV; rw [updA_ne _ _ e, updA_ne _ _ e]
/-- What the loops keep. -/
structure Gens (W w : World) (l : Lie) (n bG bL : Nat) (S : List Nat) (gen : Nat → Int) (live : Nat → Bool) (T : Nat) (s : St) : Prop where
  sole : Sole W w l n s
  gs : GS n s.xs S gen live T
  tg : Whole w bG 62 (row4 (gV gen))
  tl : Whole w bL 63 (row4 (lV live))
  ng : W.heap.size ≤ bG
  nl : W.heap.size ≤ bL
section
variable {W w w' : World} {l : Lie} {n bG bL T x : Nat} {S : List Nat} {gen : Nat → Int} {live : Nat → Bool} {s : St} {xs : List Int}
theorem Gens.ups (G : Gens W w l n bG bL S gen live T s) (u : Up w w') : Gens W w' l n bG bL S gen live T s := ⟨G.sole.ups u, G.gs, G.tg.up u, G.tl.up u, G.ng, G.nl⟩
theorem Gens.left (G : Gens W w l n bG bL S gen live T s) (L : Lft w w' l.q l.p l.g l.qs (cfN n) 4 n xs) {S' : List Nat} {T' : Nat} (H : GS n xs S' gen live T') : ∃ s', Gens W w' l n bG bL S' gen live T' s' ∧ s'.xs = xs := by
  obtain ⟨s', hx, O⟩ := L.out
  subst hx
  have E := O.el
  have h1 := G.tg.ne_type G.sole.roo.env.mem.top (by decide)
  have h2 := G.tg.ne_type G.sole.roo.env.mem.row (by decide)
  have h3 := G.tl.ne_type G.sole.roo.env.mem.top (by decide)
  have h4 := G.tl.ne_type G.sole.roo.env.mem.row (by decide)
  exact ⟨s', ⟨⟨O.roo, Else.up_new G.sole.up E (by intro k hk; simp at hk; rcases hk with rfl | rfl; exact G.sole.hp; exact G.sole.hg), G.sole.hp, G.sole.hg⟩, H, E.whole G.tg (by simp [h1, h2]), E.whole G.tl (by simp [h3, h4]), G.ng, G.nl⟩, rfl⟩
/-- The same where the tables are to be turned yet. -/
structure GensT (W w : World) (l : Lie) (n bG bL : Nat) (S : List Nat) (gen gen' : Nat → Int) (live live' : Nat → Bool) (T : Nat) (s : St) : Prop where
  sole : Sole W w l n s
  gs : GS n s.xs S gen' live' T
  tg : Whole w bG 62 (row4 (gV gen))
  tl : Whole w bL 63 (row4 (lV live))
  ng : W.heap.size ≤ bG
  nl : W.heap.size ≤ bL
theorem GensT.ups {gen' : Nat → Int} {live' : Nat → Bool} (G : GensT W w l n bG bL S gen gen' live live' T s) (u : Up w w') : GensT W w' l n bG bL S gen gen' live live' T s := ⟨G.sole.ups u, G.gs, G.tg.up u, G.tl.up u, G.ng, G.nl⟩
theorem Gens.leftT (G : Gens W w l n bG bL S gen live T s) (L : Lft w w' l.q l.p l.g l.qs (cfN n) 4 n xs) {S' : List Nat} {gen' : Nat → Int} {live' : Nat → Bool} {T' : Nat} (H : GS n xs S' gen' live' T') : ∃ s', GensT W w' l n bG bL S' gen gen' live live' T' s' ∧ s'.xs = xs := by
  obtain ⟨s', hx, O⟩ := L.out
  subst hx
  have E := O.el
  have h1 := G.tg.ne_type G.sole.roo.env.mem.top (by decide)
  have h2 := G.tg.ne_type G.sole.roo.env.mem.row (by decide)
  have h3 := G.tl.ne_type G.sole.roo.env.mem.top (by decide)
  have h4 := G.tl.ne_type G.sole.roo.env.mem.row (by decide)
  exact ⟨s', ⟨⟨O.roo, Else.up_new G.sole.up E (by intro k hk; simp at hk; rcases hk with rfl | rfl; exact G.sole.hp; exact G.sole.hg), G.sole.hp, G.sole.hg⟩, H, E.whole G.tg (by simp [h1, h2]), E.whole G.tl (by simp [h3, h4]), G.ng, G.nl⟩, rfl⟩
theorem Sole.far {B : Nat} {t : TypeId} {cs : Array Value} (G : Sole W w l n s) (X : Whole w B t cs) (hB : W.heap.size ≤ B) (h1 : t ≠ 108) (h2 : t ≠ 126) (h3 : t ≠ 90) (h4 : t ≠ 158) (i : Nat) (v : Value) : Sole W (w.setCell ⟨B, i, none⟩ v) l n s := by
  have u : Else [B] w (w.setCell ⟨B, i, none⟩ v) := (Else.refl [B] w).set (.inl (by simp)) _
  exact ⟨G.roo.else u (by simp [(X.ne_type G.roo.env.mem.top h2).symm, (X.ne_type G.roo.env.mem.row h3).symm, (X.ne_type G.roo.env.stk h4).symm, (X.ne_type G.roo.obj h1).symm]), G.up.set hB v, G.hp, G.hg⟩
theorem GensT.both {y : Int} (G : GensT W w l n bG bL S gen (updA gen x y) live (updA live x true) T s) (hx : x < 4) : Gens W ((w.setCell ⟨bG, x, none⟩ (.int .i64 y)).setCell ⟨bL, x, none⟩ (.bool true)) l n bG bL S (updA gen x y) (updA live x true) T s := by
  have ne := G.tg.ne_type G.tl (by decide)
  have A := G.sole.far G.tg G.ng (by decide) (by decide) (by decide) (by decide) x (.int .i64 y)
  have tg1 := G.tg.set x (.int .i64 y)
  rw [row4_set _ hx, gV_upd] at tg1
  have tl1 := G.tl.far (p := ⟨bG, x, none⟩) (by exact fun e => ne e.symm) (.int .i64 y)
  have B := A.far tl1 G.nl (by decide) (by decide) (by decide) (by decide) x (.bool true)
  have tl2 := tl1.set x (.bool true)
  rw [row4_set _ hx, lV_upd] at tl2
  exact ⟨B, G.gs, tg1.far (p := ⟨bL, x, none⟩) ne _, tl2, G.ng, G.nl⟩
theorem GensT.off (G : GensT W w l n bG bL S gen gen live (updA live x false) T s) (hx : x < 4) : Gens W (w.setCell ⟨bL, x, none⟩ (.bool false)) l n bG bL S gen (updA live x false) T s := by
  have ne := G.tg.ne_type G.tl (by decide)
  have B := G.sole.far G.tl G.nl (by decide) (by decide) (by decide) (by decide) x (.bool false)
  have tl2 := G.tl.set x (.bool false)
  rw [row4_set _ hx, lV_upd] at tl2
  exact ⟨B, G.gs, G.tg.far (p := ⟨bL, x, none⟩) ne _, tl2, G.ng, G.nl⟩
end
end Go.Proofs.YtalglhgngedjoaaGreat

/-
  The list that the cells tell, whatever they hold: the program's List and Spare, the reference's List.
-/
namespace Go.Proofs.YtalglhgngedjoaaGreat
open Go.RowKit
open W64
set_option maxRecDepth 100000
section
variable {w w' : World} {p g q hd ln n qs r0 : Nat} {s : St} {xs : List Int} {cc : Int} {c : Cf} {qq : Nat}
/-- The list so far, and what is next. -/
def WalkRel (w : World) (n ln : Nat) (xs : List Int) (S : List Nat) (v i : Value) (wr : World) : Prop :=
  ∃ (T : List Nat) (j : Int), T.length ≤ n ∧ i = .int .i64 j ∧ -1 ≤ j ∧ j < n ∧ T ++ walkL n ln xs (n - T.length) j = S ∧ Ints wr v (I T) ∧ Fresh w v ∧ Up w wr
theorem I_app (T : List Nat) (x : Nat) : I (T ++ [x]) = I T ++ [(x : Int)] := by simp [I]
theorem walk_more {T S : List Nat} {x : Nat} (h : T ++ walkL n ln xs (n - T.length) (x : Int) = S) (hl : T.length < n) : (T ++ [x]) ++ walkL n ln xs (n - (T ++ [x]).length) (belowN n (xs.getD (ln + x) 0)) = S := by
  obtain ⟨f, hf⟩ : ∃ f, n - T.length = f + 1 := ⟨n - T.length - 1, by omega⟩
  have e : n - (T ++ [x]).length = f := by rw [List.length_append]; simp; omega
  rw [hf, walkL_nat] at h
  rw [e, List.append_assoc]
  exact h
theorem walk_end {T S : List Nat} {j : Int} (h : T ++ walkL n ln xs (n - T.length) j = S) (hl : j < 0 ∨ n ≤ T.length) : T = S := by
  rcases hl with hl | hl
  · rw [walkL_neg hl] at h; simpa using h
  · rw [show n - T.length = 0 by omega] at h
    unfold walkL at h; simpa using h
set_option maxHeartbeats 4000000 in
theorem slist (E : Env w p g q hd ln n s) :
    Calls Tryz.prog 52 #[.pointer (some ⟨q, 0, none⟩)] w fun e w' => ∃ v, e = .returned v ∧ Ints w' v (I (lstOf n hd ln s.xs)) ∧ Fresh w v ∧ Up w w' := by
  obtain ⟨c0, c1, c2, c3⟩ := E.cells
  have n0 := E.n0
  have n1 := E.n1
  have hl := E.hl
  have ht := E.top
  have hk := E.ok hd
  have HW := Lib.hid E.ok.words
  have HE := Lib.hid E
  have HHD := Lib.hid E.hasH
  obtain ⟨S, hS⟩ : ∃ S, lstOf n hd ln s.xs = S := ⟨_, rfl⟩
  rw [hS]
  unfold lstOf at hS
  rw [← get_at] at hS
  obtain ⟨t, htt⟩ : ∃ t, topN n (s.get hd) = t := ⟨_, rfl⟩
  have hti := topN_in (n := n) (x := s.get hd) hk.1 n0
  rw [htt] at hS hti
  have HT := Lib.hid htt
  have HS := Lib.hid hS
  clear E hS htt
  go_enter Tryz.func52, Tryz.ntmps52
  go_upto_region 2 with fail
  go_region_held3 (fun w' => w'.cell? ⟨q, 0, none⟩ = some (.pointer (some ⟨p, 0, none⟩)) ∧ w'.cell? ⟨q, 1, none⟩ = some (.int .i64 hd)) ((first | exact ⟨c0, c1⟩ | exact ⟨U1.kept c0, U1.kept c1⟩))
    (first
      | (go_at_call 50; refine (peek_in (HE.out.mem.up (up_drew w)) HHD.out).mono ?_; rintro e w9 ⟨rfl, rfl⟩)
      | (go_at_call 94; refine (ofHead_to (HE.out.up (up_drew w)) hk.1 hk.2 HT.out).mono ?_; rintro e w1 ⟨rfl, U1⟩))
  have HU := Lib.hid ((up_drew w).trans U1)
  clear U1 c0 c1 c2 c3 hk
  go_wp2_with fail
  go_loopw [3, 4] (fun v i wr => WalkRel w n ln s.xs S v i wr) (fun v _ _ => n - nOf v)
  case atStart => exact ⟨[], t, Nat.zero_le _, rfl, hti.1, hti.2, HS.out, Ints.nil _, fresh_nil _, HU.out⟩
  case round =>
    obtain ⟨T, j, hT, rfl, j0, j1, hS, J, F, hup⟩ := hrel
    obtain ⟨A, cp, rfl⟩ := J.slice
    obtain ⟨k, hk⟩ : ∃ k, T.length = k := ⟨_, rfl⟩
    rw [I_len, hk] at J F ⊢
    have HEr := Lib.hid (HE.out.up hup)
    obtain ⟨c0, c1, c2, c3⟩ := HEr.out.cells
    have HJ := Lib.hid J
    have HF := Lib.hid F
    have HUP := Lib.hid hup
    have HSS := Lib.hid hS
    have HK := Lib.hid hk
    rw [hk] at hT
    clear J F hup hS hk
    by_cases hj : j = -1
    · subst hj
      have HFI := Lib.hid (walk_end HSS.out (.inl (by decide)))
      go_wp2_with fail
      go_ret
      rw [HFI.out] at HJ
      have hk2 := HK.out
      rw [HFI.out] at hk2
      exact ⟨_, rfl, HJ.out, HF.out, HUP.out⟩
    · have g1 : (j == -1) = false := by simpa using hj
      by_cases hlt : k < n
      · have g2 : (k : Int) < (n : Int) := by omega
        obtain ⟨x, rfl⟩ : ∃ x : Nat, j = x := ⟨j.toNat, by omega⟩
        have hx : x < n := by omega
        have hz := HW.out (ln + x)
        have gz := Lib.hid (get_ln s ln x)
        obtain ⟨z, ez⟩ : ∃ z, s.xs.getD (ln + x) 0 = z := ⟨_, rfl⟩
        obtain ⟨y, ey⟩ : ∃ y, belowN n z = y := ⟨_, rfl⟩
        rw [ez] at hz
        have HN := Lib.hid (show (T ++ [x]) ++ walkL n ln s.xs (n - (T ++ [x]).length) y = S by
          rw [← ey, ← ez]; exact walk_more HSS.out (by rw [HK.out]; exact hlt))
        have HY := Lib.hid (show -1 ≤ y ∧ y < n by rw [← ey]; exact belowN_in hz.1 n0)
        have HB := Lib.hid (And.intro ey hz)
        have HZ := Lib.hid (show s.get ((ln : Int) + (x : Nat)) = z by rw [gz.out, ez])
        have hh := Lib.hid (HE.out.hasL (i := x) (by omega) (by omega))
        have s3 : IntKind.i64.wrap ((ln : Int) + x) = ln + x := IntWalk.i64_in _ (by omega)
        have i0 : (0 : Int) ≤ (x : Int) := Int.natCast_nonneg _
        clear ez ey hz
        go_upto_region 5 with (at_builtin; refine wpList_app rfl _ _ rfl rfl rfl (HJ.out.up (Up.alloc _ _)) (rd_one _ (x : Int)) (by rw [I_len, HK.out]; simp; omega) ?_; intro v5 w5 J5 G5 A5; obtain ⟨A5v, N5, c5, rfl⟩ := shapeI J5; have HJ5 := Lib.hid J5; have HU5 := Lib.hid (up_app (HUP.out.then_alloc _) G5 HF.out); have HF5 := Lib.hid (fresh_app HF.out (HUP.out.then_alloc (.cells #[.int .i64 (x : Int)] 3)).size A5); clear J5 G5 A5)
        clear c0 c1 c2 c3
        have HED := Lib.hid (HE.out.up HU5.out)
        obtain ⟨c0, c1, c2, c3⟩ := HED.out.cells
        go_region_held3 (fun w' => w'.cell? ⟨q, 0, none⟩ = some (.pointer (some ⟨p, 0, none⟩)) ∧ w'.cell? ⟨q, 2, none⟩ = some (.int .i64 ln)) ((first | exact ⟨c0, c2⟩))
          (first
            | (go_at_call 50; refine (peek_to (HED.out.mem.up (up_drew w5)) hh.out HZ.out).mono ?_; rintro e w9 ⟨rfl, rfl⟩)
            | (go_at_call 95; refine (ofLink_to (HED.out.up (up_drew w5)) HB.out.2.1 HB.out.2.2 HB.out.1).mono ?_; rintro e w9 ⟨rfl, rfl⟩))
        have hN5 : N5 = k + 1 := by
          obtain ⟨A9, c9, e9⟩ := HJ5.out.slice
          injection e9 with _ e9 _
          rw [e9, List.length_append, I_len, HK.out]; rfl
        subst hN5
        go_wp2_with fail
        go_roundw
        case rel => exact ⟨T ++ [x], y, by rw [List.length_append, HK.out]; simp; omega, rfl, HY.out.1, HY.out.2, HN.out, by rw [I_app]; exact HJ5.out.up (up_drew w5), HF5.out, HU5.out.trans (up_drew w5)⟩
        case measure => simp [nOf]; omega
      · have g2 : ¬ (k : Int) < (n : Int) := by omega
        have HFI := Lib.hid (walk_end HSS.out (.inr (by rw [HK.out]; omega)))
        go_wp2_with fail
        go_ret
        rw [HFI.out] at HJ
        exact ⟨_, rfl, HJ.out, HF.out, HUP.out⟩
theorem rtSpare (R : Roo w qq p g qs c r0 n s) :
    Calls Tryz.prog 12 #[.pointer (some ⟨qq, 0, none⟩)] w fun e w' => ∃ v, e = .returned v ∧ Ints w' v (I (lstOf n 1 (r0 + n) s.xs)) ∧ Fresh w v ∧ Up w w' := by
  have c7 := R.obj.cell (i := 7) (v := .pointer (some ⟨qs, 0, none⟩)) rfl
  have H := Lib.hid (slist R.env)
  clear R
  go_enter Tryz.func12, Tryz.ntmps12
  go_wp2_with (go_at_call 52; refine H.out.mono ?_; rintro e w2 ⟨v, rfl, J, F, U⟩; obtain ⟨A, N, c, rfl⟩ := shapeI J; have HJ := Lib.hid J; have HF := Lib.hid F; have HU := Lib.hid U; clear J F U)
  go_ret
  exact ⟨_, rfl, HJ.out, HF.out, HU.out⟩
set_option maxHeartbeats 4000000 in
theorem rlist (E : REnv w p g q hd ln n xs cc) :
    Calls Tryz.prog 13 #[.pointer (some ⟨q, 0, none⟩)] w fun e w' => ∃ v, e = .returned v ∧ Ints w' v (I (lstOf n hd ln xs)) ∧ Fresh w v ∧ Up w w' := by
  obtain ⟨k0, k1, k2, k3⟩ := E.cells
  have r0 := E.mem.cells.1
  have rh := E.mem.cell E.hh
  have n0 := E.n0
  have n1 := E.n1
  have hlx := E.hl
  have htx := E.top
  have hhx := E.hh
  have ok := E.ok hd
  have HW := Lib.hid E.ok
  obtain ⟨S, hS⟩ : ∃ S, lstOf n hd ln xs = S := ⟨_, rfl⟩
  rw [hS]
  unfold lstOf at hS
  obtain ⟨y0, hy⟩ : ∃ y, xs.getD hd 0 = y := ⟨_, rfl⟩
  rw [hy] at rh ok hS
  obtain ⟨t, htt⟩ : ∃ t, topN n y0 = t := ⟨_, rfl⟩
  have hti := topN_in (n := n) ok.1 n0
  rw [htt] at hS hti
  have HT := Lib.hid htt
  have HS := Lib.hid hS
  have i8 : (0 : Int) ≤ (hd : Int) := Int.natCast_nonneg _
  have i9 : (hd : Int) < (xs.length : Int) := by omega
  obtain ⟨L, hL⟩ : ∃ L, xs.length = L := ⟨_, rfl⟩
  rw [hL] at r0 i9 hlx htx hhx
  have HLL := Lib.hid hL
  have HE := Lib.hid E
  clear E hy hL hS htt
  go_enter Tryz.func13, Tryz.ntmps13
  go_upto_region 2 with fail
  go_region_held3 (fun w' => w'.cell? ⟨q, 0, none⟩ = some (.pointer (some ⟨p, 0, none⟩)) ∧ w'.cell? ⟨q, 1, none⟩ = some (.int .i64 hd) ∧ w'.cell? ⟨p, 0, none⟩ = some (.slice (some ⟨g, 0, none⟩) L L) ∧ w'.cell? ⟨g, hd, none⟩ = some (.int .u64 y0)) ((first | exact ⟨k0, k1, r0, rh⟩ | exact ⟨U1.kept k0, U1.kept k1, U1.kept r0, U1.kept rh⟩))
    (first
      | (go_at_call 53; refine (rtop_to (HE.out.up (up_drew w)) ok.1 ok.2 HT.out).mono ?_; rintro e w1 ⟨rfl, U1⟩))
  have HU := Lib.hid ((up_drew w).trans U1)
  clear U1 k0 k1 k2 k3 r0 rh ok
  go_wp2_with fail
  go_loopw [3, 4] (fun v i wr => WalkRel w n ln xs S v i wr) (fun v _ _ => n - nOf v)
  case atStart => exact ⟨[], t, Nat.zero_le _, rfl, hti.1, hti.2, HS.out, Ints.nil _, fresh_nil _, HU.out⟩
  case round =>
    obtain ⟨T, j, hT, rfl, j0, j1, hS, J, F, hup⟩ := hrel
    obtain ⟨A, cp, rfl⟩ := J.slice
    obtain ⟨k, hk⟩ : ∃ k, T.length = k := ⟨_, rfl⟩
    rw [I_len, hk] at J F ⊢
    have HEr := Lib.hid (HE.out.up hup)
    obtain ⟨k0, k1, k2, k3⟩ := HEr.out.cells
    have HJ := Lib.hid J
    have HF := Lib.hid F
    have HUP := Lib.hid hup
    have HSS := Lib.hid hS
    have HK := Lib.hid hk
    rw [hk] at hT
    clear J F hup hS hk
    by_cases hj : j < 0
    · have g1 : ¬ (0 : Int) ≤ j := by omega
      have HFI := Lib.hid (walk_end HSS.out (.inl hj))
      go_wp2_with fail
      go_ret
      rw [HFI.out] at HJ
      exact ⟨_, rfl, HJ.out, HF.out, HUP.out⟩
    · have g1 : (0 : Int) ≤ j := by omega
      by_cases hlt : k < n
      · have g2 : (k : Int) < (n : Int) := by omega
        obtain ⟨x, rfl⟩ : ∃ x : Nat, j = x := ⟨j.toNat, by omega⟩
        have hx : x < n := by omega
        have hz := HW.out (ln + x)
        have hkl : ln + x < xs.length := by rw [HLL.out]; omega
        have HKL := Lib.hid hkl
        obtain ⟨z, ez⟩ : ∃ z, xs.getD (ln + x) 0 = z := ⟨_, rfl⟩
        obtain ⟨y, ey⟩ : ∃ y, belowN n z = y := ⟨_, rfl⟩
        rw [ez] at hz
        have HN := Lib.hid (show (T ++ [x]) ++ walkL n ln xs (n - (T ++ [x]).length) y = S by
          rw [← ey, ← ez]; exact walk_more HSS.out (by rw [HK.out]; exact hlt))
        have HY := Lib.hid (show -1 ≤ y ∧ y < n by rw [← ey]; exact belowN_in hz.1 n0)
        have HB := Lib.hid (And.intro ey hz)
        have HZ := Lib.hid ez
        clear ez ey hz hkl
        have g3 : (ln : Int) + (x : Int) < (L : Int) := by omega
        have g4 : (0 : Int) ≤ (ln : Int) + (x : Int) := by omega
        have e1 : ((ln : Int) + (x : Int)).toNat = ln + x := by omega
        have z4 : ln + x ≤ 8400000 := by omega
        obtain ⟨s3, s4⟩ := wrapS (a := ln) (b := x) z4
        clear z4
        go_upto_region 4 with (at_builtin; refine wpList_app rfl _ _ rfl rfl rfl (HJ.out.up (Up.alloc _ _)) (rd_one _ (x : Int)) (by rw [I_len, HK.out]; simp; omega) ?_; intro v5 w5 J5 G5 A5; obtain ⟨A5v, N5, c5, rfl⟩ := shapeI J5; have HJ5 := Lib.hid J5; have HU5 := Lib.hid (up_app (HUP.out.then_alloc _) G5 HF.out); have HF5 := Lib.hid (fresh_app HF.out (HUP.out.then_alloc (.cells #[.int .i64 (x : Int)] 3)).size A5); clear J5 G5 A5)
        clear k0 k1 k2 k3
        have HED := Lib.hid (HE.out.up HU5.out)
        obtain ⟨k0, k1, k2, k3⟩ := HED.out.cells
        have r0 := HED.out.mem.cells.1
        have rh := HED.out.mem.cell HKL.out
        rw [HLL.out] at r0
        rw [HZ.out] at rh
        go_region_held3 (fun w' => w'.cell? ⟨q, 0, none⟩ = some (.pointer (some ⟨p, 0, none⟩)) ∧ w'.cell? ⟨q, 2, none⟩ = some (.int .i64 ln) ∧ w'.cell? ⟨p, 0, none⟩ = some (.slice (some ⟨g, 0, none⟩) L L) ∧ w'.cell? ⟨g, ln + x, none⟩ = some (.int .u64 z)) ((first | exact ⟨k0, k2, r0, rh⟩))
          (first
            | (go_at_call 54; refine (rbelow_to (HED.out.up (up_drew w5)) HB.out.2.1 HB.out.2.2 HB.out.1).mono ?_; rintro e w9 ⟨rfl, rfl⟩))
        have hN5 : N5 = k + 1 := by
          obtain ⟨A9, c9, e9⟩ := HJ5.out.slice
          injection e9 with _ e9 _
          rw [e9, List.length_append, I_len, HK.out]; rfl
        subst hN5
        go_wp2_with fail
        go_roundw
        case rel => exact ⟨T ++ [x], y, by rw [List.length_append, HK.out]; simp; omega, rfl, HY.out.1, HY.out.2, HN.out, by rw [I_app]; exact HJ5.out.up (up_drew w5), HF5.out, HU5.out.trans (up_drew w5)⟩
        case measure => simp [nOf]; omega
      · have g2 : ¬ (k : Int) < (n : Int) := by omega
        have HFI := Lib.hid (walk_end HSS.out (.inr (by rw [HK.out]; omega)))
        go_wp2_with fail
        go_ret
        rw [HFI.out] at HJ
        exact ⟨_, rfl, HJ.out, HF.out, HUP.out⟩
end
end Go.Proofs.YtalglhgngedjoaaGreat
