/-
  Texts beneath SupplyAll, part 31: SupLone, SoloRun, SupRun, SupSolo.
-/
import Derived.Test.YtkopplnjomkleaaGreatPart30
/-
  One supply alone over the statements' own 'all' (Lone), with a Take (LoneT): what each call leaves.
-/
namespace Go.Proofs.YtkopplnjomkleaaGreat
open Go.RowKit
open W64
set_option maxRecDepth 100000
set_option linter.unusedSimpArgs false
structure Lone (W w : World) (l : Lia) (xs : List Int) (d : SuD) (vS vX : Value) (st : List Int) (R : Lb) : Prop where
  obj : Whole w l.a 51 (alRow l vS vX)
  sm : ∃ s : St, s.xs = xs ∧ Env w l.p l.g l.q0 0 l.lk l.n s ∧ Env w l.p l.g d.q 0 l.lk l.n s
  su : PSu w d.b (suRow l.p d.q l.c.ba d.qs d.ql) d.qs d.ql d.F l.m st R
  far : ∀ x ∈ d.F, x ≠ l.a ∧ x ≠ l.p ∧ x ≠ l.g ∧ x ≠ l.q0 ∧ x ≠ d.q
  nF : ∀ x ∈ d.F, W.heap.size ≤ x
  nw : W.heap.size ≤ l.p ∧ W.heap.size ≤ l.g
  up : Up W w
  gst : ∀ x o, l.gs x = some o → w.heap[x]? = some o ∧ x ∉ d.F ∧ x ≠ l.p ∧ x ≠ l.g
/-- The same supply with other blocks. -/
def SuD.re (d : SuD) (F : List Nat) : SuD := ⟨d.b, d.q, d.qs, d.ql, F⟩
structure LoneT (W w : World) (l : Lia) (xs : List Int) (d : SuD) (vS vX : Value) (st : List Int) (R : Lb) (bt : Nat) (O : List Nat) (mc : Mc) (ch sn : Int) : Prop where
  lone : Lone W w l xs d vS vX st R
  tk : UTkM w bt d.b d.q l.n mc ch sn O
  dis : ∀ x ∈ O, x ∉ d.F
  far : ∀ x ∈ O, x ≠ l.a ∧ x ≠ l.p ∧ x ≠ l.g ∧ x ≠ l.q0 ∧ x ≠ d.q
  nO : ∀ x ∈ O, W.heap.size ≤ x
  gO : ∀ x o, l.gs x = some o → x ∉ O
section
variable {W w w1 w' : World} {l : Lia} {xs xs' : List Int} {d : SuD} {vS vX : Value} {st st' : List Int} {R R' : Lb} {bt : Nat} {O F : List Nat} {mc mc' : Mc} {ch sn ch' sn' y i : Int}
theorem SAll.lone {s : St} {cnt : Int} {X : List RuD} (A : SAll W w l s xs cnt vS vX [d] X) (hg : l.gs = fun _ => none) : Lone W w l s.xs d vS vX [] Lb.zero :=
  ⟨A.obj, ⟨s, rfl, A.env, (A.su d (by simp)).2⟩, (A.su d (by simp)).1, fun x hx => by
    obtain ⟨⟨h1, h2, h3, h4, _⟩, _, _, h5⟩ := A.far d (by simp) x hx
    exact ⟨h1, h2, h3, h4, (h5 d (by simp)).symm⟩, A.nL d (by simp), ⟨A.nw.2.1, A.nw.2.2.1⟩, A.up, fun x o h => by rw [hg] at h; cases h⟩
theorem Lone.ups (A : Lone W w l xs d vS vX st R) (u : Up w w') : Lone W w' l xs d vS vX st R := by
  obtain ⟨s, h, E0, E1⟩ := A.sm
  exact ⟨A.obj.up u, ⟨s, h, E0.up u, E1.up u⟩, A.su.up u, A.far, A.nF, A.nw, A.up.trans u, fun x o h => ⟨u.heap (A.gst x o h).1, (A.gst x o h).2⟩⟩
theorem Lone.base {W0 : World} (A : Lone W w l xs d vS vX st R) (u : Up W0 W) : Lone W0 w l xs d vS vX st R :=
  ⟨A.obj, A.sm, A.su, A.far, fun x hx => Nat.le_trans u.size (A.nF x hx), ⟨Nat.le_trans u.size A.nw.1, Nat.le_trans u.size A.nw.2⟩, u.trans A.up, A.gst⟩
theorem Lone.lts (A : Lone W w l xs d vS vX st R) : l.a < w.heap.size ∧ l.p < w.heap.size ∧ l.g < w.heap.size ∧ l.q0 < w.heap.size ∧ d.q < w.heap.size := by
  obtain ⟨s, h, E0, E1⟩ := A.sm
  exact ⟨A.obj.lt, E0.mem.top.lt, E0.mem.row.lt, E0.stk.lt, E1.stk.lt⟩
theorem Lone.next (A : Lone W w l xs d vS vX st R) {F' : List Nat} (N : Next w d.F F') : (∀ x ∈ F', x ≠ l.a ∧ x ≠ l.p ∧ x ≠ l.g ∧ x ≠ l.q0 ∧ x ≠ d.q) ∧ ∀ x ∈ F', W.heap.size ≤ x := by
  obtain ⟨l1, l2, l3, l4, l5⟩ := A.lts
  have := A.up.size
  refine ⟨fun x hx => ?_, fun x hx => ?_⟩
  · rcases N x hx with h | h
    · exact A.far x h
    · omega
  · rcases N x hx with h | h
    · exact A.nF x h
    · omega
theorem Lone.ins (A : Lone W w l xs d vS vX st R) : l.a ∉ d.F ∧ l.p ∉ d.F ∧ l.g ∉ d.F ∧ l.q0 ∉ d.F ∧ d.q ∉ d.F :=
  ⟨fun h => (A.far _ h).1 rfl, fun h => (A.far _ h).2.1 rfl, fun h => (A.far _ h).2.2.1 rfl, fun h => (A.far _ h).2.2.2.1 rfl, fun h => (A.far _ h).2.2.2.2 rfl⟩
/-- The guests behind a step that turns other blocks. -/
theorem Lone.guests (A : Lone W w l xs d vS vX st R) {F' t : List Nat} (N : Next w d.F F') (E : Else t w w') (ht : ∀ x o, l.gs x = some o → x ∉ t) : ∀ x o, l.gs x = some o → w'.heap[x]? = some o ∧ x ∉ F' ∧ x ≠ l.p ∧ x ≠ l.g := by
  intro x o h
  obtain ⟨h1, h2, h3⟩ := A.gst x o h
  refine ⟨E.heap h1 (ht x o h), fun hx => ?_, h3⟩
  rcases N x hx with h4 | h4
  · exact h2 h4
  · have := some_lt h1; omega
/-- The supply is turned. -/
theorem Lone.turned (A : Lone W w l xs d vS vX st R) (T : Turned w w' d.F fun F' => PSu w' d.b (suRow l.p d.q l.c.ba d.qs d.ql) d.qs d.ql F' l.m st' R') : ∃ F', Lone W w' l xs (d.re F') vS vX st' R' := by
  obtain ⟨F', S, N, E⟩ := T
  obtain ⟨i1, i2, i3, i4, i5⟩ := A.ins
  obtain ⟨n1, n2⟩ := A.next N
  obtain ⟨s, h, E0, E1⟩ := A.sm
  exact ⟨F', E.whole A.obj i1, ⟨s, h, E0.else E i2 i3 i4, E1.else E i2 i3 i5⟩, S, n1, n2, A.nw, Else.up_new A.up E (fun x hx => A.nF x hx), A.guests N E (fun x o h => (A.gst x o h).2.1)⟩
/-- A cell of the memory is laid. -/
theorem Lone.lay (A : Lone W w l xs d vS vX st R) {s : St} (hs : s.xs = xs) (m : Mem w' l.p l.g (s.lay i y)) (E : Else [l.p, l.g] w w') (h0 : 0 ≤ y) (h1 : y < 18446744073709551616) (ok : s.Ok) : Lone W w' l (xs.set i.toNat y) d vS vX st R := by
  obtain ⟨s1, h, E0, E1⟩ := A.sm
  have ok' : (s.lay i y).Ok := ok.lay i h0 h1
  have hl : (s.lay i y).xs.length = s1.xs.length := by rw [lay_len, hs, h]
  have ha : l.a ∉ [l.p, l.g] := by simp; exact ⟨A.obj.ne_type E0.mem.top (by decide), A.obj.ne_type E0.mem.row (by decide)⟩
  refine ⟨E.whole A.obj ha, ⟨s.lay i y, by unfold St.lay; dsimp only; rw [hs], E0.went m E (by simp [E0.np, E0.ng]) ok' hl, E1.went m E (by simp [E1.np, E1.ng]) ok' hl⟩, A.su.else E (fun x hx => by have := A.far x hx; simp [this.2.1, this.2.2.1]), A.far, A.nF, A.nw, Else.up_new A.up E (fun x hx => by simp at hx; rcases hx with h | h; rw [h]; exact A.nw.1; rw [h]; exact A.nw.2), A.guests (Next.refl _ _) E (fun x o h => by have := (A.gst x o h).2.2; simp; exact this)⟩
/-- A Take is made. -/
theorem LoneT.made (A : Lone W w l xs d vS vX st R) (M : UTkMade w w' bt d.b l.p d.q l.c.ba d.qs d.ql l.n d.F l.m st' R' mc ch sn) : ∃ F' O, LoneT W w' l xs (d.re F') vS vX st' R' bt O mc ch sn := by
  obtain ⟨O, G, nO, F', ⟨S, dis⟩, N, E⟩ := M
  obtain ⟨F2, L⟩ : ∃ F2, F2 = F' ∧ Lone W w' l xs (d.re F2) vS vX st' R' := by
    obtain ⟨i1, i2, i3, i4, i5⟩ := A.ins
    obtain ⟨n1, n2⟩ := A.next N
    obtain ⟨s, h, E0, E1⟩ := A.sm
    exact ⟨F', rfl, E.whole A.obj i1, ⟨s, h, E0.else E i2 i3 i4, E1.else E i2 i3 i5⟩, S, n1, n2, A.nw, Else.up_new A.up E (fun x hx => A.nF x hx), A.guests N E (fun x o h => (A.gst x o h).2.1)⟩
  obtain ⟨rfl, L⟩ := L
  obtain ⟨l1, l2, l3, l4, l5⟩ := A.lts
  have := A.up.size
  have e : (d.re F2).q = d.q := rfl
  exact ⟨F2, O, L, G, dis, fun x hx => by have := nO x hx; omega, fun x hx => by have := nO x hx; omega, fun x o h hx => by have := nO x hx; have := some_lt (A.gst x o h).1; omega⟩
theorem LoneT.in_ (A : LoneT W w l xs d vS vX st R bt O mc ch sn) : ∃ s : St, s.xs = xs ∧ UTkIn w bt d.b l.p l.g d.q l.lk l.n s l.c.ba d.qs d.ql d.F O l.m st R mc ch sn ∧ Env w l.p l.g l.q0 0 l.lk l.n s := by
  obtain ⟨s, h, E0, E1⟩ := A.lone.sm
  refine ⟨s, h, ⟨A.lone.su, A.tk, E1, A.dis, fun x hx => ?_⟩, E0⟩
  rcases hx with hx | hx
  · have := A.lone.far x hx; exact ⟨this.2.1, this.2.2.1, this.2.2.2.2⟩
  · have := A.far x hx; exact ⟨this.2.1, this.2.2.1, this.2.2.2.2⟩
/-- Behind an access. -/
theorem LoneT.out (A : LoneT W w l xs d vS vX st R bt O mc ch sn) (hlen : xs'.length = xs.length) {c : Int} (U : UTkOut w w' bt d.b l.p l.g d.q l.lk l.n c xs' l.c.ba d.qs d.ql d.F O l.m st' R' mc' ch' sn') : ∃ F' O', LoneT W w' l xs' (d.re F') vS vX st' R' bt O' mc' ch' sn' := by
  obtain ⟨F', O', s', hc, hx, J, NF, NO, E⟩ := U
  obtain ⟨s, hs, I, E0⟩ := A.in_
  obtain ⟨l1, l2, l3, l4, l5⟩ := A.lone.lts
  obtain ⟨i1, i2, i3, i4, i5⟩ := A.lone.ins
  obtain ⟨n1, n2⟩ := A.lone.next NF
  have hu := A.lone.up.size
  have ha : l.a ∉ l.p :: l.g :: (d.F ++ O) := by
    simp
    exact ⟨A.lone.obj.ne_type E0.mem.top (by decide), A.lone.obj.ne_type E0.mem.row (by decide), i1, fun h => (A.far _ h).1 rfl⟩
  have hq0 : l.q0 ∉ l.p :: l.g :: (d.F ++ O) := by
    simp
    exact ⟨E0.np, E0.ng, i4, fun h => (A.far _ h).2.2.2.1 rfl⟩
  have E0' := E0.went J.env.mem E hq0 J.env.ok (by rw [hx, hs, hlen])
  obtain ⟨f1, f2, f3⟩ := I.env.lts
  refine ⟨F', O', ⟨E.whole A.lone.obj ha, ⟨s', hx, E0', J.env⟩, J.su, n1, n2, A.lone.nw, Else.up_new A.lone.up E (fun x h => ?_), A.lone.guests NF E (fun x o h => ?_)⟩, J.tk, J.dis, fun x h => ?_, fun x h => ?_, fun x o h hx => ?_⟩
  · simp at h
    rcases h with h | h | h | h
    · rw [h]; exact A.lone.nw.1
    · rw [h]; exact A.lone.nw.2
    · exact A.lone.nF x h
    · exact A.nO x h
  · have h1 := (A.lone.gst x o h).2
    have h2 := A.gO x o h
    simp
    exact ⟨h1.2.1, h1.2.2, h1.1, h2⟩
  · rcases NO x h with h2 | h2
    · exact A.far x h2
    · have e : (d.re F').q = d.q := rfl
      rw [e]
      omega
  · rcases NO x h with h2 | h2
    · exact A.nO x h2
    · omega
  · rcases NO x hx with h2 | h2
    · exact A.gO x o h h2
    · have := some_lt (A.lone.gst x o h).1; omega
end
end Go.Proofs.YtkopplnjomkleaaGreat

/-
  One alone over a stack, as plain data: a Pop of as many as there are (at most batch) in so many accesses, a Push in so many. No program is named here.
-/
namespace Go.Proofs.YtkopplnjomkleaaGreat
open Go.RowKit
open W64
set_option maxRecDepth 100000
def Po.one (n ln : Nat) (s : List Int × Po) : List Int × Po := if s.2.fin = true then s else (s.2.xs 0 s.1, s.2.go n 0 ln s.1)
def Po.many (n ln : Nat) (s : List Int × Po) : Nat → List Int × Po
  | 0 => s
  | k + 1 => Po.one n ln (Po.many n ln s k)
def Pu.one (n ln : Nat) (s : List Int × Pu) : List Int × Pu := if s.2.fin = true then s else (s.2.xs n 0 ln s.1, s.2.go 0 s.1)
def Pu.many (n ln : Nat) (s : List Int × Pu) : Nat → List Int × Pu
  | 0 => s
  | k + 1 => Pu.one n ln (Pu.many n ln s k)
section
variable {n ln batch j : Nat} {xs : List Int} {S : List Nat}
/-- What the cells tell: the stack is S. -/
structure Tells (n ln : Nat) (xs : List Int) (S : List Nat) : Prop where
  lt : ∀ x ∈ S, x < n
  chain : Stk.Chain (lkX ln xs) S
  head : xs.getD 0 0 % 4294967296 = Stk.linkOf S
theorem Tells.of_gi {t : Nat} {m : Nat → Stk.Mach} {has : Nat → List Nat} (G : GX n 0 ln xs t S m has) : Tells n ln xs S := ⟨fun _ hx => G.mem_lt hx, G.chain, G.mod⟩
theorem Tells.top (T : Tells n ln xs S) : topN n (xs.getD 0 0) = Stk.linkOf S - 1 := by
  have := Stk.linkOf_le T.lt
  have := Stk.linkOf_nonneg S
  have := T.head
  unfold topN; rw [if_neg (by omega)]; omega
theorem Tells.below (T : Tells n ln xs S) (h : j < S.length) : belowN n (xs.getD (ln + S.getD j 0) 0) = Stk.linkOf (S.drop (j + 1)) - 1 := by
  have h1 : xs.getD (ln + S.getD j 0) 0 = Stk.linkOf (S.drop (j + 1)) := Stk.Chain.get (lk := lkX ln xs) T.chain h
  have h2 := Stk.linkOf_le (n := n) (S := S.drop (j + 1)) (fun x hx => T.lt x (List.mem_of_mem_drop hx))
  rw [h1]; unfold belowN; rw [if_neg (by omega)]
theorem one_run {P : Po} (h : P.fin = false) : Po.one n ln (xs, P) = (P.xs 0 xs, P.go n 0 ln xs) := by unfold Po.one; rw [if_neg (by simp [h])]
theorem xs_same {P : Po} (h : P.i ≠ 2) : P.xs 0 xs = xs := by unfold Po.xs; rw [if_neg (fun e => h e.1)]
theorem go0_none {b : Nat} {d o : Int} {l : List Nat} {f : Bool} (h : topN n (xs.getD 0 0) = -1) : Po.go n 0 ln xs ⟨b, 0, d, o, l, f⟩ = ⟨b, 0, d, xs.getD 0 0, [], true⟩ := by
  unfold Po.go; dsimp only; rw [if_pos rfl, if_pos h]
theorem go0_some {b x : Nat} {d o : Int} {l : List Nat} {f : Bool} (h : topN n (xs.getD 0 0) = (x : Int)) : Po.go n 0 ln xs ⟨b, 0, d, o, l, f⟩ = ⟨b, 1, d, xs.getD 0 0, [x], false⟩ := by
  unfold Po.go; dsimp only; rw [if_pos rfl, if_neg (by rw [h]; omega), h, Int.toNat_natCast]
theorem go1_more {b x : Nat} {d o : Int} {l : List Nat} {f : Bool} (h : belowN n (xs.getD (ln + Po.last ⟨b, 1, d, o, l, f⟩) 0) = (x : Int)) (hm : l.length ≠ b) : Po.go n 0 ln xs ⟨b, 1, d, o, l, f⟩ = ⟨b, 1, x, o, l ++ [x], false⟩ := by
  unfold Po.go; dsimp only; rw [if_neg (by decide), if_pos rfl, h, if_neg (by rintro (e | e); omega; exact hm e), Int.toNat_natCast]
theorem go1_stop {b : Nat} {d o y : Int} {l : List Nat} {f : Bool} (h : belowN n (xs.getD (ln + Po.last ⟨b, 1, d, o, l, f⟩) 0) = y) (hm : y = -1 ∨ l.length = b) : Po.go n 0 ln xs ⟨b, 1, d, o, l, f⟩ = ⟨b, 2, y, o, l, false⟩ := by
  unfold Po.go; dsimp only; rw [if_neg (by decide), if_pos rfl, h, if_pos hm]
theorem go2_yes {b : Nat} {d : Int} {l : List Nat} {f : Bool} : Po.go n 0 ln xs ⟨b, 2, d, xs.getD 0 0, l, f⟩ = ⟨b, 0, d, xs.getD 0 0, l, true⟩ ∧ Po.xs 0 xs ⟨b, 2, d, xs.getD 0 0, l, f⟩ = xs.set 0 (nextW (xs.getD 0 0) d) := by
  constructor
  · unfold Po.go; dsimp only; rw [if_neg (by decide), if_neg (by decide), decide_eq_true rfl]
  · unfold Po.xs; rw [if_pos ⟨rfl, rfl⟩]
theorem pop_empty (T : Tells n ln xs []) (batch : Nat) : Po.many n ln (xs, ⟨batch, 0, 0, 0, [], false⟩) 1 = (xs, ⟨batch, 0, 0, xs.getD 0 0, [], true⟩) := by
  show Po.one n ln (xs, _) = _
  rw [one_run rfl, xs_same (by simp), go0_none (by rw [T.top]; rfl)]
/-- What a Pop has seen behind j accesses, while it loads. -/
theorem pop_loads (T : Tells n ln xs S) (hb : 1 ≤ batch) : ∀ j, 1 ≤ j → j ≤ S.length → j ≤ batch → ∃ d, Po.many n ln (xs, ⟨batch, 0, 0, 0, [], false⟩) j = (xs, ⟨batch, 1, d, xs.getD 0 0, S.take j, false⟩)
  | 0, h, _, _ => by omega
  | 1, _, h1, _ => by
    have ht := T.top
    obtain ⟨x, r, rfl⟩ : ∃ x r, S = x :: r := by cases S with
      | nil => simp at h1
      | cons x r => exact ⟨x, r, rfl⟩
    have h2 : topN n (xs.getD 0 0) = (x : Int) := by rw [ht]; simp [Stk.linkOf]
    refine ⟨0, ?_⟩
    show Po.one n ln (xs, _) = _
    rw [one_run rfl, xs_same (by simp), go0_some h2]
    rfl
  | j + 2, _, h1, h2 => by
    obtain ⟨d, e⟩ := pop_loads T hb (j + 1) (by omega) (by omega) (by omega)
    have hl : Po.last ⟨batch, 1, d, xs.getD 0 0, S.take (j + 1), false⟩ = S.getD j 0 := by
      unfold Po.last
      dsimp only
      rw [List.length_take, show min (j + 1) S.length - 1 = j by omega]
      simp only [List.getD, List.getElem?_take]
      rw [if_pos (by omega)]
    have hB := T.below (j := j) (by omega)
    have hd := Stk.linkOf_drop (S := S) (j := j + 1) (by omega)
    have hB2 : belowN n (xs.getD (ln + S.getD j 0) 0) = (S.getD (j + 1) 0 : Nat) := by rw [hB, hd]; omega
    refine ⟨((S.getD (j + 1) 0 : Nat) : Int), ?_⟩
    show Po.one n ln (Po.many n ln _ (j + 1)) = _
    rw [e, one_run rfl, xs_same (by simp), go1_more (by rw [hl]; exact hB2) (by rw [List.length_take]; omega), Stk.take_more (by omega)]
/-- A Pop alone: it has the first ones, and the head is turned. -/
theorem pop_alone (T : Tells n ln xs S) (hb : 1 ≤ batch) (h0 : S ≠ []) : Po.many n ln (xs, ⟨batch, 0, 0, 0, [], false⟩) ((S.take batch).length + 2) =
    (xs.set 0 (nextW (xs.getD 0 0) (Stk.linkOf (S.drop batch) - 1)), ⟨batch, 0, Stk.linkOf (S.drop batch) - 1, xs.getD 0 0, S.take batch, true⟩) := by
  have lp := List.length_pos_iff.2 h0
  obtain ⟨k, hk⟩ : ∃ k, (S.take batch).length = k := ⟨_, rfl⟩
  have hk2 : k = min batch S.length := by rw [← hk, List.length_take]
  obtain ⟨d, e⟩ := pop_loads T hb k (by omega) (by omega) (by omega)
  have hT : S.take k = S.take batch := by
    rcases Nat.le_total batch S.length with h | h
    · rw [hk2, Nat.min_eq_left h]
    · rw [hk2, Nat.min_eq_right h, List.take_of_length_le (Nat.le_refl _), List.take_of_length_le h]
  have hD : S.drop k = S.drop batch := by
    rcases Nat.le_total batch S.length with h | h
    · rw [hk2, Nat.min_eq_left h]
    · rw [hk2, Nat.min_eq_right h, List.drop_of_length_le (Nat.le_refl _), List.drop_of_length_le h]
  rw [hT] at e
  have hl : Po.last ⟨batch, 1, d, xs.getD 0 0, S.take batch, false⟩ = S.getD (k - 1) 0 := by
    unfold Po.last
    dsimp only
    rw [hk, ← hT]
    simp only [List.getD, List.getElem?_take]
    rw [if_pos (by omega)]
  have hB := T.below (j := k - 1) (by omega)
  rw [show k - 1 + 1 = k by omega, hD] at hB
  have hstop : Stk.linkOf (S.drop batch) - 1 = -1 ∨ (S.take batch).length = batch := by
    rcases Nat.le_total batch S.length with h | h
    · exact .inr (by rw [hk]; omega)
    · exact .inl (by rw [List.drop_of_length_le h]; rfl)
  have e1 : Po.many n ln (xs, ⟨batch, 0, 0, 0, [], false⟩) (k + 1) = (xs, ⟨batch, 2, Stk.linkOf (S.drop batch) - 1, xs.getD 0 0, S.take batch, false⟩) := by
    show Po.one n ln (Po.many n ln _ k) = _
    rw [e, one_run rfl, xs_same (by simp), go1_stop (by rw [hl]; exact hB) hstop]
  rw [hk]
  show Po.one n ln (Po.many n ln _ (k + 1)) = _
  rw [e1, one_run rfl, (go2_yes (n := n) (ln := ln)).1, (go2_yes (n := n) (ln := ln)).2]
theorem many_fin {s : List Int × Po} {j : Nat} (h : (Po.many n ln s j).2.fin = true) : ∀ k, Po.many n ln s (j + k) = Po.many n ln s j
  | 0 => rfl
  | k + 1 => by
    show Po.one n ln (Po.many n ln s (j + k)) = _
    rw [many_fin h k]
    unfold Po.one
    rw [if_pos h]
end
end Go.Proofs.YtkopplnjomkleaaGreat

/-
  The statements' own take (layer 13): a Take by itself, whatever its machine is; a Pop alone, access by access.
-/
namespace Go.Proofs.YtkopplnjomkleaaGreat
open Go.RowKit
open W64
set_option maxRecDepth 100000
set_option linter.unusedSimpArgs false
/-- While take goes on. -/
def TkRel (S : Nat → Nat → World → Prop) (bt K : Nat) (i n : Value) (w : World) : Prop := ∃ j : Nat, i = .int .i64 (j : Int) ∧ n = .int .i64 (j : Int) ∧ j ≤ K ∧ S bt j w
theorem tk_meas {j K : Nat} (h : j < K) (h2 : K ≤ 59) : 60 - (intOf (.int .i64 ((j : Int) + 1))).toNat < 60 - (intOf (.int .i64 (j : Int))).toNat := by
  have e : (intOf (.int .i64 ((j : Int) + 1))).toNat = j + 1 := rfl
  have e2 : (intOf (.int .i64 (j : Int))).toNat = j := rfl
  rw [e, e2]
  omega
section
variable {w : World} {b K : Nat} {x : Int} {y : Bool}
set_option maxHeartbeats 4000000 in
theorem take_run (S : Nat → Nat → World → Prop) (h0 : Calls Tryz.prog 22 #[.pointer (some ⟨b, 0, none⟩)] w fun e w' => ∃ bt, e = .returned (.pointer (some ⟨bt, 0, none⟩)) ∧ S bt 0 w')
    (h1 : ∀ bt i w, i < K → S bt i w → Calls Tryz.prog 24 #[.pointer (some ⟨bt, 0, none⟩)] w fun e w' => e = .returned (.bool true) ∧ S bt (i + 1) w')
    (h2 : ∀ bt w, S bt K w → Calls Tryz.prog 24 #[.pointer (some ⟨bt, 0, none⟩)] w fun e w' => e = .returned (.bool false) ∧ w = w')
    (h3 : ∀ bt w, S bt K w → Calls Tryz.prog 25 #[.pointer (some ⟨bt, 0, none⟩)] w fun e w' => e = .returned (.tuple #[.int .i64 x, .bool y]) ∧ S bt K w') (hK : K ≤ 59) :
    Calls Tryz.prog 14 #[.pointer (some ⟨b, 0, none⟩)] w fun e w' => e = .returned (.tuple #[.int .i64 x, .bool y, .int .i64 (K : Int)]) ∧ ∃ bt, S bt K w' := by
  have H0 := Lib.hid h0
  have H1 := Lib.hid h1
  have H2 := Lib.hid h2
  have H3 := Lib.hid h3
  have HK := Lib.hid hK
  clear h0 h1 h2 h3 hK
  go_enter Tryz.func14, Tryz.ntmps14
  go_wp2_with (go_at_call 22; (with_reducible refine H0.out.mono ?_); rintro e w1 ⟨bt, rfl, S1⟩; have HS1 := Lib.hid S1; clear S1)
  go_loopw [7, 6] (fun i n wr => TkRel S bt K i n wr) (fun i _ _ => 60 - (intOf i).toNat)
  case atStart => exact ⟨0, rfl, rfl, Nat.zero_le _, HS1.out⟩
  case round =>
    obtain ⟨j, rfl, rfl, hj, S2⟩ := hrel
    clear HS1
    have HS2 := Lib.hid S2
    have i1 : (j : Int) < 60 := by have := HK.out; omega
    clear S2
    by_cases hlt : j < K
    · have HLT := Lib.hid hlt
      clear hlt hj
      go_wp2_with (go_at_call 24; (with_reducible refine (H1.out _ _ _ HLT.out HS2.out).mono ?_); rintro e w3 ⟨rfl, S3⟩; have HS3 := Lib.hid S3; clear S3)
      go_roundw
      case rel => exact ⟨j + 1, rfl, rfl, HLT.out, HS3.out⟩
      case measure => exact tk_meas HLT.out HK.out
    · have hjK : j = K := by omega
      subst hjK
      clear hlt hj
      go_wp2_with (first
        | (go_at_call 24; (with_reducible refine (H2.out _ _ HS2.out).mono ?_); rintro e w3 ⟨rfl, rfl⟩)
        | (go_at_call 25; (with_reducible refine (H3.out _ _ HS2.out).mono ?_); rintro e w4 ⟨rfl, S4⟩; have HS4 := Lib.hid S4; clear S4))
      go_ret3
      exact ⟨rfl, _, HS4.out⟩
end
/-! ### A Pop alone -/
section
variable {n ln batch : Nat} {xs : List Int} {S : List Nat}
theorem pop_mid (T : Tells n ln xs S) (hb : 1 ≤ batch) (h0 : S ≠ []) : ∀ i, i < (S.take batch).length + 2 → ∃ P, Po.many n ln (xs, Po.new batch) i = (xs, P) ∧ P.fin = false := by
  intro i hi
  have lp := List.length_pos_iff.2 h0
  obtain ⟨k, hk⟩ : ∃ k, (S.take batch).length = k := ⟨_, rfl⟩
  have hk2 : k = min batch S.length := by rw [← hk, List.length_take]
  rw [hk] at hi
  by_cases h1 : i = 0
  · subst h1; exact ⟨_, rfl, rfl⟩
  by_cases h2 : i ≤ k
  · obtain ⟨d, e⟩ := pop_loads T hb i (by omega) (by omega) (by omega)
    exact ⟨_, e, rfl⟩
  have h3 : i = k + 1 := by omega
  subst h3
  obtain ⟨d, e⟩ := pop_loads T hb k (by omega) (by omega) (by omega)
  refine ⟨Po.go n 0 ln xs ⟨batch, 1, d, xs.getD 0 0, S.take k, false⟩, ?_, ?_⟩
  · show Po.one n ln (Po.many n ln _ k) = _
    unfold Po.new
    rw [e, one_run rfl, xs_same (by simp)]
  · unfold Po.go
    dsimp only
    rw [if_neg (by decide), if_pos rfl]
    split <;> rfl
end
end Go.Proofs.YtkopplnjomkleaaGreat

/-
  One supply alone: the statements' own take: out of the stash, out of the pool, behind a look at the epoch.
-/
namespace Go.Proofs.YtkopplnjomkleaaGreat
open Go.RowKit
open W64
set_option maxRecDepth 100000
set_option linter.unusedSimpArgs false
section
variable {w w' : World} {bt b p g q qs ql lk n : Nat} {F O : List Nat} {m ba sn ch seen now : Int} {st ys : List Int} {R : Lb} {s : St} {P : Po}
theorem utkStep_go (J : UTkIn w bt b p g q lk n s ba qs ql F O m st R (.pop seen P) ch sn) (hf : P.fin = false) (hg : (P.go n 0 lk s.xs).fin = false) :
    Calls Tryz.prog 24 #[.pointer (some ⟨bt, 0, none⟩)] w fun e w' => e = .returned (.bool true) ∧ UTkOut w w' bt b p g q lk n (wrap64 (s.c + 1)) (P.xs 0 s.xs) ba qs ql F O m st R (.pop seen (P.go n 0 lk s.xs)) (-1) seen := by
  obtain ⟨_, _, bp, v, _, T, _⟩ := J.tk
  exact ustep_pop (T.cell rfl) (utkPool_go J hf hg)
theorem utkStep_none (J : UTkIn w bt b p g q lk n s ba qs ql F O m st R (.pop seen P) ch sn) (hf : P.fin = false) (hg : (P.go n 0 lk s.xs).fin = true) (hl : (P.go n 0 lk s.xs).l = []) :
    Calls Tryz.prog 24 #[.pointer (some ⟨bt, 0, none⟩)] w fun e w' => e = .returned (.bool true) ∧ UTkOut w w' bt b p g q lk n (wrap64 (s.c + 1)) (P.xs 0 s.xs) ba qs ql F O m st R .idle (-1) seen := by
  obtain ⟨_, _, bp, v, _, T, _⟩ := J.tk
  exact ustep_pop (T.cell rfl) (utkPool_none J hf hg hl)
theorem utkStep_some {x : Nat} {r : List Nat} (J : UTkIn w bt b p g q lk n s ba qs ql F O m st R (.pop seen P) ch sn) (hf : P.fin = false) (hg : (P.go n 0 lk s.xs).fin = true) (hl : (P.go n 0 lk s.xs).l = x :: r) (hs : st.length + r.length ≤ 8000) :
    Calls Tryz.prog 24 #[.pointer (some ⟨bt, 0, none⟩)] w fun e w' => e = .returned (.bool true) ∧ UTkOut w w' bt b p g q lk n (wrap64 (s.c + 1)) (P.xs 0 s.xs) ba qs ql F O m (st ++ I r) R .idle (x : Int) seen := by
  obtain ⟨_, _, bp, v, _, T, _⟩ := J.tk
  exact ustep_pop (T.cell rfl) (utkPool_some J hf hg hl hs)
theorem utkStep_yes {y : Int} (J : UTkIn w bt b p g q lk n s ba qs ql F O m [] R .look ch sn) (hx : cutE (s.xs.getD 2 0) = now) (h2 : 2 < s.xs.length) (hr : R.outs now = ys ++ [y]) (hy : 0 ≤ y) (hs : R.size ≤ 8000) (hl : (R.outs now).length ≤ 8000) :
    Calls Tryz.prog 24 #[.pointer (some ⟨bt, 0, none⟩)] w fun e w' => e = .returned (.bool true) ∧ UTkOut w w' bt b p g q lk n (wrap64 (s.c + 1)) s.xs ba qs ql F O m ys (R.rest now) .idle y now := by
  obtain ⟨_, _, _, T⟩ := J.tk
  exact ustep_look (T.cell rfl) (utkLook_yes J hx h2 hr hy hs hl)
theorem utkStep_pop {most : Nat} (J : UTkIn w bt b p g q lk n s ba qs ql F O m [] R .look ch sn) (hx : cutE (s.xs.getD 2 0) = now) (h2 : 2 < s.xs.length) (hr : R.outs now = []) (hm : min (max ba 1) 8 = most) (hs : R.size ≤ 8000) (hl : (R.outs now).length ≤ 8000) :
    Calls Tryz.prog 24 #[.pointer (some ⟨bt, 0, none⟩)] w fun e w' => e = .returned (.bool true) ∧ UTkOut w w' bt b p g q lk n (wrap64 (s.c + 1)) s.xs ba qs ql F O m [] (R.rest now) (.pop now (Po.new most)) (-1) now := by
  obtain ⟨_, _, _, T⟩ := J.tk
  exact ustep_look (T.cell rfl) (utkLook_pop J hx h2 hr hm hs hl)
end
section
variable {W w w1 w' : World} {l : Lia} {xs xs' : List Int} {d : SuD} {vS vX : Value} {st ys : List Int} {R : Lb} {bt K most : Nat} {O F : List Nat} {sn ch y now : Int} {S : List Nat}
theorem re_re (d : SuD) (F G : List Nat) : (d.re F).re G = d.re G := rfl
/-- A Pop alone behind i accesses: it goes on, or it is done with ch, the stash then st. -/
def PSt (W : World) (l : Lia) (d : SuD) (vS vX : Value) (R : Lb) (xs xsK : List Int) (most K : Nat) (sn : Int) (st : List Int) (ch : Int) (bt i : Nat) (w : World) : Prop :=
  (i < K → ∃ F O P, Po.many l.n l.lk (xs, Po.new most) i = (xs, P) ∧ P.fin = false ∧ LoneT W w l xs (d.re F) vS vX [] R bt O (.pop sn P) (-1) sn) ∧ (i = K → ∃ F O, LoneT W w l xsK (d.re F) vS vX st R bt O .idle ch sn)
/-- One access of a Pop alone. -/
theorem pst_step {PK : Po} {i : Nat} (hmid : ∀ i, i < K → ∃ P, Po.many l.n l.lk (xs, Po.new most) i = (xs, P) ∧ P.fin = false) (hK : Po.many l.n l.lk (xs, Po.new most) K = (xs', PK)) (hf : PK.fin = true)
    (hl : (PK.l = [] ∧ st = [] ∧ ch = -1) ∨ ∃ x r, PK.l = x :: r ∧ st = I r ∧ ch = (x : Int) ∧ r.length ≤ 8) (hlen : xs'.length = xs.length) (hi : i < K) (X : PSt W l d vS vX R xs xs' most K sn st ch bt i w) :
    Calls Tryz.prog 24 #[.pointer (some ⟨bt, 0, none⟩)] w fun e w' => e = .returned (.bool true) ∧ PSt W l d vS vX R xs xs' most K sn st ch bt (i + 1) w' := by
  obtain ⟨F, O, P, hP, hPf, A⟩ := X.1 hi
  obtain ⟨s, hs, J, E0⟩ := A.in_
  have h1 : Po.many l.n l.lk (xs, Po.new most) (i + 1) = (P.xs 0 xs, P.go l.n 0 l.lk xs) := by
    show Po.one l.n l.lk (Po.many l.n l.lk _ i) = _
    rw [hP]; exact one_run hPf
  by_cases hn : i + 1 < K
  · obtain ⟨P', hP', hPf'⟩ := hmid (i + 1) hn
    rw [h1] at hP'
    injection hP' with e1 e2
    have hg : (P.go l.n 0 l.lk s.xs).fin = false := by rw [hs, e2]; exact hPf'
    refine (utkStep_go J hPf hg).mono ?_
    rintro e w' ⟨rfl, U⟩
    rw [hs, e1, e2] at U
    obtain ⟨F', O', A'⟩ := A.out rfl U
    exact ⟨rfl, fun _ => ⟨F', O', P', by rw [h1, e1, e2], hPf', A'⟩, fun h => by omega⟩
  · have hk : i + 1 = K := by omega
    rw [hk, hK] at h1
    injection h1 with e1 e2
    have hg : (P.go l.n 0 l.lk s.xs).fin = true := by rw [hs, ← e2]; exact hf
    rcases hl with ⟨h2, h3, h4⟩ | ⟨x, r, h2, h3, h4, h5⟩
    · refine (utkStep_none J hPf hg (by rw [hs, ← e2]; exact h2)).mono ?_
      rintro e w' ⟨rfl, U⟩
      rw [hs, ← e1] at U
      obtain ⟨F', O', A'⟩ := A.out hlen U
      exact ⟨rfl, fun h => by omega, fun _ => ⟨F', O', by rw [h3, h4]; exact A'⟩⟩
    · refine (utkStep_some J hPf hg (by rw [hs, ← e2]; exact h2) (by simp; omega)).mono ?_
      rintro e w' ⟨rfl, U⟩
      rw [hs, ← e1] at U
      obtain ⟨F', O', A'⟩ := A.out hlen U
      exact ⟨rfl, fun h => by omega, fun _ => ⟨F', O', by rw [h3, h4]; exact A'⟩⟩
theorem LoneT.ups (A : LoneT W w l xs d vS vX st R bt O .idle ch sn) (u : Up w w') : LoneT W w' l xs d vS vX st R bt O .idle ch sn := by
  obtain ⟨h1, h2, pv, T⟩ := A.tk
  exact ⟨A.lone.ups u, ⟨h1, fun x hx => Nat.lt_of_lt_of_le (h2 x hx) u.size, pv, T.up u⟩, A.dis, A.far, A.nO, A.gO⟩
/-- What is left: the supply alone again. -/
theorem LoneT.rest (A : LoneT W w l xs d vS vX st R bt O .idle ch sn) : Lone W w l xs d vS vX st R := A.lone
/-- take, out of the stash. -/
theorem take_kept (A : Lone W w l xs d vS vX (st ++ [y]) R) (h0 : 0 ≤ y) :
    Calls Tryz.prog 14 #[.pointer (some ⟨d.b, 0, none⟩)] w fun e w' => e = .returned (.tuple #[.int .i64 y, .bool true, .int .i64 0]) ∧ ∃ F, Lone W w' l xs (d.re F) vS vX st R := by
  have ec : chI y = y := by unfold chI; rw [if_neg (by omega)]
  have eb : chB y = true := by unfold chB; exact decide_eq_true h0
  refine (take_run (K := 0) (x := y) (y := true) (fun bt _ w => ∃ F O, LoneT W w l xs (d.re F) vS vX st R bt O .idle y (-1)) ((utkTake_yes (n := l.n) A.su h0).mono ?_) (fun _ _ _ h => by omega) (fun bt w ⟨F, O, T⟩ => utkStep_no T.tk) (fun bt w ⟨F, O, T⟩ => (T.tk.chunk ec eb).mono fun _ _ ⟨he, u⟩ => ⟨he, F, O, T.ups u⟩) (by decide)).mono ?_
  · rintro e w' ⟨bt, rfl, M⟩
    exact ⟨bt, rfl, LoneT.made A M⟩
  · rintro e w' ⟨rfl, bt, F, O, T⟩
    exact ⟨rfl, F, T.lone⟩
/-- take, out of the pool. -/
theorem take_pool {PK : Po} (A : Lone W w l xs d vS vX [] R) (hR : R.size = 0) (hm : min (max l.c.ba 1) 8 = most) (hmid : ∀ i, i < K → ∃ P, Po.many l.n l.lk (xs, Po.new most) i = (xs, P) ∧ P.fin = false) (hK : Po.many l.n l.lk (xs, Po.new most) K = (xs', PK)) (hf : PK.fin = true)
    (hl : (PK.l = [] ∧ st = [] ∧ ch = -1) ∨ ∃ x r, PK.l = x :: r ∧ st = I r ∧ ch = (x : Int) ∧ r.length ≤ 8) (hlen : xs'.length = xs.length) (hK1 : 1 ≤ K ∧ K ≤ 59) {cI : Int} {cB : Bool} (ec : chI ch = cI) (eb : chB ch = cB) :
    Calls Tryz.prog 14 #[.pointer (some ⟨d.b, 0, none⟩)] w fun e w' => e = .returned (.tuple #[.int .i64 cI, .bool cB, .int .i64 (K : Int)]) ∧ ∃ F, Lone W w' l xs' (d.re F) vS vX st R := by
  refine (take_run (K := K) (x := cI) (y := cB) (fun bt i w => PSt W l d vS vX R xs xs' most K (-1) st ch bt i w) ((utkTake_pop (n := l.n) A.su hR hm).mono ?_) (fun bt i w hi X => pst_step hmid hK hf hl hlen hi X) (fun bt w X => ?_) (fun bt w X => ?_) hK1.2).mono ?_
  · rintro e w' ⟨bt, rfl, M⟩
    obtain ⟨F, O, T⟩ := LoneT.made A M
    exact ⟨bt, rfl, fun _ => ⟨F, O, Po.new most, rfl, rfl, T⟩, fun h => by omega⟩
  · obtain ⟨F, O, T⟩ := X.2 rfl
    exact utkStep_no T.tk
  · obtain ⟨F, O, T⟩ := X.2 rfl
    exact (T.tk.chunk ec eb).mono fun _ _ ⟨he, u⟩ => ⟨he, fun h => by omega, fun _ => ⟨F, O, T.ups u⟩⟩
  · rintro e w' ⟨rfl, bt, X⟩
    obtain ⟨F, O, T⟩ := X.2 rfl
    exact ⟨rfl, F, T.lone⟩
/-- take, behind a look at the epoch: something is ready. -/
theorem take_ready (A : Lone W w l xs d vS vX [] R) (hR : R.size ≠ 0) (hs : R.size ≤ 8000) (hx : cutE (xs.getD 2 0) = now) (h2 : 2 < xs.length) (hr : R.outs now = ys ++ [y]) (hy : 0 ≤ y) (hl : (R.outs now).length ≤ 8000) :
    Calls Tryz.prog 14 #[.pointer (some ⟨d.b, 0, none⟩)] w fun e w' => e = .returned (.tuple #[.int .i64 y, .bool true, .int .i64 1]) ∧ ∃ F, Lone W w' l xs (d.re F) vS vX ys (R.rest now) := by
  have ec : chI y = y := by unfold chI; rw [if_neg (by omega)]
  have eb : chB y = true := by unfold chB; exact decide_eq_true hy
  refine (take_run (K := 1) (x := y) (y := true) (fun bt i w => (i < 1 → ∃ F O, LoneT W w l xs (d.re F) vS vX [] R bt O .look (-1) (-1)) ∧ (i = 1 → ∃ F O, LoneT W w l xs (d.re F) vS vX ys (R.rest now) bt O .idle y now)) ((utkTake_look (n := l.n) A.su hR hs).mono ?_) (fun bt i w hi X => ?_) (fun bt w X => ?_) (fun bt w X => ?_) (by decide)).mono ?_
  · rintro e w' ⟨bt, rfl, M⟩
    exact ⟨bt, rfl, fun _ => LoneT.made A M, fun h => by omega⟩
  · obtain ⟨F, O, T⟩ := X.1 hi
    obtain ⟨s, hs2, J, E0⟩ := T.in_
    refine (utkStep_yes J (by rw [hs2]; exact hx) (by rw [hs2]; exact h2) hr hy hs hl).mono ?_
    rintro e w' ⟨rfl, U⟩
    rw [hs2] at U
    exact ⟨rfl, fun h => by omega, fun _ => T.out rfl U⟩
  · obtain ⟨F, O, T⟩ := X.2 rfl
    exact utkStep_no T.tk
  · obtain ⟨F, O, T⟩ := X.2 rfl
    exact (T.tk.chunk ec eb).mono fun _ _ ⟨he, u⟩ => ⟨he, fun h => by omega, fun _ => ⟨F, O, T.ups u⟩⟩
  · rintro e w' ⟨rfl, bt, X⟩
    obtain ⟨F, O, T⟩ := X.2 rfl
    exact ⟨rfl, F, T.lone⟩
/-- take, behind a look at the epoch: nothing is ready; out of the pool. -/
theorem take_look {PK : Po} (A : Lone W w l xs d vS vX [] R) (hR : R.size ≠ 0) (hs : R.size ≤ 8000) (hx : cutE (xs.getD 2 0) = now) (h2 : 2 < xs.length) (hr : R.outs now = []) (hm : min (max l.c.ba 1) 8 = most) (hmid : ∀ i, i < K → ∃ P, Po.many l.n l.lk (xs, Po.new most) i = (xs, P) ∧ P.fin = false) (hK : Po.many l.n l.lk (xs, Po.new most) K = (xs', PK)) (hf : PK.fin = true)
    (hl : (PK.l = [] ∧ st = [] ∧ ch = -1) ∨ ∃ x r, PK.l = x :: r ∧ st = I r ∧ ch = (x : Int) ∧ r.length ≤ 8) (hlen : xs'.length = xs.length) (hK1 : 1 ≤ K ∧ K ≤ 58) {cI : Int} {cB : Bool} (ec : chI ch = cI) (eb : chB ch = cB) :
    Calls Tryz.prog 14 #[.pointer (some ⟨d.b, 0, none⟩)] w fun e w' => e = .returned (.tuple #[.int .i64 cI, .bool cB, .int .i64 ((K + 1 : Nat) : Int)]) ∧ ∃ F, Lone W w' l xs' (d.re F) vS vX st (R.rest now) := by
  refine (take_run (K := K + 1) (x := cI) (y := cB) (fun bt i w => (i = 0 → ∃ F O, LoneT W w l xs (d.re F) vS vX [] R bt O .look (-1) (-1)) ∧ (1 ≤ i → PSt W l d vS vX (R.rest now) xs xs' most K now st ch bt (i - 1) w)) ((utkTake_look (n := l.n) A.su hR hs).mono ?_) (fun bt i w hi X => ?_) (fun bt w X => ?_) (fun bt w X => ?_) (by omega)).mono ?_
  · rintro e w' ⟨bt, rfl, M⟩
    exact ⟨bt, rfl, fun _ => LoneT.made A M, fun h => by omega⟩
  · by_cases h0 : i = 0
    · subst h0
      obtain ⟨F, O, T⟩ := X.1 rfl
      obtain ⟨s, hs2, J, E0⟩ := T.in_
      refine (utkStep_pop J (by rw [hs2]; exact hx) (by rw [hs2]; exact h2) hr hm hs (by rw [hr]; decide)).mono ?_
      rintro e w' ⟨rfl, U⟩
      rw [hs2] at U
      obtain ⟨F', O', T'⟩ := T.out rfl U
      exact ⟨rfl, fun h => by omega, fun _ => ⟨fun _ => ⟨F', O', Po.new most, rfl, rfl, T'⟩, fun h => by omega⟩⟩
    · have X1 := X.2 (by omega)
      refine (pst_step hmid hK hf hl hlen (by omega) X1).mono ?_
      rintro e w' ⟨rfl, Y⟩
      rw [show i - 1 + 1 = i + 1 - 1 by omega] at Y
      exact ⟨rfl, fun h => by omega, fun _ => Y⟩
  · obtain ⟨F, O, T⟩ := (X.2 (by omega)).2 (by omega)
    exact utkStep_no T.tk
  · obtain ⟨F, O, T⟩ := (X.2 (by omega)).2 (by omega)
    exact (T.tk.chunk ec eb).mono fun _ _ ⟨he, u⟩ => ⟨he, fun h => by omega, fun _ => ⟨fun h => by omega, fun _ => ⟨F, O, T.ups u⟩⟩⟩
  · rintro e w' ⟨rfl, bt, X⟩
    obtain ⟨F, O, T⟩ := (X.2 (by omega)).2 (by omega)
    exact ⟨rfl, F, T.lone⟩
end
end Go.Proofs.YtkopplnjomkleaaGreat
