/-
  Texts beneath SupplyAll, part 27: SupAll, Config.
-/
import Derived.Test.YtkopplnjomkleaaGreatPart26
import Derived.OwnWalk
/-
  The statements' own 'all' (layer 13): both memories, the supplies of both, their slices (SAll); one supply more; a spare cell struck out.
-/
namespace Go.Proofs.YtkopplnjomkleaaGreat
open Go.RowKit
open W64
set_option maxRecDepth 100000
set_option linter.unusedSimpArgs false
/-- The program's supply of a worker. -/
structure SuD where
  b : Nat
  q : Nat
  qs : Nat
  ql : Nat
  F : List Nat
/-- The document's. -/
structure RuD where
  b : Nat
  qs : Nat
  ql : Nat
  F : List Nat
/-- Where all lies. -/
structure Lia where
  a : Nat
  p : Nat
  g : Nat
  q0 : Nat
  k : Nat
  pr : Nat
  gr : Nat
  qp : Nat
  qsr : Nat
  qe : Nat
  c : Cf
  lk : Nat
  n : Nat
  m : Int
  gs : Nat → Option Obj
def alRow (l : Lia) (vS vX : Value) : Array Value := #[.pointer (some ⟨l.p, 0, none⟩), .pointer (some ⟨l.q0, 0, none⟩), vS, .pointer (some ⟨l.k, 0, none⟩), vX]
def epRow (l : Lia) : Array Value := #[.pointer (some ⟨l.pr, 0, none⟩), .int .i64 2, .int .i64 (lpinN l.c 0), .int .i64 l.c.wk]
def SuAt (w : World) (l : Lia) (s : St) (d : SuD) (st : List Int) (R : Lb) : Prop := PSu w d.b (suRow l.p d.q l.c.ba d.qs d.ql) d.qs d.ql d.F l.m st R ∧ Env w l.p l.g d.q 0 l.lk l.n s
def RuAt (w : World) (l : Lia) (e : RuD) (st : List Int) (R : Lb) : Prop := RSu w e.b l.k e.qs e.ql e.F l.m st R
/-- A block that is none of those that all share. -/
def FarL (l : Lia) (vS vX : Value) (L : List SuD) (x : Nat) : Prop := (x ≠ l.a ∧ x ≠ l.p ∧ x ≠ l.g ∧ x ≠ l.q0 ∧ x ≠ l.k ∧ x ≠ l.pr ∧ x ≠ l.gr ∧ x ≠ l.qp ∧ x ≠ l.qe) ∧ vS.ownBlock ≠ some x ∧ vX.ownBlock ≠ some x ∧ ∀ d ∈ L, d.q ≠ x
structure SAll (W w : World) (l : Lia) (s : St) (xs : List Int) (cnt : Int) (vS vX : Value) (L : List SuD) (X : List RuD) : Prop where
  obj : Whole w l.a 51 (alRow l vS vX)
  env : Env w l.p l.g l.q0 0 l.lk l.n s
  rp : RP w l.k l.pr l.gr l.qp l.qsr l.qe l.c l.lk l.n xs cnt
  epo : Whole w l.qe 135 (epRow l)
  pS : PtrsU w vS (L.map SuD.b)
  pX : PtrsR w vX (X.map RuD.b)
  su : ∀ d ∈ L, SuAt w l s d [] Lb.zero
  ru : ∀ e ∈ X, RuAt w l e [] Lb.rzero
  far : ∀ d ∈ L, ∀ x ∈ d.F, FarL l vS vX L x
  rfar : ∀ e ∈ X, ∀ x ∈ e.F, FarL l vS vX L x
  dL : L.Pairwise fun d e => ∀ x ∈ d.F, x ∉ e.F
  dX : X.Pairwise fun d e => ∀ x ∈ d.F, x ∉ e.F
  dLX : ∀ d ∈ L, ∀ e ∈ X, ∀ x ∈ d.F, x ∉ e.F
  gg : l.g ≠ l.gr
  up : Up W w
  nL : ∀ d ∈ L, ∀ x ∈ d.F, W.heap.size ≤ x
  nX : ∀ d ∈ X, ∀ x ∈ d.F, W.heap.size ≤ x
  nw : W.heap.size ≤ l.a ∧ W.heap.size ≤ l.p ∧ W.heap.size ≤ l.g ∧ W.heap.size ≤ l.pr ∧ W.heap.size ≤ l.gr
  nS : ∀ x, vS.ownBlock = some x → W.heap.size ≤ x
  nV : ∀ x, vX.ownBlock = some x → W.heap.size ≤ x
section
variable {W w w1 w2 w3 w' : World} {l : Lia} {s : St} {xs : List Int} {cnt : Int} {vS vX v' : Value} {L : List SuD} {X : List RuD} {x : Nat}
theorem SuAt.else {d : SuD} {st : List Int} {R : Lb} (A : SuAt w l s d st R) {t : List Nat} (u : Else t w w') (h : ∀ x ∈ d.F, x ∉ t) (h2 : l.p ∉ t ∧ l.g ∉ t ∧ d.q ∉ t) : SuAt w' l s d st R := ⟨A.1.else u h, A.2.else u h2.1 h2.2.1 h2.2.2⟩
theorem SuAt.up {d : SuD} {st : List Int} {R : Lb} (A : SuAt w l s d st R) (u : Up w w') : SuAt w' l s d st R := ⟨A.1.up u, A.2.up u⟩
theorem ptrs_ne {bs cs : List Nat} (J : PtrsU w vS bs) (K : PtrsR w vX cs) : ∀ x, vS.ownBlock = some x → vX.ownBlock ≠ some x := by
  intro x hx
  rcases J.2 with ⟨rfl, _⟩ | ⟨a, cap, cur, rfl, _, hh, _⟩
  · simp [Value.ownBlock] at hx
  · simp [Value.ownBlock] at hx
    subst hx
    exact K.nb (show Whole w a _ cur from hh) (by decide)
theorem SAll.ups (A : SAll W w l s xs cnt vS vX L X) (u : Up w w') : SAll W w' l s xs cnt vS vX L X :=
  ⟨A.obj.up u, A.env.up u, A.rp.up u, A.epo.up u, A.pS.up u, A.pX.up u, fun d hd => (A.su d hd).up u, fun e he => RSu.up (A.ru e he) u, A.far, A.rfar, A.dL, A.dX, A.dLX, A.gg, A.up.trans u, A.nL, A.nX, A.nw, A.nS, A.nV⟩
/-- What all share is apart by type. -/
theorem SAll.apart (A : SAll W w l s xs cnt vS vX L X) : (l.a ≠ l.p ∧ l.a ≠ l.g ∧ l.a ≠ l.q0 ∧ l.a ≠ l.k ∧ l.a ≠ l.pr ∧ l.a ≠ l.gr ∧ l.a ≠ l.qp ∧ l.a ≠ l.qe) ∧ ∀ d ∈ L, d.q ≠ l.a := by
  refine ⟨⟨A.obj.ne_type A.env.mem.top (by decide), A.obj.ne_type A.env.mem.row (by decide), A.obj.ne_type A.env.stk (by decide), A.obj.ne_type A.rp.obj (by decide), A.obj.ne_type A.rp.env.mem.top (by decide), A.obj.ne_type A.rp.env.mem.row (by decide), A.obj.ne_type A.rp.env.stk (by decide), A.obj.ne_type A.epo (by decide)⟩, fun d hd => (A.su d hd).2.stk.ne_type A.obj (by decide)⟩
theorem FarL.more {L' : List SuD} {vS' vX' : Value} (h : FarL l vS vX L x) (h1 : vS'.ownBlock ≠ some x) (h2 : vX'.ownBlock ≠ some x) (h3 : ∀ d ∈ L', d.q ≠ x) : FarL l vS' vX' L' x := ⟨h.1, h1, h2, h3⟩
theorem SAll.lts (A : SAll W w l s xs cnt vS vX L X) : l.a < w.heap.size ∧ l.p < w.heap.size ∧ l.g < w.heap.size ∧ l.q0 < w.heap.size ∧ l.k < w.heap.size ∧ l.pr < w.heap.size ∧ l.gr < w.heap.size ∧ l.qp < w.heap.size ∧ l.qe < w.heap.size :=
  ⟨A.obj.lt, A.env.mem.top.lt, A.env.mem.row.lt, A.env.stk.lt, A.rp.obj.lt, A.rp.env.mem.top.lt, A.rp.env.mem.row.lt, A.rp.env.stk.lt, A.epo.lt⟩
theorem far_new (A : SAll W w l s xs cnt vS vX L X) (h : w.heap.size ≤ x) : FarL l vS vX L x := by
  obtain ⟨l1, l2, l3, l4, l5, l6, l7, l8, l9⟩ := A.lts
  refine ⟨by omega, fun e => ?_, fun e => ?_, fun d hd => ?_⟩
  · have := A.pS.lt e; omega
  · have := A.pX.lt e; omega
  · have := (A.su d hd).2.stk.lt; omega
/-- One supply of the program's more. -/
theorem SAll.addU (A : SAll W w l s xs cnt vS vX L X) (U : Up w w1) {d : SuD} (S : SuAt w1 l s d [] Lb.zero) (hF : ∀ x ∈ d.F, w.heap.size ≤ x) (hq : w.heap.size ≤ d.q) (nq : d.q ∉ d.F) {o : Obj} (J : PtrsU w3 v' (L.map SuD.b ++ [d.b])) (gr : (w1.alloc o).grownBy w3 vS.ownBlock) (ho : v'.ownBlock = vS.ownBlock ∨ v'.ownBlock = some (w1.alloc o).heap.size) :
    SAll W (w3.setCell ⟨l.a, 2, none⟩ v') l s xs cnt v' vX (L ++ [d]) X := by
  obtain ⟨⟨a1, a2, a3, a4, a5, a6, a7, a8⟩, a9⟩ := A.apart
  have U2 : Up w (w1.alloc o) := U.then_alloc _
  have sA := U2.size
  have s1 : w1.heap.size < (w1.alloc o).heap.size := by simp
  have hvS : ∀ x, vS.ownBlock = some x → x < w.heap.size := fun x hx => A.pS.lt hx
  have n1 : vS.ownBlock ≠ some l.a := A.pS.nb A.obj (by decide)
  have E3' : Else (blk vS) (w1.alloc o) w3 := (Else.refl _ _).grown gr (fun k hk => .inl (mem_blk.2 hk))
  have E3 : Else (blk vS) w w3 := (Else.of_up U2).trans E3'
  have EA : Else [l.a] w3 (w3.setCell ⟨l.a, 2, none⟩ v') := (Else.refl _ _).set (.inl (by simp)) _
  have E4 : Else (l.a :: blk vS) w (w3.setCell ⟨l.a, 2, none⟩ v') := (E3.more (fun x hx => by simp [hx])).trans (EA.more (fun x hx => by simp at hx; simp [hx]))
  have E5 : Else (l.a :: blk vS) w1 (w3.setCell ⟨l.a, 2, none⟩ v') := ((Else.of_up (Up.alloc w1 o)).trans (E3'.more (fun x hx => by simp [hx]))).trans (EA.more (fun x hx => by simp at hx; simp [hx]))
  have T3 : Whole w3 l.a 51 (alRow l vS vX) := E3.whole A.obj (fun h => n1 (mem_blk.1 h))
  have hv' : ∀ x, v'.ownBlock = some x → vS.ownBlock = some x ∨ w1.heap.size < x := fun x hx => by
    rcases ho with h | h
    · exact .inl (h ▸ hx)
    · rw [h] at hx; injection hx with hx; exact .inr (by omega)
  have nin : ∀ x, vS.ownBlock ≠ some x → x ≠ l.a → x ∉ l.a :: blk vS := fun x h1 h2 h => by
    rcases List.mem_cons.1 h with h | h
    · exact h2 h
    · exact h1 (mem_blk.1 h)
  have bS : ∀ {t : TypeId} {y : Nat} {cs : Array Value}, Whole w y t cs → 59 ≠ t → y ≠ l.a → y ∉ l.a :: blk vS := fun B ht hy => nin _ (A.pS.nb B ht) hy
  have hp := bS A.env.mem.top (by decide) a1.symm
  have hg := bS A.env.mem.row (by decide) a2.symm
  have hq0 := bS A.env.stk (by decide) a3.symm
  have hX : ∀ k, vX.ownBlock = some k → k ∉ l.a :: blk vS := fun k hk => nin k (fun h => ptrs_ne A.pS A.pX k h hk) (fun h => A.pX.nb A.obj (by decide) (h ▸ hk))
  have ltF : ∀ d' ∈ L, ∀ x ∈ d'.F, x < w.heap.size := fun d' hd x hx => (A.su d' hd).1.lt x hx
  have ltX : ∀ e ∈ X, ∀ x ∈ e.F, x < w.heap.size := fun e he x hx => RSu.lt (A.ru e he) x hx
  have ltd : ∀ x ∈ d.F, x < w1.heap.size := fun x hx => S.1.lt x hx
  have ltq : d.q < w1.heap.size := S.2.stk.lt
  have su1 := U.size
  obtain ⟨t1, t2, t3, t4, t5, t6, t7, t8, t9⟩ := A.lts
  have old : ∀ x, FarL l vS vX L x → x < w.heap.size → FarL l v' vX (L ++ [d]) x := fun x h hx => h.more (fun e => by rcases hv' x e with h2 | h2; exact h.2.1 h2; omega) h.2.2.1 (fun d' hd => by
    rcases List.mem_append.1 hd with hd | hd
    · exact h.2.2.2 d' hd
    · simp at hd; subst hd; omega)
  refine ⟨T3.set 2 v', A.env.else E4 hp hg hq0, A.rp.else E4 ⟨bS A.rp.env.mem.top (by decide) a5.symm, bS A.rp.env.mem.row (by decide) a6.symm, bS A.rp.env.stk (by decide) a7.symm, bS A.rp.obj (by decide) a4.symm⟩, E4.whole A.epo (bS A.epo (by decide) a8.symm), ?_, A.pX.else E4 hX, ?_, fun e he => RSu.else (A.ru e he) E4 (fun x hx => nin x (A.rfar e he x hx).2.1 (A.rfar e he x hx).1.1), ?_, fun e he x hx => old x (A.rfar e he x hx) (ltX e he x hx), ?_, A.dX, ?_, A.gg, Else.up_new A.up E4 (fun x hx => ?_), ?_, A.nX, A.nw, fun x hx => ?_, A.nV⟩
  · have J4 := J.else EA (fun k hk h => by simp at h; subst h; exact J.nb T3 (by decide) hk)
    simpa using J4
  · intro d' hd
    rcases List.mem_append.1 hd with hd | hd
    · exact (A.su d' hd).else E4 (fun x hx => nin x (A.far d' hd x hx).2.1 (A.far d' hd x hx).1.1) ⟨hp, hg, bS (A.su d' hd).2.stk (by decide) (a9 d' hd)⟩
    · simp at hd; subst hd
      refine S.else E5 (fun x hx => nin x (fun h => ?_) ?_) ⟨hp, hg, nin _ (fun h => ?_) (by omega)⟩
      · have := hvS x h; have := hF x hx; omega
      · have := hF x hx; omega
      · have := hvS _ h; omega
  · intro d' hd x hx
    rcases List.mem_append.1 hd with hd | hd
    · exact old x (A.far d' hd x hx) (ltF d' hd x hx)
    · simp at hd; subst hd
      have h1 := hF x hx
      have h2 := ltd x hx
      refine (far_new A h1).more (fun e => ?_) (far_new A h1).2.2.1 (fun d2 hd2 => ?_)
      · rcases hv' x e with h | h
        · have := hvS x h; omega
        · omega
      · rcases List.mem_append.1 hd2 with h | h
        · exact (far_new A h1).2.2.2 d2 h
        · simp at h; subst h; exact fun e => nq (e ▸ hx)
  · rw [List.pairwise_append]
    refine ⟨A.dL, by simp, fun d' hd e he x hx h => ?_⟩
    simp at he; subst he
    have := ltF d' hd x hx; have := hF x h; omega
  · intro d' hd e he x hx h
    rcases List.mem_append.1 hd with hd | hd
    · exact A.dLX d' hd e he x hx h
    · simp at hd; subst hd
      have := hF x hx; have := ltX e he x h; omega
  · rcases List.mem_cons.1 hx with h | h
    · rw [h]; exact A.nw.1
    · exact A.nS x (mem_blk.1 h)
  · intro d' hd x hx
    rcases List.mem_append.1 hd with hd | hd
    · exact A.nL d' hd x hx
    · simp at hd; subst hd
      have := hF x hx; have := A.up.size; omega
  · rcases hv' x hx with h | h
    · exact A.nS x h
    · have := A.up.size; omega
/-- One of the document's more. -/
theorem SAll.addR (A : SAll W w l s xs cnt vS vX L X) (U : Up w w1) {d : RuD} (S : RuAt w1 l d [] Lb.rzero) (hF : ∀ x ∈ d.F, w.heap.size ≤ x) {o : Obj} (J : PtrsR w3 v' (X.map RuD.b ++ [d.b])) (gr : (w1.alloc o).grownBy w3 vX.ownBlock) (ho : v'.ownBlock = vX.ownBlock ∨ v'.ownBlock = some (w1.alloc o).heap.size) :
    SAll W (w3.setCell ⟨l.a, 4, none⟩ v') l s xs cnt vS v' L (X ++ [d]) := by
  obtain ⟨⟨a1, a2, a3, a4, a5, a6, a7, a8⟩, a9⟩ := A.apart
  have U2 : Up w (w1.alloc o) := U.then_alloc _
  have sA := U2.size
  have s1 : w1.heap.size < (w1.alloc o).heap.size := by simp
  have hvX : ∀ x, vX.ownBlock = some x → x < w.heap.size := fun x hx => A.pX.lt hx
  have n1 : vX.ownBlock ≠ some l.a := A.pX.nb A.obj (by decide)
  have E3' : Else (blk vX) (w1.alloc o) w3 := (Else.refl _ _).grown gr (fun k hk => .inl (mem_blk.2 hk))
  have E3 : Else (blk vX) w w3 := (Else.of_up U2).trans E3'
  have EA : Else [l.a] w3 (w3.setCell ⟨l.a, 4, none⟩ v') := (Else.refl _ _).set (.inl (by simp)) _
  have E4 : Else (l.a :: blk vX) w (w3.setCell ⟨l.a, 4, none⟩ v') := (E3.more (fun x hx => by simp [hx])).trans (EA.more (fun x hx => by simp at hx; simp [hx]))
  have E5 : Else (l.a :: blk vX) w1 (w3.setCell ⟨l.a, 4, none⟩ v') := ((Else.of_up (Up.alloc w1 o)).trans (E3'.more (fun x hx => by simp [hx]))).trans (EA.more (fun x hx => by simp at hx; simp [hx]))
  have T3 : Whole w3 l.a 51 (alRow l vS vX) := E3.whole A.obj (fun h => n1 (mem_blk.1 h))
  have hv' : ∀ x, v'.ownBlock = some x → vX.ownBlock = some x ∨ w1.heap.size < x := fun x hx => by
    rcases ho with h | h
    · exact .inl (h ▸ hx)
    · rw [h] at hx; injection hx with hx; exact .inr (by omega)
  have nin : ∀ x, vX.ownBlock ≠ some x → x ≠ l.a → x ∉ l.a :: blk vX := fun x h1 h2 h => by
    rcases List.mem_cons.1 h with h | h
    · exact h2 h
    · exact h1 (mem_blk.1 h)
  have bS : ∀ {t : TypeId} {y : Nat} {cs : Array Value}, Whole w y t cs → 86 ≠ t → y ≠ l.a → y ∉ l.a :: blk vX := fun B ht hy => nin _ (A.pX.nb B ht) hy
  have hp := bS A.env.mem.top (by decide) a1.symm
  have hg := bS A.env.mem.row (by decide) a2.symm
  have hq0 := bS A.env.stk (by decide) a3.symm
  have hS : ∀ k, vS.ownBlock = some k → k ∉ l.a :: blk vX := fun k hk => nin k (ptrs_ne A.pS A.pX k hk) (fun h => A.pS.nb A.obj (by decide) (h ▸ hk))
  have ltF : ∀ d' ∈ L, ∀ x ∈ d'.F, x < w.heap.size := fun d' hd x hx => (A.su d' hd).1.lt x hx
  have ltX : ∀ e ∈ X, ∀ x ∈ e.F, x < w.heap.size := fun e he x hx => RSu.lt (A.ru e he) x hx
  have ltd : ∀ x ∈ d.F, x < w1.heap.size := fun x hx => RSu.lt S x hx
  have su1 := U.size
  obtain ⟨t1, t2, t3, t4, t5, t6, t7, t8, t9⟩ := A.lts
  have old : ∀ x, FarL l vS vX L x → x < w.heap.size → FarL l vS v' L x := fun x h hx => h.more h.2.1 (fun e => by rcases hv' x e with h2 | h2; exact h.2.2.1 h2; omega) h.2.2.2
  refine ⟨T3.set 4 v', A.env.else E4 hp hg hq0, A.rp.else E4 ⟨bS A.rp.env.mem.top (by decide) a5.symm, bS A.rp.env.mem.row (by decide) a6.symm, bS A.rp.env.stk (by decide) a7.symm, bS A.rp.obj (by decide) a4.symm⟩, E4.whole A.epo (bS A.epo (by decide) a8.symm), A.pS.else E4 hS, ?_, fun d' hd => (A.su d' hd).else E4 (fun x hx => nin x (A.far d' hd x hx).2.2.1 (A.far d' hd x hx).1.1) ⟨hp, hg, bS (A.su d' hd).2.stk (by decide) (a9 d' hd)⟩, ?_, fun d' hd x hx => old x (A.far d' hd x hx) (ltF d' hd x hx), ?_, A.dL, ?_, ?_, A.gg, Else.up_new A.up E4 (fun x hx => ?_), A.nL, ?_, A.nw, A.nS, fun x hx => ?_⟩
  · have J4 := J.else EA (fun k hk h => by simp at h; subst h; exact J.nb T3 (by decide) hk)
    simpa using J4
  · intro e he
    rcases List.mem_append.1 he with he | he
    · exact RSu.else (A.ru e he) E4 (fun x hx => nin x (A.rfar e he x hx).2.2.1 (A.rfar e he x hx).1.1)
    · simp at he; subst he
      refine RSu.else S E5 (fun x hx => nin x (fun h => ?_) ?_)
      · have := hvX x h; have := hF x hx; omega
      · have := hF x hx; omega
  · intro e he x hx
    rcases List.mem_append.1 he with he | he
    · exact old x (A.rfar e he x hx) (ltX e he x hx)
    · simp at he; subst he
      have h1 := hF x hx
      have h2 := ltd x hx
      refine (far_new A h1).more (far_new A h1).2.1 (fun e => ?_) (far_new A h1).2.2.2
      rcases hv' x e with h | h
      · have := hvX x h; omega
      · omega
  · rw [List.pairwise_append]
    refine ⟨A.dX, by simp, fun d' hd e he x hx h => ?_⟩
    simp at he; subst he
    have := ltX d' hd x hx; have := hF x h; omega
  · intro d' hd e he x hx h
    rcases List.mem_append.1 he with he | he
    · exact A.dLX d' hd e he x hx h
    · simp at he; subst he
      have := ltF d' hd x hx; have := hF x h; omega
  · rcases List.mem_cons.1 hx with h | h
    · rw [h]; exact A.nw.1
    · exact A.nV x (mem_blk.1 h)
  · intro d' hd x hx
    rcases List.mem_append.1 hd with hd | hd
    · exact A.nX d' hd x hx
    · simp at hd; subst hd
      have := hF x hx; have := A.up.size; omega
  · rcases hv' x hx with h | h
    · exact A.nV x h
    · have := A.up.size; omega
theorem SAll.boxU (A : SAll W w l s xs cnt vS vX L X) (U : Up w w1) {b0 : Nat} {cs : Array Value} (B : Whole w b0 25 cs) {o : Obj} (gr : (w1.alloc o).grownBy w3 vS.ownBlock) : Whole (w3.setCell ⟨l.a, 2, none⟩ v') b0 25 cs := by
  have E3 : Else (blk vS) w w3 := (Else.of_up (U.then_alloc o)).trans ((Else.refl _ _).grown gr (fun k hk => .inl (mem_blk.2 hk)))
  have B3 := E3.whole B (fun h => A.pS.nb B (by decide) (mem_blk.1 h))
  exact B3.far (B.ne_type A.obj (by decide)) _
theorem SAll.boxR (A : SAll W w l s xs cnt vS vX L X) (U : Up w w1) {b0 : Nat} {cs : Array Value} (B : Whole w b0 25 cs) {o : Obj} (gr : (w1.alloc o).grownBy w3 vX.ownBlock) : Whole (w3.setCell ⟨l.a, 4, none⟩ v') b0 25 cs := by
  have E3 : Else (blk vX) w w3 := (Else.of_up (U.then_alloc o)).trans ((Else.refl _ _).grown gr (fun k hk => .inl (mem_blk.2 hk)))
  have B3 := E3.whole B (fun h => A.pX.nb B (by decide) (mem_blk.1 h))
  exact B3.far (B.ne_type A.obj (by decide)) _
theorem SAll.objU (A : SAll W w l s xs cnt vS vX L X) (U : Up w w1) {o : Obj} (gr : (w1.alloc o).grownBy w3 vS.ownBlock) : Whole w3 l.a 51 (alRow l vS vX) := by
  have E3 : Else (blk vS) w w3 := (Else.of_up (U.then_alloc o)).trans ((Else.refl _ _).grown gr (fun k hk => .inl (mem_blk.2 hk)))
  exact E3.whole A.obj (fun h => A.pS.nb A.obj (by decide) (mem_blk.1 h))
theorem SAll.objR (A : SAll W w l s xs cnt vS vX L X) (U : Up w w1) {o : Obj} (gr : (w1.alloc o).grownBy w3 vX.ownBlock) : Whole w3 l.a 51 (alRow l vS vX) := by
  have E3 : Else (blk vX) w w3 := (Else.of_up (U.then_alloc o)).trans ((Else.refl _ _).grown gr (fun k hk => .inl (mem_blk.2 hk)))
  exact E3.whole A.obj (fun h => A.pX.nb A.obj (by decide) (mem_blk.1 h))
/-- A cell of the document's memory is laid. -/
theorem SAll.lay (A : SAll W w l s xs cnt vS vX L X) {i : Nat} {y : Int} (h0 : 0 ≤ y) (h1 : y < 18446744073709551616) : SAll W (w.setCell ⟨l.gr, i, none⟩ (.int .u64 y)) l s (xs.set i y) cnt vS vX L X := by
  have E : Else [l.gr] w (w.setCell ⟨l.gr, i, none⟩ (.int .u64 y)) := (Else.refl _ _).set (.inl (by simp)) _
  have G := A.rp.env.mem.row
  have nt : ∀ {t : TypeId} {z : Nat} {cs : Array Value}, Whole w z t cs → t ≠ 88 → z ∉ [l.gr] := fun B ht => by simp; exact B.ne_type G ht
  have hp := nt A.env.mem.top (by decide)
  have hg : l.g ∉ [l.gr] := by simp; exact A.gg
  have hX : ∀ x, FarL l vS vX L x → x ∉ [l.gr] := fun x h => by simp; exact h.1.2.2.2.2.2.2.1
  refine ⟨E.whole A.obj (nt A.obj (by decide)), A.env.else E hp hg (nt A.env.stk (by decide)), ⟨E.whole A.rp.obj (nt A.rp.obj (by decide)), ⟨A.rp.env.mem.set i y, E.whole A.rp.env.stk (nt A.rp.env.stk (by decide)), ok_set A.rp.env.ok h0 h1, A.rp.env.np, A.rp.env.ng, A.rp.env.n0, A.rp.env.n1, by rw [List.length_set]; exact A.rp.env.hh, by rw [List.length_set]; exact A.rp.env.hl, by rw [List.length_set]; exact A.rp.env.top⟩, A.rp.may, A.rp.hk, A.rp.hn⟩, E.whole A.epo (nt A.epo (by decide)), A.pS.else E (fun k hk h => by simp at h; subst h; exact A.pS.nb G (by decide) hk), A.pX.else E (fun k hk h => by simp at h; subst h; exact A.pX.nb G (by decide) hk), fun d hd => (A.su d hd).else E (fun x hx => hX x (A.far d hd x hx)) ⟨hp, hg, nt (A.su d hd).2.stk (by decide)⟩, fun e he => RSu.else (A.ru e he) E (fun x hx => hX x (A.rfar e he x hx)), A.far, A.rfar, A.dL, A.dX, A.dLX, A.gg, Else.up_new A.up E (fun x hx => by simp at hx; subst hx; exact A.nw.2.2.2.2), A.nL, A.nX, A.nw, A.nS, A.nV⟩
end
end Go.Proofs.YtkopplnjomkleaaGreat

/-
  The contract of rundalemake.Config: a small configuration by a number.
-/
namespace Go.Proofs.YtkopplnjomkleaaGreat
open Go.RowKit


set_option maxHeartbeats 1000000 in
theorem seqN_any (b g : Nat) (k : Nat) (n x : Int) (w : World) (hk : k < 6) (n0 : 0 < n) (n1 : n < 9223372036854775808)
    (hL : w.cell? ⟨b, 0, none⟩ = some (.slice (some ⟨g, 0, none⟩) 6 6)) (hA : w.cell? ⟨b, 1, none⟩ = some (.int .i64 k)) (hx : w.cell? ⟨g, k, none⟩ = some (.int .i64 x)) (hf : w.frozen? ⟨b, 1, none⟩ = false) :
    Calls Tryz.prog 28 #[.pointer (some ⟨b, 0, none⟩), .int .i64 n] w fun e w' => e = .returned (.int .i64 (x % n)) ∧ w' = (w.setCell ⟨b, 1, none⟩ (.int .i64 (k + 1))).drew.drew := by
  have k0 : (0 : Int) ≤ (k : Int) := Int.natCast_nonneg _
  have k1 : (k : Int) < 6 := by omega
  go_enter Tryz.func28, Tryz.ntmps28
  go_wp2
  refine wp_region_one (by kernel_rfl) (by kernel_rfl) ?_
  repeat (go_big_quiet_step (fail))
  refine wpQuiet_nil ?_
  rintro _ rfl
  go_wp2
  refine wp_region_one (by kernel_rfl) (by kernel_rfl) ?_
  repeat (go_big_quiet_step (fail))
  refine wpQuiet_nil ?_
  rintro _ rfl
  go_wp2_with (go_at_call 9; refine (number_any _ _ _ n0 n1).mono ?_; rintro e w' ⟨rfl, rfl⟩)
  go_ret
  exact ⟨rfl, rfl⟩
theorem seqN_at {b g : Nat} (k : Nat) (i j : Int) {n x r : Int} {w : World} (hi : (k : Int) = i) (hj : i + 1 = j) (hr : x % n = r) (hk : k < 6) (n0 : 0 < n) (n1 : n < 9223372036854775808)
    (hL : w.cell? ⟨b, 0, none⟩ = some (.slice (some ⟨g, 0, none⟩) 6 6)) (hA : w.cell? ⟨b, 1, none⟩ = some (.int .i64 i)) (hx : w.cell? ⟨g, k, none⟩ = some (.int .i64 x)) (hf : w.frozen? ⟨b, 1, none⟩ = false) :
    Calls Tryz.prog 28 #[.pointer (some ⟨b, 0, none⟩), .int .i64 n] w fun e w' => e = .returned (.int .i64 r) ∧ w' = (w.setCell ⟨b, 1, none⟩ (.int .i64 j)).drew.drew := by
  subst hi hj hr
  exact seqN_any b g k n x w hk n0 n1 hL hA hx hf

/-- The memory of Config: the result's variable, the numbers, the sequence that stands at i. -/
def W3 (w : World) (x0 x1 x2 x3 x4 x5 i : Int) : World :=
  ((w.alloc (.cells #[.int .i64 0, .int .i64 0, .int .i64 0, .int .i64 0, .int .i64 0, .int .i64 0] 25)).alloc (.cells #[.int .i64 x0, .int .i64 x1, .int .i64 x2, .int .i64 x3, .int .i64 x4, .int .i64 x5] 3)).alloc
    (.cells #[.slice (some ⟨w.heap.size + 1, 0, none⟩) 6 6, .int .i64 i] 78)
theorem W3_size (w : World) (o p : Obj) : ((w.alloc o).alloc p).heap.size = w.heap.size + 1 + 1 := by simp
theorem W3_set (w : World) (x0 x1 x2 x3 x4 x5 i j : Int) (d : Nat) : ((W3 w x0 x1 x2 x3 x4 x5 i).drewN d).setCell ⟨w.heap.size + 1 + 1, 1, none⟩ (.int .i64 j) = (W3 w x0 x1 x2 x3 x4 x5 j).drewN d := by
  have e : ((W3 w x0 x1 x2 x3 x4 x5 i)).setCell ⟨w.heap.size + 1 + 1, 1, none⟩ (.int .i64 j) = W3 w x0 x1 x2 x3 x4 x5 j := by
    unfold W3
    rw [World.setCell_alloc_at _ _ _ _ _ (W3_size _ _ _).symm]
    simp
  rw [← e]; rfl
theorem seqN_w (w : World) (x0 x1 x2 x3 x4 x5 : Int) (k : Nat) (i j x : Int) {n r : Int} (d : Nat) (hi : (k : Int) = i) (hj : i + 1 = j) (hx : #[Value.int .i64 x0, .int .i64 x1, .int .i64 x2, .int .i64 x3, .int .i64 x4, .int .i64 x5][k]? = some (.int .i64 x)) (hr : x % n = r) (hk : k < 6) (n0 : 0 < n) (n1 : n < 9223372036854775808) :
    Calls Tryz.prog 28 #[.pointer (some ⟨w.heap.size + 1 + 1, 0, none⟩), .int .i64 n] ((W3 w x0 x1 x2 x3 x4 x5 i).drewN d) fun e w' => e = .returned (.int .i64 r) ∧ w' = (W3 w x0 x1 x2 x3 x4 x5 j).drewN (d + 1 + 1) := by
  refine (seqN_at (b := w.heap.size + 1 + 1) (g := w.heap.size + 1) k i j (x := x) hi hj hr hk n0 n1 ?_ ?_ ?_ ?_).mono ?_
  · rw [World.cell?_drewN]; unfold W3
    rw [World.cell?_alloc_at _ _ _ _ (W3_size _ _ _).symm]; rfl
  · rw [World.cell?_drewN]; unfold W3
    rw [World.cell?_alloc_at _ _ _ _ (W3_size _ _ _).symm]; rfl
  · rw [World.cell?_drewN]; unfold W3
    rw [World.cell?_alloc_past _ _ _ (by simp), World.cell?_alloc_at _ _ _ _ (by simp)]
    exact hx
  · rw [World.frozen?_drewN]; unfold W3
    rw [World.frozen?_alloc_at _ _ _ _ (W3_size _ _ _).symm]
  · rintro e w' ⟨rfl, rfl⟩
    rw [W3_set]
    exact ⟨rfl, rfl⟩
theorem seqN_0 (w : World) (x0 x1 x2 x3 x4 x5 : Int) {n r : Int} (hr : x0 % n = r) (n0 : 0 < n) (n1 : n < 9223372036854775808) :
    Calls Tryz.prog 28 #[.pointer (some ⟨w.heap.size + 1 + 1, 0, none⟩), .int .i64 n]
      (((w.alloc (.cells #[.int .i64 0, .int .i64 0, .int .i64 0, .int .i64 0, .int .i64 0, .int .i64 0] 25)).alloc (.cells #[.int .i64 x0, .int .i64 x1, .int .i64 x2, .int .i64 x3, .int .i64 x4, .int .i64 x5] 3)).alloc
        (.cells #[.slice (some ⟨w.heap.size + 1, 0, none⟩) 6 6, .int .i64 0] 78))
      fun e w' => e = .returned (.int .i64 r) ∧ w' = (W3 w x0 x1 x2 x3 x4 x5 1).drewN 2 :=
  seqN_w w x0 x1 x2 x3 x4 x5 0 0 1 x0 0 rfl rfl rfl hr (by decide) n0 n1
theorem seqN_1 (w : World) (x0 x1 x2 x3 x4 x5 : Int) {n r : Int} (hr : x1 % n = r) (n0 : 0 < n) (n1 : n < 9223372036854775808) :
    Calls Tryz.prog 28 #[.pointer (some ⟨w.heap.size + 1 + 1, 0, none⟩), .int .i64 n] ((W3 w x0 x1 x2 x3 x4 x5 1).drewN 2)
      fun e w' => e = .returned (.int .i64 r) ∧ w' = (W3 w x0 x1 x2 x3 x4 x5 2).drewN 4 :=
  seqN_w w x0 x1 x2 x3 x4 x5 1 1 2 x1 2 rfl rfl rfl hr (by decide) n0 n1
theorem seqN_2 (w : World) (x0 x1 x2 x3 x4 x5 : Int) {n r : Int} (hr : x2 % n = r) (n0 : 0 < n) (n1 : n < 9223372036854775808) :
    Calls Tryz.prog 28 #[.pointer (some ⟨w.heap.size + 1 + 1, 0, none⟩), .int .i64 n] ((W3 w x0 x1 x2 x3 x4 x5 2).drewN 4)
      fun e w' => e = .returned (.int .i64 r) ∧ w' = (W3 w x0 x1 x2 x3 x4 x5 3).drewN 6 :=
  seqN_w w x0 x1 x2 x3 x4 x5 2 2 3 x2 4 rfl rfl rfl hr (by decide) n0 n1
theorem seqN_3 (w : World) (x0 x1 x2 x3 x4 x5 : Int) {n r : Int} (hr : x3 % n = r) (n0 : 0 < n) (n1 : n < 9223372036854775808) :
    Calls Tryz.prog 28 #[.pointer (some ⟨w.heap.size + 1 + 1, 0, none⟩), .int .i64 n] ((W3 w x0 x1 x2 x3 x4 x5 3).drewN 6)
      fun e w' => e = .returned (.int .i64 r) ∧ w' = (W3 w x0 x1 x2 x3 x4 x5 4).drewN 8 :=
  seqN_w w x0 x1 x2 x3 x4 x5 3 3 4 x3 6 rfl rfl rfl hr (by decide) n0 n1
theorem seqN_4 (w : World) (x0 x1 x2 x3 x4 x5 : Int) {n r : Int} (hr : x4 % n = r) (n0 : 0 < n) (n1 : n < 9223372036854775808) :
    Calls Tryz.prog 28 #[.pointer (some ⟨w.heap.size + 1 + 1, 0, none⟩), .int .i64 n] ((W3 w x0 x1 x2 x3 x4 x5 4).drewN 8)
      fun e w' => e = .returned (.int .i64 r) ∧ w' = (W3 w x0 x1 x2 x3 x4 x5 5).drewN 10 :=
  seqN_w w x0 x1 x2 x3 x4 x5 4 4 5 x4 8 rfl rfl rfl hr (by decide) n0 n1
theorem seqN_5 (w : World) (x0 x1 x2 x3 x4 x5 : Int) {n r : Int} (hr : x5 % n = r) (n0 : 0 < n) (n1 : n < 9223372036854775808) :
    Calls Tryz.prog 28 #[.pointer (some ⟨w.heap.size + 1 + 1, 0, none⟩), .int .i64 n] ((W3 w x0 x1 x2 x3 x4 x5 5).drewN 10)
      fun e w' => e = .returned (.int .i64 r) ∧ w' = (((w.alloc (.cells #[.int .i64 0, .int .i64 0, .int .i64 0, .int .i64 0, .int .i64 0, .int .i64 0] 25)).alloc (.cells #[.int .i64 x0, .int .i64 x1, .int .i64 x2, .int .i64 x3, .int .i64 x4, .int .i64 x5] 3)).alloc
        (.cells #[.slice (some ⟨w.heap.size + 1, 0, none⟩) 6 6, .int .i64 6] 78)).drewN 12 :=
  seqN_w w x0 x1 x2 x3 x4 x5 5 5 6 x5 10 rfl rfl rfl hr (by decide) n0 n1

/-- A configuration as Config makes them. -/
def Cf.Small (c : Cf) : Prop := (1 ≤ c.wk ∧ c.wk ≤ 4) ∧ (1 ≤ c.ch ∧ c.ch ≤ 8) ∧ (c.wo = 8 ∨ c.wo = 16) ∧ (1 ≤ c.sl ∧ c.sl ≤ 4) ∧ (0 ≤ c.ca ∧ c.ca ≤ 3) ∧ (1 ≤ c.ba ∧ c.ba ≤ 3)
theorem Cf.Small.may {c : Cf} (h : c.Small) : mayB c = true := by
  obtain ⟨_, _, _, _, _, _⟩ := h
  refine mayB_iff.2 ⟨?_, ?_, ?_, ?_, ?_, ?_⟩ <;> omega

set_option maxHeartbeats 2000000 in
theorem config_any (v : Int) (w : World) :
    Calls Tryz.prog 6 #[.int .i64 v] w fun e w' => ∃ c : Cf, e = .returned c.v ∧ c.Small ∧ Up w w' := by
  obtain ⟨x0, f0, g0, l0, u0⟩ := emod_letter v 4 (by decide)
  obtain ⟨x1, f1, g1, l1, u1⟩ := emod_letter (wrap64 (v.tdiv 4)) 8 (by decide)
  obtain ⟨x2, f2, g2, l2, u2⟩ := emod_letter (wrap64 (v.tdiv 32)) 2 (by decide)
  obtain ⟨x3, f3, g3, l3, u3⟩ := emod_letter (wrap64 (v.tdiv 64)) 4 (by decide)
  obtain ⟨x4, f4, g4, l4, u4⟩ := emod_letter (wrap64 (v.tdiv 256)) 4 (by decide)
  obtain ⟨x5, f5, g5, l5, u5⟩ := emod_letter (wrap64 (v.tdiv 1024)) 3 (by decide)
  have F0 := Lib.hid f0
  have F1 := Lib.hid f1
  have F2 := Lib.hid f2
  have F3 := Lib.hid f3
  have F4 := Lib.hid f4
  have F5 := Lib.hid f5
  have G0 := Lib.hid g0
  have G1 := Lib.hid g1
  have G2 := Lib.hid g2
  have G3 := Lib.hid g3
  have G4 := Lib.hid g4
  have G5 := Lib.hid g5
  clear f0 f1 f2 f3 f4 f5 g0 g1 g2 g3 g4 g5
  have sd : ∀ (w : World) (n : Nat) (a : Addr) (v : Value), (w.drewN n).setCell a v = (w.setCell a v).drewN n := fun _ _ _ _ => rfl
  go_enter Tryz.func6, Tryz.ntmps6
  go_wp2_with (first
    | (go_at_call 9; (with_reducible refine (number_is F0.out (by decide) (by decide) _).mono ?_); rintro e w' ⟨rfl, rfl⟩)
    | (go_at_call 9; (with_reducible refine (number_is F1.out (by decide) (by decide) _).mono ?_); rintro e w' ⟨rfl, rfl⟩)
    | (go_at_call 9; (with_reducible refine (number_is F2.out (by decide) (by decide) _).mono ?_); rintro e w' ⟨rfl, rfl⟩)
    | (go_at_call 9; (with_reducible refine (number_is F3.out (by decide) (by decide) _).mono ?_); rintro e w' ⟨rfl, rfl⟩)
    | (go_at_call 9; (with_reducible refine (number_is F4.out (by decide) (by decide) _).mono ?_); rintro e w' ⟨rfl, rfl⟩)
    | (go_at_call 9; (with_reducible refine (number_is F5.out (by decide) (by decide) _).mono ?_); rintro e w' ⟨rfl, rfl⟩)
    | (go_at_call 28; (with_reducible refine (seqN_1 w x0 x1 x2 x3 x4 x5 G1.out (by decide) (by decide)).mono ?_); rintro e w' ⟨rfl, rfl⟩)
    | (go_at_call 28; (with_reducible refine (seqN_2 w x0 x1 x2 x3 x4 x5 G2.out (by decide) (by decide)).mono ?_); rintro e w' ⟨rfl, rfl⟩)
    | (go_at_call 28; (with_reducible refine (seqN_3 w x0 x1 x2 x3 x4 x5 G3.out (by decide) (by decide)).mono ?_); rintro e w' ⟨rfl, rfl⟩)
    | (go_at_call 28; (with_reducible refine (seqN_4 w x0 x1 x2 x3 x4 x5 G4.out (by decide) (by decide)).mono ?_); rintro e w' ⟨rfl, rfl⟩)
    | (go_at_call 28; (with_reducible refine (seqN_5 w x0 x1 x2 x3 x4 x5 G5.out (by decide) (by decide)).mono ?_); rintro e w' ⟨rfl, rfl⟩)
    | (go_at_call 28; (with_reducible refine (seqN_0 w x0 x1 x2 x3 x4 x5 G0.out (by decide) (by decide)).mono ?_); rintro e w' ⟨rfl, rfl⟩))
  refine bodyPost_ret (v := (⟨1 + x0, 1 + x1, 8 + 8 * x2, 1 + x3, x4, 1 + x5⟩ : Cf).v) (by simp [results, Tryz.results6, go_sem]) rfl ⟨⟨1 + x0, 1 + x1, 8 + 8 * x2, 1 + x3, x4, 1 + x5⟩, rfl, ?_, ?_⟩
  · unfold Cf.Small
    dsimp only
    omega
  · exact (((Up.alloc _ _).then_alloc _).then_alloc _).then_drewN _
end Go.Proofs.YtkopplnjomkleaaGreat
