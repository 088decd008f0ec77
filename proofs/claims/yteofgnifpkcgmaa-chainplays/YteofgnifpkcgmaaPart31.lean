/-
  Texts beneath ChainPlays, part 31: Part16.
-/
import Derived.Test.YteofgnifpkcgmaaPart30
import Derived.Lib.SmallJoins
/-
  Texts beneath ChainPlays, part 16: ChRef, ChRef2, ChBehind, RowsIn.
-/
/-
  The reference's chains over its memory (RP): Set, Walk, Behind.
-/
namespace Go.Proofs.Yteofgnifpkcgmaa
open Go.RowKit
open W64
set_option maxRecDepth 100000
set_option linter.unusedSimpArgs false
/-- The document's W lies at k, over the memory at p (its cells at g), its pool at qp; the links begin at lk; n chunks. -/
structure RP (w : World) (k p g qp qs qe : Nat) (c : Cf) (lk n : Nat) (xs : List Int) (cnt : Int) : Prop where
  obj : Whole w k 51 #[.int .i64 c.wk, .int .i64 c.ch, .int .i64 c.wo, .int .i64 c.sl, .int .i64 c.ca, .int .i64 c.ba, .pointer (some ⟨p, 0, none⟩), .pointer (some ⟨qp, 0, none⟩), .pointer (some ⟨qs, 0, none⟩), .pointer (some ⟨qe, 0, none⟩)]
  env : REnv w p g qp 0 lk n xs cnt
  may : mayB c = true
  hk : (lk : Int) = 3 + c.wk + 2 * c.sl
  hn : (n : Int) = c.ch
section
variable {w0 w w' : World} {k p g qp qs qe lk n b : Nat} {c : Cf} {xs xs' : List Int} {cnt cnt' : Int} {v : Value} {L : List Nat} {fin : Bool}
theorem RP.kp (R : RP w k p g qp qs qe c lk n xs cnt) : k ≠ p := R.obj.ne_type R.env.mem.top (by decide)
theorem RP.kg (R : RP w k p g qp qs qe c lk n xs cnt) : k ≠ g := R.obj.ne_type R.env.mem.row (by decide)
theorem RP.turn (R : RP w k p g qp qs qe c lk n xs cnt) (m : Ref w' p g xs' cnt') {x : List Nat} (u : Else x w w') (h1 : k ∉ x) (h2 : qp ∉ x) (ok : Words xs') (hl : xs'.length = xs.length) : RP w' k p g qp qs qe c lk n xs' cnt' :=
  ⟨u.whole R.obj h1, R.env.turn m u h2 ok hl, R.may, R.hk, R.hn⟩
theorem RP.else (R : RP w k p g qp qs qe c lk n xs cnt) {x : List Nat} (u : Else x w w') (h : p ∉ x ∧ g ∉ x ∧ qp ∉ x ∧ k ∉ x) : RP w' k p g qp qs qe c lk n xs cnt :=
  ⟨u.whole R.obj h.2.2.2, R.env.else u h.1 h.2.1 h.2.2.1, R.may, R.hk, R.hn⟩
theorem RP.up (R : RP w k p g qp qs qe c lk n xs cnt) (u : Up w w') : RP w' k p g qp qs qe c lk n xs cnt := ⟨R.obj.up u, R.env.up u, R.may, R.hk, R.hn⟩
theorem RP.at (R : RP w k p g qp qs qe c lk n xs cnt) {i : Nat} (h : i < n) : llinkN c (i : Int) = ((lk + i : Nat) : Int) ∧ lk + i < xs.length := by
  have h1 := R.hk
  have h2 := R.hn
  have h3 := R.env.hl
  refine ⟨?_, by omega⟩
  unfold llinkN
  rw [atN_is R.may (by omega) (by omega)]
  omega
theorem RP.nn (R : RP w k p g qp qs qe c lk n xs cnt) : 6 ≤ lk ∧ 1 ≤ n ∧ n ≤ 4096 ∧ xs.length ≤ 8388608 := by
  have h1 := R.hk
  obtain ⟨h2, _, _, h3, _⟩ := may_small R.may
  exact ⟨by omega, R.env.n0, R.env.n1, R.env.top⟩
theorem RP.cells (R : RP w k p g qp qs qe c lk n xs cnt) (u : Up w w') : w'.cell? ⟨k, 0, none⟩ = some (.int .i64 c.wk) ∧ w'.cell? ⟨k, 1, none⟩ = some (.int .i64 c.ch) ∧ w'.cell? ⟨k, 2, none⟩ = some (.int .i64 c.wo) ∧ w'.cell? ⟨k, 3, none⟩ = some (.int .i64 c.sl) ∧ w'.cell? ⟨k, 4, none⟩ = some (.int .i64 c.ca) ∧ w'.cell? ⟨k, 5, none⟩ = some (.int .i64 c.ba) ∧ w'.cell? ⟨k, 6, none⟩ = some (.pointer (some ⟨p, 0, none⟩)) ∧ w'.cell? ⟨k, 7, none⟩ = some (.pointer (some ⟨qp, 0, none⟩)) :=
  ⟨u.kept (R.obj.cell rfl), u.kept (R.obj.cell rfl), u.kept (R.obj.cell rfl), u.kept (R.obj.cell rfl), u.kept (R.obj.cell rfl), u.kept (R.obj.cell rfl), u.kept (R.obj.cell rfl), u.kept (R.obj.cell rfl)⟩
theorem rstorec_to {a y : Int} {j : Nat} (ha : a = (j : Int)) (m : Ref w p g xs cnt) (h : j < xs.length) :
    Calls Try.prog 41 #[.pointer (some ⟨p, 0, none⟩), .int .i64 a, .int .u64 y] w fun e w' => e = .returned (.tuple #[]) ∧ Ref w' p g (xs.set j y) (wrap64 (cnt + 1)) ∧ Else [p, g] w w' := by
  subst ha; exact rstore_in y m h
/-! ### A Set -/
def rseRow (k : Nat) (chunk bh : Int) (fin : Bool) : Array Value := #[.pointer (some ⟨k, 0, none⟩), .int .i64 chunk, .int .i64 bh, .bool fin]
/-- While a Set stores. -/
structure RSx (w0 : World) (b k p g qp qs qe : Nat) (c : Cf) (lk n : Nat) (rb : Array Value) (xs : List Int) (cnt : Int) (w : World) : Prop where
  rp : RP w k p g qp qs qe c lk n xs cnt
  row : Whole w b 40 rb
  he : Else [p, g] w0 w
variable {rb : Array Value}
theorem RSx.up (X : RSx w0 b k p g qp qs qe c lk n rb xs cnt w) (u : Up w w') : RSx w0 b k p g qp qs qe c lk n rb xs cnt w' := ⟨X.rp.up u, X.row.up u, X.he.up u⟩
theorem RSx.turn (X : RSx w0 b k p g qp qs qe c lk n rb xs cnt w) (m : Ref w' p g xs' cnt') (u : Else [p, g] w w') (ok : Words xs') (hl : xs'.length = xs.length) : RSx w0 b k p g qp qs qe c lk n rb xs' cnt' w' := by
  have h1 := X.row.ne_type X.rp.env.mem.top (by decide)
  have h2 := X.row.ne_type X.rp.env.mem.row (by decide)
  exact ⟨X.rp.turn m u (by simp [X.rp.kp, X.rp.kg]) (by simp [X.rp.env.np, X.rp.env.ng]) ok hl, u.whole X.row (by simp [h1, h2]), X.he.trans u⟩
theorem RSx.cells {i : Nat} {bh : Int} {f : Bool} (X : RSx w0 b k p g qp qs qe c lk n (rseRow k i bh f) xs cnt w) (u : Up w w') :
    w'.cell? ⟨b, 0, none⟩ = some (.pointer (some ⟨k, 0, none⟩)) ∧ w'.cell? ⟨b, 1, none⟩ = some (.int .i64 (i : Int)) ∧ w'.cell? ⟨b, 2, none⟩ = some (.int .i64 bh) ∧ w'.cell? ⟨k, 0, none⟩ = some (.int .i64 c.wk) ∧ w'.cell? ⟨k, 1, none⟩ = some (.int .i64 c.ch) ∧ w'.cell? ⟨k, 2, none⟩ = some (.int .i64 c.wo) ∧ w'.cell? ⟨k, 3, none⟩ = some (.int .i64 c.sl) ∧ w'.cell? ⟨k, 4, none⟩ = some (.int .i64 c.ca) ∧ w'.cell? ⟨k, 5, none⟩ = some (.int .i64 c.ba) ∧ w'.cell? ⟨k, 6, none⟩ = some (.pointer (some ⟨p, 0, none⟩)) ∧ w'.cell? ⟨k, 7, none⟩ = some (.pointer (some ⟨qp, 0, none⟩)) :=
  ⟨u.kept (X.row.cell rfl), u.kept (X.row.cell rfl), u.kept (X.row.cell rfl), X.rp.cells u⟩
set_option maxHeartbeats 8000000 in
theorem rseStep {i : Nat} {bh : Int} (R : RP w k p g qp qs qe c lk n xs cnt) (B : Whole w b 40 (rseRow k i bh false)) (hi : i < n) (h0 : -1 ≤ bh) (h1 : bh < n) :
    Calls Try.prog 14 #[.pointer (some ⟨b, 0, none⟩)] w fun e w' => e = .returned (.bool true) ∧ RP w' k p g qp qs qe c lk n (xs.set (lk + i) (bh + 1)) (wrap64 (cnt + 1)) ∧ Else [b, p, g] w w' := by
  obtain ⟨_, n0, n1, _⟩ := R.nn
  have HAT := Lib.hid (R.at hi)
  have HBH := Lib.hid (show 0 ≤ bh + 1 ∧ bh + 1 < 18446744073709551616 by omega)
  have k1 : IntKind.i64.wrap (bh + 1) = bh + 1 := IntWalk.i64_in _ (by omega)
  have k2 : wrap64 (bh + 1) = bh + 1 := wrap64_in (by omega) (by omega)
  have k3 : IntKind.u64.wrap (bh + 1) = bh + 1 := IntWalk.u64_in _ (by omega)
  have HX0 := Lib.hid (show RSx w b k p g qp qs qe c lk n (rseRow k i bh false) xs cnt w from ⟨R, B, Else.refl _ _⟩)
  have HC0 := Lib.hid (HX0.out.cells (up_drew w))
  have b0 := B.cell (i := 0) (v := .pointer (some ⟨k, 0, none⟩)) rfl
  have b3 := B.cell (i := 3) (v := .bool false) rfl
  clear R B hi h0 h1
  go_enter Try.func14, Try.ntmps14
  go_upto_region 3 with fail
  clear b0 b3
  go_region_held3 (fun w' => w'.cell? ⟨b, 0, none⟩ = some (.pointer (some ⟨k, 0, none⟩)) ∧ w'.cell? ⟨b, 1, none⟩ = some (.int .i64 (i : Int)) ∧ w'.cell? ⟨b, 2, none⟩ = some (.int .i64 bh) ∧ w'.cell? ⟨k, 0, none⟩ = some (.int .i64 c.wk) ∧ w'.cell? ⟨k, 1, none⟩ = some (.int .i64 c.ch) ∧ w'.cell? ⟨k, 2, none⟩ = some (.int .i64 c.wo) ∧ w'.cell? ⟨k, 3, none⟩ = some (.int .i64 c.sl) ∧ w'.cell? ⟨k, 4, none⟩ = some (.int .i64 c.ca) ∧ w'.cell? ⟨k, 5, none⟩ = some (.int .i64 c.ba) ∧ w'.cell? ⟨k, 6, none⟩ = some (.pointer (some ⟨p, 0, none⟩)) ∧ w'.cell? ⟨k, 7, none⟩ = some (.pointer (some ⟨qp, 0, none⟩)))
    ((first | with_reducible exact HC3.out | with_reducible exact HC2.out | with_reducible exact HC0.out))
    (first
      | (go_at_call 17; refine (rlinkat_to c HAT.out.1 _).mono ?_; rintro e w2 ⟨rfl, U2⟩; have HX2 := Lib.hid (HX0.out.up ((up_drew w).trans U2)); have HC2 := Lib.hid (HX2.out.cells (Up.refl _)); clear U2)
      | (go_at_call 41; refine (rstorec_to rfl HX2.out.rp.env.mem HAT.out.2).mono ?_; rintro e w3 ⟨rfl, M3, E3⟩; have HX3 := Lib.hid (HX2.out.turn M3 E3 (ok_set HX2.out.rp.env.ok HBH.out.1 HBH.out.2) (by simp)); have HC3 := Lib.hid (HX3.out.cells (Up.refl _)); clear M3 E3))
  have b3 := HX3.out.row.cell (i := 3) rfl
  have f3 := HX3.out.row.frozen 3
  go_wp2_with fail
  go_ret
  have u : Else [b] w3 (w3.setCell ⟨b, 3, none⟩ (.bool true)) := (Else.refl [b] w3).set (.inl (by simp)) _
  have a1 := HX3.out.row.ne_type HX3.out.rp.env.mem.top (by decide)
  have a2 := HX3.out.row.ne_type HX3.out.rp.env.mem.row (by decide)
  have a3 := HX3.out.row.ne_type HX3.out.rp.env.stk (by decide)
  have a4 := HX3.out.row.ne_type HX3.out.rp.obj (by decide)
  exact ⟨rfl, HX3.out.rp.else u (by simp [a1.symm, a2.symm, a3.symm, a4.symm]), (HX3.out.he.wide b).trans (u.more (by simp))⟩
end
end Go.Proofs.Yteofgnifpkcgmaa

/-
  The reference's Walk: its access as plain data (wkGo), its Step; it begins.
-/
namespace Go.Proofs.Yteofgnifpkcgmaa
open Go.RowKit
open W64
set_option maxRecDepth 100000
set_option linter.unusedSimpArgs false
/-- The document's Walk lies at b, its chunks in v. -/
structure RWkM (w : World) (b k : Nat) (v : Value) (L : List Nat) (fin : Bool) : Prop where
  row : Whole w b 60 #[.pointer (some ⟨k, 0, none⟩), v, .bool fin]
  ints : Ints w v (I L)
/-- While it loads. -/
structure RWx (w0 : World) (b k p g qp qs qe : Nat) (v : Value) (L : List Nat) (c : Cf) (lk n : Nat) (xs : List Int) (cnt : Int) (w : World) : Prop where
  rp : RP w k p g qp qs qe c lk n xs cnt
  row : Whole w b 60 #[.pointer (some ⟨k, 0, none⟩), v, .bool false]
  ints : Ints w v (I L)
  he : Else [p, g] w0 w
/-- What it leaves. -/
structure RWkOut (w : World) (k p g qp qs qe : Nat) (c : Cf) (lk n : Nat) (xs : List Int) (cnt : Int) (b : Nat) (v v' : Value) (L : List Nat) (fin : Bool) (w' : World) : Prop where
  rp : RP w' k p g qp qs qe c lk n xs cnt
  mach : RWkM w' b k v' L fin
  he : Else (wkOwn b p g v) w w'
  near : v'.ownBlock = v.ownBlock ∨ ∀ k, v'.ownBlock = some k → w.heap.size ≤ k
section
variable {w0 w w' : World} {k p g qp qs qe lk n b r N M cp x : Nat} {c : Cf} {xs xs' : List Int} {cnt cnt' : Int} {v : Value} {L : List Nat} {fin : Bool}
theorem RWkM.up (X : RWkM w b k v L fin) (u : Up w w') : RWkM w' b k v L fin := ⟨X.row.up u, X.ints.up u⟩
theorem RWx.up (X : RWx w0 b k p g qp qs qe v L c lk n xs cnt w) (u : Up w w') : RWx w0 b k p g qp qs qe v L c lk n xs cnt w' := ⟨X.rp.up u, X.row.up u, X.ints.up u, X.he.up u⟩
theorem RWx.off (X : RWx w0 b k p g qp qs qe v L c lk n xs cnt w) : b ≠ p ∧ b ≠ g ∧ b ≠ qp ∧ b ≠ k :=
  ⟨X.row.ne_type X.rp.env.mem.top (by decide), X.row.ne_type X.rp.env.mem.row (by decide), X.row.ne_type X.rp.env.stk (by decide), X.row.ne_type X.rp.obj (by decide)⟩
theorem RWx.vo (X : RWx w0 b k p g qp qs qe v L c lk n xs cnt w) : v.ownBlock ≠ some b ∧ v.ownBlock ≠ some p ∧ v.ownBlock ≠ some g ∧ v.ownBlock ≠ some qp ∧ v.ownBlock ≠ some k :=
  ⟨ints_off X.ints X.row (by decide), ints_off X.ints X.rp.env.mem.top (by decide), ints_off X.ints X.rp.env.mem.row (by decide), ints_off X.ints X.rp.env.stk (by decide), ints_off X.ints X.rp.obj (by decide)⟩
theorem RWx.turn (X : RWx w0 b k p g qp qs qe v L c lk n xs cnt w) (m : Ref w' p g xs' cnt') (u : Else [p, g] w w') (ok : Words xs') (hl : xs'.length = xs.length) : RWx w0 b k p g qp qs qe v L c lk n xs' cnt' w' := by
  have h := X.vo
  obtain ⟨h1, h2, _, _⟩ := X.off
  refine ⟨X.rp.turn m u (by simp [X.rp.kp, X.rp.kg]) (by simp [X.rp.env.np, X.rp.env.ng]) ok hl, u.whole X.row (by simp [h1, h2]), X.ints.else u ?_, X.he.trans u⟩
  intro j hj
  simp at hj
  rcases hj with rfl | rfl
  · exact h.2.1
  · exact h.2.2.1
theorem RWx.look (X : RWx w0 b k p g qp qs qe (.slice (some ⟨r, 0, none⟩) N cp) L c lk n xs cnt w) (hL : L ≠ []) (hx : L.getLastD 0 = x) (hM : N - 1 = M) (u : Up w w') : w'.cell? ⟨b, 0, none⟩ = some (.pointer (some ⟨k, 0, none⟩)) ∧ w'.cell? ⟨b, 1, none⟩ = some (.slice (some ⟨r, 0, none⟩) N cp) ∧ w'.cell? ⟨r, M, none⟩ = some (.int .i64 (x : Int)) ∧ w'.cell? ⟨k, 0, none⟩ = some (.int .i64 c.wk) ∧ w'.cell? ⟨k, 1, none⟩ = some (.int .i64 c.ch) ∧ w'.cell? ⟨k, 2, none⟩ = some (.int .i64 c.wo) ∧ w'.cell? ⟨k, 3, none⟩ = some (.int .i64 c.sl) ∧ w'.cell? ⟨k, 4, none⟩ = some (.int .i64 c.ca) ∧ w'.cell? ⟨k, 5, none⟩ = some (.int .i64 c.ba) ∧ w'.cell? ⟨k, 6, none⟩ = some (.pointer (some ⟨p, 0, none⟩)) ∧ w'.cell? ⟨k, 7, none⟩ = some (.pointer (some ⟨qp, 0, none⟩)) := by
  obtain ⟨r', e, _, hc⟩ := ints_last X.ints hL
  injection e with e; injection e with e; subst e
  rw [hx, hM] at hc
  exact ⟨u.kept (X.row.cell rfl), u.kept (X.row.cell rfl), u.kept hc, X.rp.cells u⟩
theorem RWx.end_ (X : RWx w0 b k p g qp qs qe v L c lk n xs cnt w) (he : wkEnd n lk xs L = true) : RWkOut w0 k p g qp qs qe c lk n xs cnt b v v (wkGo n lk xs L) (wkEnd n lk xs L) (w.setCell ⟨b, 2, none⟩ (.bool true)) := by
  have u : Else [b] w (w.setCell ⟨b, 2, none⟩ (.bool true)) := (Else.refl [b] w).set (.inl (by simp)) _
  obtain ⟨h1, h2, h3, h4⟩ := X.off
  refine ⟨X.rp.else u (by simp [h1.symm, h2.symm, h3.symm, h4.symm]), ⟨?_, ?_⟩, ?_, .inl rfl⟩
  · rw [he]; exact X.row.set 2 (.bool true)
  · unfold wkGo
    rw [if_pos he]
    refine X.ints.else u ?_
    intro j hj
    simp at hj
    subst hj
    exact X.vo.1
  · refine (X.he.more ?_).trans (u.more ?_)
    · intro k hk; simp [wkOwn] at hk ⊢; rcases hk with h | h <;> simp [h]
    · intro k hk; simp [wkOwn] at hk ⊢; exact .inl hk
theorem RWx.more {v' : Value} {w2 : World} {y : Nat} (X : RWx w0 b k p g qp qs qe v L c lk n xs cnt w) (he : wkEnd n lk xs L = false) (hy : lastN n lk xs L = (y : Int))
    (J : Ints w2 v' (I L ++ [(y : Int)])) (G : (w.alloc (.cells #[.int .i64 (y : Int)] 3)).grownBy w2 v.ownBlock) (A : v'.ownBlock = v.ownBlock ∨ v'.ownBlock = some (w.alloc (.cells #[.int .i64 (y : Int)] 3)).heap.size) : RWkOut w0 k p g qp qs qe c lk n xs cnt b v v' (wkGo n lk xs L) (wkEnd n lk xs L) (w2.setCell ⟨b, 1, none⟩ v') := by
  have e1 : Else (blk v) w w2 := Else.grown (Else.of_up (Up.alloc w _)) G (fun k hk => .inl (mem_blk.2 hk))
  have h := X.vo
  obtain ⟨h1, h2, h3, h4⟩ := X.off
  have nb : ∀ k, v.ownBlock ≠ some k → k ∉ blk v := fun k hk hm => hk (mem_blk.1 hm)
  have u : Else [b] w2 (w2.setCell ⟨b, 1, none⟩ v') := (Else.refl [b] w2).set (.inl (by simp)) _
  have B2 := e1.whole X.row (nb _ h.1)
  have C2 := X.rp.else e1 ⟨nb _ h.2.1, nb _ h.2.2.1, nb _ h.2.2.2.1, nb _ h.2.2.2.2⟩
  have hs : (w.alloc (.cells #[.int .i64 (y : Int)] 3)).heap.size = w.heap.size + 1 := by simp
  rw [hs] at A
  refine ⟨C2.else u (by simp [h1.symm, h2.symm, h3.symm, h4.symm]), ⟨?_, ?_⟩, ?_, ?_⟩
  · rw [he]; exact B2.set 1 v'
  · unfold wkGo
    rw [if_neg (by simp [he]), hy, Int.toNat_natCast, I_app]
    refine J.else u ?_
    intro k hk
    simp at hk
    subst hk
    rcases A with A | A
    · rw [A]; exact h.1
    · rw [A]; intro e; injection e with e; have := X.row.lt; omega
  · refine ((X.he.more ?_).trans (e1.more ?_)).trans (u.more ?_)
    · intro k hk; simp [wkOwn] at hk ⊢; rcases hk with h | h <;> simp [h]
    · intro k hk; simp [wkOwn]; exact .inr (.inr (.inr hk))
    · intro k hk; simp [wkOwn] at hk ⊢; exact .inl hk
  · rcases A with A | A
    · exact .inl A
    · refine .inr fun k hk => ?_
      rw [A] at hk
      injection hk with hk
      have := X.he.size
      omega
set_option maxHeartbeats 8000000 in
theorem rwkStep (R : RP w k p g qp qs qe c lk n xs cnt) (W : RWkM w b k v L false) (hL : L ≠ []) (ha : ∀ x ∈ L, x < n) (hle : L.length ≤ n) :
    Calls Try.prog 23 #[.pointer (some ⟨b, 0, none⟩)] w fun e w' => e = .returned (.bool true) ∧ ∃ v', RWkOut w k p g qp qs qe c lk n xs (wrap64 (cnt + 1)) b v v' (wkGo n lk xs L) (wkEnd n lk xs L) w' := by
  obtain ⟨B, J⟩ := W
  obtain ⟨A, N, cp, rfl⟩ := shapeI J
  obtain ⟨r, rfl, hN, _⟩ := ints_last J hL
  obtain ⟨m, hm⟩ : ∃ m, L.length = m := ⟨_, rfl⟩
  obtain ⟨x, hx⟩ : ∃ x, L.getLastD 0 = x := ⟨_, rfl⟩
  obtain ⟨z, hz⟩ : ∃ z, xs.getD (lk + x) 0 = z := ⟨_, rfl⟩
  obtain ⟨y, hy⟩ : ∃ y, belowN n z = y := ⟨_, rfl⟩
  have hxn := last_in hL ha
  rw [hx] at hxn
  have hp := List.length_pos_iff.2 hL
  obtain ⟨_, n0, n1, _⟩ := R.nn
  have hw := R.env.ok (lk + x)
  rw [hz] at hw
  have HLN := Lib.hid (show lastN n lk xs L = y by unfold lastN; rw [hx, hz, hy])
  have HYI := Lib.hid (belowN_in (n := n) hw.1 n0)
  rw [hy] at HYI
  have HAT := Lib.hid (R.at hxn)
  have HB := Lib.hid (And.intro hy hw)
  have HZ := Lib.hid hz
  have HX := Lib.hid hx
  have HL := Lib.hid hL
  have HM := Lib.hid hm
  have HNC := Lib.hid R.hn
  have HWD := Lib.hid (show Words xs from R.env.ok)
  rw [hm] at hN hp hle
  subst hN
  obtain ⟨M, hM⟩ : ∃ M, N - 1 = M := ⟨_, rfl⟩
  have HMM := Lib.hid hM
  have HX0 := Lib.hid (show RWx w b k p g qp qs qe (.slice (some ⟨r, 0, none⟩) N cp) L c lk n xs cnt w from ⟨R, B, J, Else.refl _ _⟩)
  have HC0 := Lib.hid (HX0.out.look hL hx HMM.out (up_drew w))
  have e1 : (N : Int) - 1 = (M : Int) := by omega
  have k1 : IntKind.i64.wrap ((N : Int) - 1) = (M : Int) := by rw [e1]; exact IntWalk.i64_in _ (by omega)
  have k2 : wrap64 ((N : Int) - 1) = (M : Int) := by rw [e1]; exact wrap64_in (by omega) (by omega)
  have k3 : (0 : Int) ≤ (M : Int) := Int.natCast_nonneg _
  have k4 : (M : Int) < (N : Int) := by omega
  have b2 := B.cell (i := 2) (v := .bool false) rfl
  clear e1 hM
  clear R B J hL ha hm hx hz hy hw
  go_enter Try.func23, Try.ntmps23
  go_upto_region 3 with fail
  clear b2
  go_region_held3 (fun w' => w'.cell? ⟨b, 0, none⟩ = some (.pointer (some ⟨k, 0, none⟩)) ∧ w'.cell? ⟨b, 1, none⟩ = some (.slice (some ⟨r, 0, none⟩) N cp) ∧ w'.cell? ⟨r, M, none⟩ = some (.int .i64 (x : Int)) ∧ w'.cell? ⟨k, 0, none⟩ = some (.int .i64 c.wk) ∧ w'.cell? ⟨k, 1, none⟩ = some (.int .i64 c.ch) ∧ w'.cell? ⟨k, 2, none⟩ = some (.int .i64 c.wo) ∧ w'.cell? ⟨k, 3, none⟩ = some (.int .i64 c.sl) ∧ w'.cell? ⟨k, 4, none⟩ = some (.int .i64 c.ca) ∧ w'.cell? ⟨k, 5, none⟩ = some (.int .i64 c.ba) ∧ w'.cell? ⟨k, 6, none⟩ = some (.pointer (some ⟨p, 0, none⟩)) ∧ w'.cell? ⟨k, 7, none⟩ = some (.pointer (some ⟨qp, 0, none⟩)))
    ((first | with_reducible exact HC3.out | with_reducible exact HC2.out | with_reducible exact HC0.out))
    (first
      | (go_at_call 17; refine (rlinkat_to c HAT.out.1 _).mono ?_; rintro e w2 ⟨rfl, U2⟩; have HX2 := Lib.hid (HX0.out.up ((up_drew w).trans U2)); have HC2 := Lib.hid (HX2.out.look HL.out HX.out HMM.out (Up.refl _)); clear U2)
      | (go_at_call 52; refine (rloadc_to rfl HX2.out.rp.env.mem HAT.out.2 HZ.out).mono ?_; rintro e w3 ⟨rfl, M3, E3⟩; have HX3 := Lib.hid (HX2.out.turn M3 E3 HWD.out rfl); have HC3 := Lib.hid (HX3.out.look HL.out HX.out HMM.out (Up.refl _)); clear M3 E3)
      | (go_at_call 48; (with_reducible refine (rbelow_to HX3.out.rp.env HB.out.2.1 HB.out.2.2 HB.out.1).mono ?_); rintro e w4 ⟨rfl, rfl⟩))
  have b0 := HX3.out.row.cell (i := 0) (v := .pointer (some ⟨k, 0, none⟩)) rfl
  have b1 := HX3.out.row.cell (i := 1) (v := .slice (some ⟨r, 0, none⟩) N cp) rfl
  have q2 := HX3.out.rp.obj.cell (i := 1) (v := .int .i64 c.ch) rfl
  go_upto_region 4 with fail
  by_cases hy : y < 0
  · have HEN := Lib.hid (show wkEnd n lk xs L = true by unfold wkEnd; rw [HLN.out]; exact decide_eq_true (.inl (by have := HYI.out; omega)))
    have g1 : decide (y < 0) = true := decide_eq_true hy
    go_quiet (fail)
    have HX4 := Lib.hid (HX3.out.up (Up.drewN _ nq))
    clear b0 b1 q2
    have b2 := HX4.out.row.cell (i := 2) rfl
    have f2 := HX4.out.row.frozen 2
    go_wp2_with fail
    go_ret
    exact ⟨rfl, _, HX4.out.end_ HEN.out⟩
  · have g1 : decide (y < 0) = false := decide_eq_false hy
    by_cases hl : N = n
    · have HEN := Lib.hid (show wkEnd n lk xs L = true by unfold wkEnd; rw [HM.out]; exact decide_eq_true (.inr hl))
      have g2 : ((N : Int) == c.ch) = true := by rw [← HNC.out, hl]; simp
      clear hl
      go_quiet (fail)
      have HX4 := Lib.hid (HX3.out.up (Up.drewN _ nq))
      clear b0 b1 q2
      have b2 := HX4.out.row.cell (i := 2) rfl
      have f2 := HX4.out.row.frozen 2
      go_wp2_with fail
      go_ret
      exact ⟨rfl, _, HX4.out.end_ HEN.out⟩
    · have HEN := Lib.hid (show wkEnd n lk xs L = false by unfold wkEnd; rw [HM.out, HLN.out]; exact decide_eq_false (fun h => h.elim (by omega) hl))
      have g2 : ¬ (N : Int) = c.ch := by have := HNC.out; omega
      have g3 : ((N : Int) == c.ch) = false := by simpa using g2
      go_quiet (fail)
      have HX4 := Lib.hid (HX3.out.up (Up.drewN _ nq))
      clear b0 b1 q2
      obtain ⟨j, rfl⟩ : ∃ j : Nat, y = j := ⟨y.toNat, by omega⟩
      have b1 := HX4.out.row.cell (i := 1) (v := .slice (some ⟨r, 0, none⟩) N cp) rfl
      have f1 := HX4.out.row.frozen 1
      generalize w3.drewN nq = w4 at *
      go_wp2_with (at_builtin; refine wpList_app rfl _ _ rfl rfl rfl (HX4.out.ints.up (Up.alloc _ _)) (rd_one _ (j : Int)) (by rw [I_len, HM.out]; simp; omega) ?_; intro v5 w5 J5 G5 A5; obtain ⟨A5v, N5, c5v, rfl⟩ := shapeI J5; have HJ5 := Lib.hid J5; have HK5 := Lib.hid (HX4.out.more HEN.out HLN.out J5 G5 A5); have HG5 := Lib.hid ((Else.of_up (s := blk (.slice (some ⟨r, 0, none⟩) N cp)) (Up.alloc w4 (.cells #[.int .i64 (j : Int)] 3))).grown G5 (fun k hk => .inl (mem_blk.2 hk))); have b9 := HG5.out.kept b1 (fun h => HX4.out.vo.1 (mem_blk.1 h)); have f9 := (HG5.out.whole HX4.out.row (fun h => HX4.out.vo.1 (mem_blk.1 h))).frozen 1; clear J5 G5 A5)
      go_ret
      exact ⟨rfl, _, HK5.out⟩
set_option maxHeartbeats 1000000 in
theorem rwkStep_no (W : RWkM w b k v L true) : Calls Try.prog 23 #[.pointer (some ⟨b, 0, none⟩)] w fun e w' => e = .returned (.bool false) ∧ w = w' := by
  have b2 := W.row.cell (i := 2) (v := .bool true) rfl
  clear W
  go_enter Try.func23, Try.ntmps23
  go_wp2_with fail
  go_ret
  exact ⟨rfl, rfl⟩
set_option maxHeartbeats 1000000 in
theorem rwkNew {i : Nat} (w : World) (k : Nat) : Calls Try.prog 22 #[.pointer (some ⟨k, 0, none⟩), .int .i64 (i : Int)] w fun e w' => ∃ b v, e = .returned (.pointer (some ⟨b, 0, none⟩)) ∧ RWkM w' b k v [i] false ∧ w.heap.size ≤ b ∧ Fresh w v ∧ Up w w' := by
  go_enter Try.func22, Try.ntmps22
  go_wp2_with fail
  go_ret
  refine ⟨_, .slice (some ⟨w.heap.size, 0, none⟩) 1 1, rfl, ⟨?_, ?_⟩, ?_, ?_, ?_⟩
  · have h := Whole.new (w.alloc (.cells #[.int .i64 (i : Int)] 3)) 60 #[.pointer (some ⟨k, 0, none⟩), .slice (some ⟨w.heap.size, 0, none⟩) 1 1, .bool false]
    have e : (w.alloc (.cells #[.int .i64 (i : Int)] 3)).heap.size = w.heap.size + 1 := by simp
    rw [e] at h
    exact h
  · exact (ints_new w (i : Int)).up (Up.alloc _ _)
  · simp
  · intro j hj; simp [Value.ownBlock] at hj; omega
  · exact (Up.alloc _ _).then_alloc _
end
end Go.Proofs.Yteofgnifpkcgmaa

/-
  The reference's Behind: the chunks behind one, whatever the cells hold.
-/
namespace Go.Proofs.Yteofgnifpkcgmaa
open Go.RowKit
open W64
set_option maxRecDepth 100000
set_option linter.unusedSimpArgs false
section
variable {w w' : World} {k p g qp qs qe lk n b : Nat} {c : Cf} {xs xs' : List Int} {cnt cnt' : Int}
set_option maxHeartbeats 4000000 in
theorem rBehind (R : RP w k p g qp qs qe c lk n xs cnt) {f : Int} (f0 : -1 ≤ f) (f1 : f < n) :
    Calls Try.prog 20 #[.pointer (some ⟨k, 0, none⟩), .int .i64 f] w fun e w' => ∃ v, e = .returned v ∧ Ints w' v (I (walkL n lk xs n f)) ∧ Fresh w v ∧ Up w w' := by
  obtain ⟨_, n0, n1, ht⟩ := R.nn
  have HNC := Lib.hid R.hn
  have HW := Lib.hid (show Words xs from R.env.ok)
  have HE := Lib.hid R
  obtain ⟨S, hS⟩ : ∃ S, walkL n lk xs n f = S := ⟨_, rfl⟩
  rw [hS]
  have HS := Lib.hid hS
  have HF0 := Lib.hid (And.intro f0 f1)
  obtain ⟨XL, hXL⟩ : ∃ X, xs.length = X := ⟨_, rfl⟩
  have HXL := Lib.hid hXL
  rw [hXL] at ht
  clear R hS f0 f1 hXL
  go_enter Try.func20, Try.ntmps20
  go_wp2_with fail
  go_loopw [5, 6] (fun v i wr => WalkRel w n lk xs S v i wr) (fun v _ _ => n - nOf v)
  case atStart => exact ⟨[], f, Nat.zero_le _, rfl, HF0.out.1, HF0.out.2, HS.out, Ints.nil _, fresh_nil _, Up.refl _⟩
  case round =>
    obtain ⟨T, j, hT, rfl, j0, j1, hS, J, F, hup⟩ := hrel
    obtain ⟨A, cp, rfl⟩ := J.slice
    obtain ⟨m, hm⟩ : ∃ m, T.length = m := ⟨_, rfl⟩
    rw [I_len, hm] at J F ⊢
    have HEr := Lib.hid (HE.out.up hup)
    have c1 := HEr.out.obj.cell (i := 1) (v := .int .i64 c.ch) rfl
    rw [← HNC.out] at c1
    have HJ := Lib.hid J
    have HF := Lib.hid F
    have HUP := Lib.hid hup
    have HSS := Lib.hid hS
    have HK := Lib.hid hm
    rw [hm] at hT
    clear J F hup hS hm
    by_cases hj : 0 ≤ j
    rotate_left
    · have HFI := Lib.hid (walk_end HSS.out (.inl (by omega)))
      go_wp2_with fail
      go_ret
      rw [HFI.out] at HJ
      exact ⟨_, rfl, HJ.out, HF.out, HUP.out⟩
    by_cases hlt : m < n
    · have g2 : (m : Int) < (n : Int) := by omega
      obtain ⟨x, rfl⟩ : ∃ x : Nat, j = x := ⟨j.toNat, by omega⟩
      have hx : x < n := by omega
      have hz := HW.out (lk + x)
      have HAT := Lib.hid (HE.out.at hx)
      obtain ⟨z, ez⟩ : ∃ z, xs.getD (lk + x) 0 = z := ⟨_, rfl⟩
      obtain ⟨y, ey⟩ : ∃ y, belowN n z = y := ⟨_, rfl⟩
      rw [ez] at hz
      have HN := Lib.hid (show (T ++ [x]) ++ walkL n lk xs (n - (T ++ [x]).length) y = S by
        rw [← ey, ← ez]; exact walk_more HSS.out (by rw [HK.out]; exact hlt))
      have HY := Lib.hid (show -1 ≤ y ∧ y < n by rw [← ey]; exact belowN_in hz.1 (by omega))
      have HB := Lib.hid (And.intro ey hz)
      have HZ := Lib.hid ez
      obtain ⟨a, ha⟩ : ∃ a, lk + x = a := ⟨_, rfl⟩
      have HA := Lib.hid ha
      have g3 : (0 : Int) ≤ (a : Int) := Int.natCast_nonneg _
      have g4 : (a : Int) < (XL : Int) := by have := HAT.out.2; rw [HXL.out] at this; omega
      have HLA := Lib.hid (show llinkN c (x : Int) = (a : Int) by rw [← ha]; exact HAT.out.1)
      clear ez ey hz ha
      go_upto_region 4 with (at_builtin; refine wpList_app rfl _ _ rfl rfl rfl (HJ.out.up (Up.alloc _ _)) (rd_one _ (x : Int)) (by rw [I_len, HK.out]; simp; omega) ?_; intro v5 w5 J5 G5 A5; obtain ⟨A5v, N5, c5', rfl⟩ := shapeI J5; have HJ5 := Lib.hid J5; have HU5 := Lib.hid (up_app (HUP.out.then_alloc _) G5 HF.out); have HF5 := Lib.hid (fresh_app HF.out (HUP.out.then_alloc (.cells #[.int .i64 (x : Int)] 3)).size A5); clear J5 G5 A5)
      clear c1
      have HED := Lib.hid (HE.out.up (HU5.out.trans (up_drew w5)))
      have HP := Lib.hid (show ∀ (w1 w2 : World), RP w1 k p g qp qs qe c lk n xs cnt → Up w1 w2 → w2.cell? ⟨p, 0, none⟩ = some (.slice (some ⟨g, 0, none⟩) XL XL) ∧ w2.cell? ⟨g, a, none⟩ = some (.int .u64 z) ∧ w2.cell? ⟨k, 0, none⟩ = some (.int .i64 c.wk) ∧ w2.cell? ⟨k, 1, none⟩ = some (.int .i64 c.ch) ∧ w2.cell? ⟨k, 2, none⟩ = some (.int .i64 c.wo) ∧ w2.cell? ⟨k, 3, none⟩ = some (.int .i64 c.sl) ∧ w2.cell? ⟨k, 4, none⟩ = some (.int .i64 c.ca) ∧ w2.cell? ⟨k, 5, none⟩ = some (.int .i64 c.ba) ∧ w2.cell? ⟨k, 6, none⟩ = some (.pointer (some ⟨p, 0, none⟩)) ∧ w2.cell? ⟨k, 7, none⟩ = some (.pointer (some ⟨qp, 0, none⟩)) by
        intro w1 w2 R u
        have r0 := R.env.mem.cells.1
        have rh := R.env.mem.cell (i := a) (by rw [← HA.out]; exact HAT.out.2)
        rw [HXL.out] at r0
        rw [← HA.out, HZ.out, HA.out] at rh
        exact ⟨u.kept r0, u.kept rh, R.cells u⟩)
      have HC0 := Lib.hid (HP.out _ _ HED.out (Up.refl _))
      go_region_held3 (fun w' => w'.cell? ⟨p, 0, none⟩ = some (.slice (some ⟨g, 0, none⟩) XL XL) ∧ w'.cell? ⟨g, a, none⟩ = some (.int .u64 z) ∧ w'.cell? ⟨k, 0, none⟩ = some (.int .i64 c.wk) ∧ w'.cell? ⟨k, 1, none⟩ = some (.int .i64 c.ch) ∧ w'.cell? ⟨k, 2, none⟩ = some (.int .i64 c.wo) ∧ w'.cell? ⟨k, 3, none⟩ = some (.int .i64 c.sl) ∧ w'.cell? ⟨k, 4, none⟩ = some (.int .i64 c.ca) ∧ w'.cell? ⟨k, 5, none⟩ = some (.int .i64 c.ba) ∧ w'.cell? ⟨k, 6, none⟩ = some (.pointer (some ⟨p, 0, none⟩)) ∧ w'.cell? ⟨k, 7, none⟩ = some (.pointer (some ⟨qp, 0, none⟩)))
        ((first | with_reducible exact HC6.out | with_reducible exact HC0.out))
        (first
          | (go_at_call 17; refine (rlinkat_to c HLA.out _).mono ?_; rintro e w6 ⟨rfl, U6⟩; have HU6 := Lib.hid ((up_drew w5).trans U6); have HE6 := Lib.hid (HED.out.up U6); have HC6 := Lib.hid (HP.out _ _ HE6.out (Up.refl _)); clear U6)
          | (go_at_call 48; (with_reducible refine (rbelow_to HE6.out.env HB.out.2.1 HB.out.2.2 HB.out.1).mono ?_); rintro e w9 ⟨rfl, rfl⟩))
      have hN5 : N5 = m + 1 := by
        obtain ⟨A9, c9, e9⟩ := HJ5.out.slice
        injection e9 with _ e9 _
        rw [e9, List.length_append, I_len, HK.out]; rfl
      subst hN5
      go_wp2_with fail
      go_roundw
      case rel => exact ⟨T ++ [x], y, by rw [List.length_append, HK.out]; simp; omega, rfl, HY.out.1, HY.out.2, HN.out, by rw [I_app]; exact HJ5.out.up HU6.out, HF5.out, HU5.out.trans HU6.out⟩
      case measure => simp [nOf]; omega
    · have g2 : ¬ (m : Int) < (n : Int) := by omega
      have HFI := Lib.hid (walk_end HSS.out (.inr (by rw [HK.out]; omega)))
      go_wp2_with fail
      go_ret
      rw [HFI.out] at HJ
      exact ⟨_, rfl, HJ.out, HF.out, HUP.out⟩
end
end Go.Proofs.Yteofgnifpkcgmaa

/-
  A slice of structs of numbers that came in, opened. No program is named here.
-/
namespace Go.Proofs.Yteofgnifpkcgmaa
open Go.ChangeShapes Go.WideShapes Go.RowKit Go.Deep Go.Joins

/-- A slice of structs of numbers (of the kinds ks) that came in: nil; or 'len' elements, number i of which holds z i 0, z i 1, .. -/
def IsRows (ks : List IntKind) (w : World) (a : Option Addr) (len cap : Nat) (z : Nat → Nat → Int) : Prop :=
  len ≤ maxLen ∧ ((a = none ∧ len = 0 ∧ cap = 0) ∨
  ∃ x, a = some x ∧ len ≤ cap ∧ cap ≤ maxLen ∧ ∀ i, i < len → ∀ j k, ks[j]? = some k → w.cell? (x.add (i * ks.length + j)) = some (.int k (z i j)) ∧ (Lit.int k (z i j)).wf = true)
theorem IsRows.len_le {ks : List IntKind} {w : World} {a : Option Addr} {len cap : Nat} {z : Nat → Nat → Int} (h : IsRows ks w a len cap z) : len ≤ maxLen := h.1
theorem IsRows.at {ks : List IntKind} {w : World} {a : Option Addr} {len cap : Nat} {z : Nat → Nat → Int} (h : IsRows ks w a len cap z) (h0 : ks ≠ []) (hl : 0 < len) :
    ∃ b off, a = some ⟨b, off, none⟩ ∧ b < w.heap.size ∧ ∀ i, i < len → ∀ j k, ks[j]? = some k → w.cell? ⟨b, off + (i * ks.length + j), none⟩ = some (.int k (z i j)) ∧ (Lit.int k (z i j)).wf = true := by
  rcases h.2 with ⟨_, rfl, _⟩ | ⟨x, rfl, hlc, hm, hc⟩
  · omega
  · obtain ⟨b, off, spot⟩ := x
    obtain ⟨k, ks', rfl⟩ : ∃ k ks', ks = k :: ks' := by cases ks with | nil => exact absurd rfl h0 | cons k ks' => exact ⟨k, ks', rfl⟩
    have hc0 := (hc 0 hl 0 k rfl).1
    have hs : spot = none := by simpa [Addr.add] using World.cell?_spot hc0
    subst hs
    have e : ∀ n, (⟨b, off, none⟩ : Addr).add n = ⟨b, off + n, none⟩ := fun n => by
      unfold Addr.add; split
      · subst_vars; rfl
      · rfl
    refine ⟨b, off, rfl, ?_, fun i hi j k hk => ?_⟩
    · rw [e] at hc0; exact World.block_lt_of_cell? w _ hc0
    · have := hc i hi j k hk
      rwa [e] at this
theorem IsRows.four {k0 k1 k2 k3 : IntKind} {w : World} {a : Option Addr} {len cap : Nat} {z : Nat → Nat → Int} (h : IsRows [k0, k1, k2, k3] w a len cap z) {i : Nat} (hi : i < len) :
    ∃ b off, a = some ⟨b, off, none⟩ ∧ b < w.heap.size ∧ w.cell? ⟨b, off + i * 4, none⟩ = some (.int k0 (z i 0)) ∧ w.cell? ⟨b, off + i * 4 + 1, none⟩ = some (.int k1 (z i 1)) ∧
      w.cell? ⟨b, off + i * 4 + 2, none⟩ = some (.int k2 (z i 2)) ∧ w.cell? ⟨b, off + i * 4 + 3, none⟩ = some (.int k3 (z i 3)) := by
  obtain ⟨b, off, ha, hb, hc⟩ := h.at (by simp) (by omega)
  exact ⟨b, off, ha, hb, (hc i hi 0 k0 rfl).1, (hc i hi 1 k1 rfl).1, (hc i hi 2 k2 rfl).1, (hc i hi 3 k3 rfl).1⟩

section
variable {H : Type} {enc : TypeId × Value → H} {P : Program} {w : World} {base : Nat} {spare : Nat → Bool} {held : Bool}
theorem choose_rows {len : Nat} {R : Nat → (Nat → Int) → Prop} (h : ∀ i, i < len → ∃ z, R i z) : ∃ z : Nat → Nat → Int, ∀ i, i < len → R i (z i) := by
  have h' : ∀ i, ∃ z, i < len → R i z := fun i => by
    by_cases hi : i < len
    · obtain ⟨z, hz⟩ := h i hi; exact ⟨z, fun _ => hz⟩
    · exact ⟨fun _ => 0, fun hi' => absurd hi' hi⟩
  exact ⟨fun i => (h' i).choose, fun i hi => (h' i).choose_spec hi⟩
theorem choose_nums {ks : List IntKind} {R : Nat → IntKind → Int → Prop} (h : ∀ j k, ks[j]? = some k → ∃ z, R j k z) : ∃ z : Nat → Int, ∀ j k, ks[j]? = some k → R j k (z j) := by
  have h' : ∀ j, ∃ z, ∀ k, ks[j]? = some k → R j k z := fun j => by
    cases hk : ks[j]? with
    | none => exact ⟨0, fun k e => by cases e⟩
    | some k => obtain ⟨z, hz⟩ := h j k hk; exact ⟨z, fun k' e => by cases e; exact hz⟩
  exact ⟨fun j => (h' j).choose, fun j k hk => (h' j).choose_spec k hk⟩

theorem open_rows {r : Reach} {b0 : Nat} {t e : TypeId} {fs : Array Field} {ks : List IntKind} {v : Value} {d : DataW H} {p : List MemPlace} (ht : P.underlying t = some (.slice e)) (he : P.underlying e = some (.struct fs))
    (hone : oneCellFields P fs = true) (ce : P.cellsOf e = ks.length) (hn : fs.size = ks.length) (hk : ∀ (j : Nat) (f : Field) (k : IntKind), fs[j]? = some f → ks[j]? = some k → P.underlying f.type = some (.int k))
    (hv : Value.okWide P w r b0 t v) (h : DataW.Trod enc P w base spare held t v d p) :
    ∃ a len cap z, v = .slice a len cap ∧ IsRows ks w a len cap z := by
  obtain ⟨a, len, cap, rfl⟩ := okWide_slice ht hv
  refine ⟨a, len, cap, ?_⟩
  obtain ⟨fuel, hf⟩ := h
  rcases open_slice ht hf with ⟨hcs, _⟩ | ⟨x, l, c, m, n, D, Pl, hcs, _, hl, hm, hmm, _, hx⟩
  · simp [Value.cells] at hcs
    obtain ⟨rfl, rfl, rfl⟩ := hcs
    exact ⟨fun _ _ => 0, rfl, Nat.zero_le _, .inl ⟨rfl, rfl, rfl⟩⟩
  · simp [Value.cells] at hcs
    obtain ⟨rfl, rfl, rfl⟩ := hcs
    have hlm : len ≤ m := by rw [hmm]; split <;> omega
    obtain ⟨z, hz⟩ := choose_rows (len := len) (R := fun i z => ∀ j k, ks[j]? = some k → w.cell? (x.add (i * ks.length + j)) = some (.int k (z j)) ∧ (Lit.int k (z j)).wf = true) (fun i hi => by
      refine choose_nums (R := fun j k z => w.cell? (x.add (i * ks.length + j)) = some (.int k z) ∧ (Lit.int k z).wf = true) (fun j k hjk => ?_)
      obtain ⟨cs', h1, h2⟩ := hx i (by omega)
      rw [ce] at h1
      obtain ⟨_, hlen, hcell⟩ := World.cells?_some h1
      obtain ⟨xs, q, _, _, _, hxl, hg⟩ := DataW.trod_struct he h2
      have hj : j < ks.length := (List.getElem?_eq_some_iff.1 hjk).1
      obtain ⟨f, hfj⟩ : ∃ f, fs[j]? = some f := ⟨fs[j], Array.getElem?_eq_getElem (by omega)⟩
      obtain ⟨o, c1⟩ := hone_of hone j f hfj
      have g := hg j f hfj
      rw [o, c1] at g
      have ej := hcell j hj
      rw [add_add] at ej
      have hjc : j < cs'.length := by omega
      have ed : (cs'.drop j).take 1 = [cs'[j]] := by
        rw [List.drop_eq_getElem_cons hjc]; rfl
      rw [ed, List.getElem?_eq_getElem (by omega)] at g
      obtain ⟨u, e1, _, hw⟩ := DataW.trod_int (hk j f k hfj hjk) g
      rw [List.getElem?_eq_getElem hjc] at ej
      simp at e1
      exact ⟨u, by rw [ej, e1], hw⟩)
    exact ⟨z, rfl, by omega, .inr ⟨x, rfl, hl, hm, hz⟩⟩
end
end Go.Proofs.Yteofgnifpkcgmaa
