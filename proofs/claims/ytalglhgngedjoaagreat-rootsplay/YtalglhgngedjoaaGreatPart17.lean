/-
  Texts beneath RootsPlay, part 17: RefEnd, RefCreate, RefCreate2.
-/
import Derived.Test.YtalglhgngedjoaaGreatPart16
/-
  The reference's End: its Step, told by plain data (Ed).
-/
namespace Go.Proofs.YtalglhgngedjoaaGreat
open Go.RowKit
open W64
set_option maxRecDepth 100000
/-- An object of type t lies at b beside W at k and the memory at p, g: of what there was in w0 nothing else has turned. -/
structure Ob (w0 : World) (b k p g : Nat) (t : TypeId) (rb rk : Array Value) (xs : List Int) (cnt : Int) (w : World) : Prop where
  hb : Whole w b t rb
  hk : Whole w k 60 rk
  hm : Ref w p g xs cnt
  he : Else [b, p, g] w0 w
  n1 : b ≠ k
  n2 : b ≠ p
  n3 : b ≠ g
  n4 : k ≠ p
  n5 : k ≠ g
def wRow (c : Cf) (p qp qs qe : Nat) : Array Value := #[.int .i64 c.wk, .int .i64 c.ch, .int .i64 c.wo, .int .i64 c.sl, .int .i64 c.ca, .int .i64 c.ba, .pointer (some ⟨p, 0, none⟩), .pointer (some ⟨qp, 0, none⟩), .pointer (some ⟨qs, 0, none⟩), .pointer (some ⟨qe, 0, none⟩)]
def edRow (k : Nat) (K : Ed) : Array Value := #[.pointer (some ⟨k, 0, none⟩), .int .i64 (K.slot : Int), .int .i64 K.gen, .int .i64 (K.i : Int), .int .i64 (K.steps : Int), .int .i64 (K.point : Int), .int .i64 K.chunk, .int .u64 K.old, .int .i64 K.code, .bool K.fin]
structure REdM (w : World) (b k : Nat) (K : Ed) : Prop where
  row : Whole w b 100 (edRow k K)
  o0 : 0 ≤ K.old
  o1 : K.old < 18446744073709551616
section
variable {w0 w w' : World} {k p g qp qs qe r0 n b d : Nat} {c : Cf} {xs xs' : List Int} {cnt cnt' : Int} {K : Ed} {t : TypeId} {rb rk : Array Value} {M : World → Prop}
theorem Ob.up (O : Ob w0 b k p g t rb rk xs cnt w) (u : Up w w') : Ob w0 b k p g t rb rk xs cnt w' := ⟨O.hb.up u, O.hk.up u, O.hm.up u, O.he.up u, O.n1, O.n2, O.n3, O.n4, O.n5⟩
theorem Ob.put (O : Ob w0 b k p g t rb rk xs cnt w) (i : Nat) (v : Value) : Ob w0 b k p g t (rb.setIfInBounds i v) rk xs cnt (w.setCell ⟨b, i, none⟩ v) := by
  have u : Else [b] w (w.setCell ⟨b, i, none⟩ v) := (Else.refl [b] w).set (.inl (by simp)) _
  exact ⟨O.hb.set i v, u.whole O.hk (by simp [O.n1.symm]), O.hm.else u (by simp [O.n2.symm]) (by simp [O.n3.symm]), O.he.trans (u.more (by simp)), O.n1, O.n2, O.n3, O.n4, O.n5⟩
theorem Ob.turn (O : Ob w0 b k p g t rb rk xs cnt w) (m : Ref w' p g xs' cnt') (u : Else [p, g] w w') : Ob w0 b k p g t rb rk xs' cnt' w' :=
  ⟨u.whole O.hb (by simp [O.n2, O.n3]), u.whole O.hk (by simp [O.n4, O.n5]), m, O.he.trans (u.wide b), O.n1, O.n2, O.n3, O.n4, O.n5⟩
theorem Ob.out (O : Ob w0 b k p g t rb rk xs' (wrap64 (cnt + 1)) w) (R : RW w0 k p g qp qs qe c r0 n xs cnt) (hq : b ≠ qs) (ok : Words xs') (hl : xs'.length = xs.length) (hM : M w) : ROut w0 k p g qp qs qe c r0 n xs' cnt [b] M w :=
  ⟨R.turn O.hm O.he (by simp [O.n1.symm, O.n4, O.n5]) (by simp [hq.symm, R.env.np, R.env.ng]) ok hl, hM, O.he⟩
theorem REdM.ob (E : REdM w b k K) (R : RW w k p g qp qs qe c r0 n xs cnt) : Ob w b k p g 100 (edRow k K) (wRow c p qp qs qe) xs cnt w ∧ b ≠ qs :=
  ⟨⟨E.row, R.obj, R.env.mem, Else.refl _ _, E.row.ne_type R.obj (by decide), E.row.ne_type R.env.mem.top (by decide), E.row.ne_type R.env.mem.row (by decide), R.kp, R.kg⟩, E.row.ne_type R.env.stk (by decide)⟩
theorem rputRoot_to {a m c o y : Int} {z : Bool} (h : rootV a m c o = y) (hz : rootB a m c o = z) (w : World) :
    Calls Tryz.prog 83 #[.agg #[.int .i64 a, .int .i64 m, .int .i64 c, .int .i64 o]] w fun e w' => e = .returned (.tuple #[.int .u64 y, .bool z]) ∧ Up w w' := by
  subst h hz; exact rputRoot_any a m c o w
theorem rchunk_to {a m c o y : Int} (h : chunkN m = y) (h1 : m < 9223372036854775808) (w : World) :
    Calls Tryz.prog 87 #[.agg #[.int .i64 a, .int .i64 m, .int .i64 c, .int .i64 o]] w fun e w' => e = .returned (.int .i64 y) ∧ Up w w' := by
  subst h; exact rchunk_any a m c o w h1
theorem rt_in (x : Int) (h0 : 0 ≤ x) (h1 : x < 18446744073709551616) : (0 ≤ (rtOf x).g ∧ (rtOf x).g ≤ 4294967295) ∧ (0 ≤ (rtOf x).m ∧ (rtOf x).m ≤ 65535) := by
  unfold rtOf; dsimp only; omega
set_option maxHeartbeats 4000000 in
/-- The Load. -/
theorem redStep0 (R : RW w k p g qp qs qe c r0 n xs cnt) (E : REdM w b k K) (hs : K.slot < n) (hf : K.fin = false) (hi : K.i = 0) (hS : K.steps ≤ 1000000) :
    Calls Tryz.prog 39 #[.pointer (some ⟨b, 0, none⟩)] w fun e w' => e = .returned (.bool true) ∧ ROut w k p g qp qs qe c r0 n (K.xs r0 xs) cnt [b] (fun w' => REdM w' b k (K.go r0 xs)) w' := by
  obtain ⟨slot, gen, i, steps, point, chunk, old, code, fin⟩ := K
  dsimp only at hf hs hi hS
  subst hf hi
  obtain ⟨O, hq⟩ := E.ob R
  simp only [edRow, wRow] at O
  obtain ⟨x, hx⟩ : ∃ x, xs.getD (r0 + slot) 0 = x := ⟨_, rfl⟩
  have hw := R.env.ok (r0 + slot)
  rw [hx] at hw
  obtain ⟨rg, hrg⟩ : ∃ y, (rtOf x).g = y := ⟨_, rfl⟩
  obtain ⟨rm, hrm⟩ : ∃ y, (rtOf x).m = y := ⟨_, rfl⟩
  obtain ⟨rc, hrc⟩ : ∃ y, (rtOf x).c = y := ⟨_, rfl⟩
  obtain ⟨ro, hro⟩ : ∃ y, (rtOf x).o = y := ⟨_, rfl⟩
  obtain ⟨hra, hrl⟩ := R.at hs
  obtain ⟨lv, hlv⟩ : ∃ y, liveB rg rm gen = y := ⟨_, rfl⟩
  have H0 := Lib.hid hra
  have H1 := Lib.hid hrl
  have H2 := Lib.hid hx
  have H3 := Lib.hid hw
  have H4 := Lib.hid (And.intro hrg (And.intro hrm (And.intro hrc hro)))
  have H5 := Lib.hid hlv
  have HR := Lib.hid R
  have HQ := Lib.hid hq
  have eg : Ed.go r0 xs ⟨slot, gen, 0, steps, point, chunk, old, code, false⟩ = if lv = true then ⟨slot, gen, 1, steps + 1, point, chunk, x, code, false⟩ else ⟨slot, gen, 1, steps + 1, steps + 1, chunk, x, 3, true⟩ := by
    unfold Ed.go Ed.live; dsimp only; rw [if_pos rfl, hx, hrg, hrm, hlv]
  have ex : Ed.xs r0 xs ⟨slot, gen, 0, steps, point, chunk, old, code, false⟩ = xs := by unfold Ed.xs; rw [if_neg (by simp)]
  rw [ex]
  have HG := Lib.hid eg
  have b0 := O.hb.cell (i := 9) rfl
  have b4 := O.hb.cell (i := 4) rfl
  have f4 := O.hb.frozen 4
  have s0 : (0 : Int) ≤ (steps : Int) := Int.natCast_nonneg _
  have s1 : (steps : Int) ≤ 1000000 := by omega
  have HO := Lib.hid O
  clear hra hrl hx hw hrg hrm hrc hro hlv R E O hq eg ex
  go_enter Tryz.func39, Tryz.ntmps39
  go_upto_region 4 with fail
  have O1 := HO.out.put 4 (.int .i64 ((steps : Int) + 1))
  have HO1 := Lib.hid O1
  generalize w.setCell ⟨b, 4, none⟩ (.int .i64 ((steps : Int) + 1)) = w1 at *
  clear b0 b4 f4
  have c0 := cell_class (O1.hb.cell (i := 0) rfl)
  have c1 := cell_class (O1.hb.cell (i := 1) rfl)
  have k0 := cell_class (O1.hk.cell (i := 0) rfl)
  have k1 := cell_class (O1.hk.cell (i := 1) rfl)
  have k2 := cell_class (O1.hk.cell (i := 2) rfl)
  have k3 := cell_class (O1.hk.cell (i := 3) rfl)
  have k4 := cell_class (O1.hk.cell (i := 4) rfl)
  have k5 := cell_class (O1.hk.cell (i := 5) rfl)
  clear O1
  refine wp_region_up (Up.refl w1) (by kernel_rfl) (by kernel_rfl) ?_
  repeat (go_big_quiet_step (first
    | (go_at_call 81; (exact up_class (rrootat_to c H0.out _)))))
  refine wpQuiet_nil ?_
  rintro _ ⟨y, rfl⟩
  have O2 := HO1.out.up y.up
  have HO2 := Lib.hid O2
  clear c0 c1 k0 k1 k2 k3 k4 k5
  generalize y.w = w2 at *
  have c0 := O2.hb.cell (i := 0) rfl
  have c3 := O2.hb.cell (i := 3) rfl
  have k6 := O2.hk.cell (i := 6) rfl
  clear O2
  go_upto_region 7 with (first
    | (go_at_call 80; refine (rloadc_to (j := r0 + slot) rfl HO2.out.hm H1.out H2.out).mono ?_; rintro e w3 ⟨rfl, M3, E3⟩; have O3 := HO2.out.turn M3 E3; have HO3 := Lib.hid O3; have d7 := O3.hb.cell (i := 7) rfl; have g7 := O3.hb.frozen 7; clear O3 M3 E3))
  have O4 := HO3.out.put 7 (.int .u64 x)
  have HO4 := Lib.hid O4
  clear c0 c3 k6 d7 g7
  generalize w3.setCell ⟨b, 7, none⟩ (.int .u64 x) = w4 at *
  have c7 := cell_class (O4.hb.cell (i := 7) rfl)
  have c2 := cell_class (O4.hb.cell (i := 2) rfl)
  clear O4
  refine wp_region_up (Up.refl w4) (by kernel_rfl) (by kernel_rfl) ?_
  repeat (go_big_quiet_step (first
    | (go_at_call 79; (with_reducible exact up_class (rgetRoot_to H3.out.1 H3.out.2 H4.out.1 H4.out.2.1 H4.out.2.2.1 H4.out.2.2.2 _)))
    | (go_at_call 85; (with_reducible exact up_class (rlive_to H5.out _)))))
  refine wpQuiet_nil ?_
  rintro _ ⟨y5, rfl⟩
  have O5 := HO4.out.up y5.up
  have HO5 := Lib.hid O5
  clear c7 c2
  generalize y5.w = w5 at *
  have q3 := O5.hb.cell (i := 3) rfl
  have q4 := O5.hb.cell (i := 4) rfl
  have q5 := O5.hb.cell (i := 5) rfl
  have q8 := O5.hb.cell (i := 8) rfl
  have q9 := O5.hb.cell (i := 9) rfl
  have h3 := O5.hb.frozen 3
  have h5 := O5.hb.frozen 5
  have h8 := O5.hb.frozen 8
  have h9 := O5.hb.frozen 9
  clear O5
  cases lv
  · go_wp2_with fail
    go_ret
    rw [HG.out]
    exact ⟨rfl, ((((HO5.out.put 8 (.int .i64 3)).put 5 (.int .i64 ((steps : Int) + 1))).put 9 (.bool true)).put 3 (.int .i64 1)).out HR.out HQ.out HR.out.env.ok rfl ⟨(((((HO5.out.put 8 (.int .i64 3)).put 5 (.int .i64 ((steps : Int) + 1))).put 9 (.bool true)).put 3 (.int .i64 1)).hb), H3.out.1, H3.out.2⟩⟩
  · go_wp2_with fail
    go_ret
    rw [HG.out]
    exact ⟨rfl, (HO5.out.put 3 (.int .i64 1)).out HR.out HQ.out HR.out.env.ok rfl ⟨(HO5.out.put 3 (.int .i64 1)).hb, H3.out.1, H3.out.2⟩⟩
theorem ed14 {q : Value} {v0 v1 v2 v3 : Value} (O : Ob w0 b k p g t rb rk xs cnt w) (h : rb[4]? = some q) (V : Whole w d 96 #[v0, v1, v2, v3]) :
    w.cell? ⟨b, 4, none⟩ = some q ∧ w.cell? ⟨d, 0, none⟩ = some v0 ∧ w.cell? ⟨d, 1, none⟩ = some v1 ∧ w.cell? ⟨d, 2, none⟩ = some v2 ∧ w.cell? ⟨d, 3, none⟩ = some v3 :=
  ⟨O.hb.cell h, V.cell rfl, V.cell rfl, V.cell rfl, V.cell rfl⟩
theorem rcasc_yes {a old : Int} {j : Nat} (v : Int) (ha : a = (j : Int)) (m : Ref w p g xs cnt) (h : j < xs.length) (hx : xs.getD j 0 = old) :
    Calls Tryz.prog 86 #[.pointer (some ⟨p, 0, none⟩), .int .i64 a, .int .u64 old, .int .u64 v] w fun e w' => e = .returned (.bool true) ∧ Ref w' p g (xs.set j v) (wrap64 (cnt + 1)) ∧ Else [p, g] w w' := by
  subst ha; exact rcas_yes v m h hx
theorem rcasc_no {a old : Int} {j : Nat} (v : Int) (ha : a = (j : Int)) (m : Ref w p g xs cnt) (h : j < xs.length) (hx : xs.getD j 0 ≠ old) :
    Calls Tryz.prog 86 #[.pointer (some ⟨p, 0, none⟩), .int .i64 a, .int .u64 old, .int .u64 v] w fun e w' => e = .returned (.bool false) ∧ Ref w' p g xs (wrap64 (cnt + 1)) ∧ Else [p, g] w w' := by
  subst ha; exact rcas_no v m h hx
end
end Go.Proofs.YtalglhgngedjoaaGreat

/-
  The reference's Create: the Load of the root and its Store, told by plain data (Cr).
-/
namespace Go.Proofs.YtalglhgngedjoaaGreat
open Go.RowKit
open W64
set_option maxRecDepth 100000
def crRow (k rb : Nat) (K : Cr) : Array Value := #[.pointer (some ⟨k, 0, none⟩), .int .i64 K.cls, .int .i64 (K.i : Int), .int .i64 (K.steps : Int), .int .i64 (K.point : Int), .int .i64 (K.slot : Int), .int .i64 K.gen, .pointer (some ⟨rb, 0, none⟩), .int .i64 K.rt.g, .int .i64 K.rt.m, .int .i64 K.rt.c, .int .i64 K.rt.o, .int .i64 K.code, .bool K.fin]
/-- What a Create's numbers keep to. -/
structure Cr.Ok (n : Nat) (K : Cr) : Prop where
  c0 : 0 ≤ K.cls
  c1 : K.cls ≤ 3
  i2 : K.i ≤ 2
  s1 : K.i ≠ 0 → K.slot < n
  g0 : 0 ≤ K.rt.g
  g1 : K.rt.g ≤ 4294967295
  pf : K.i = 0 → K.fin = false → K.pop.fin = false
structure RCrM (w : World) (b rb k qs n : Nat) (v : Value) (K : Cr) : Prop where
  row : Whole w b 98 (crRow k rb K)
  pop : RPoM w rb qs n v K.pop
  ok : K.Ok n
section
variable {w0 w w' : World} {k p g qp qs qe r0 n b rb d : Nat} {c : Cf} {xs xs' : List Int} {cnt cnt' : Int} {K : Cr} {t : TypeId} {ra rw rk : Array Value} {M : World → Prop} {v : Value} {ys : List Int}
theorem Ints.ne_block (h : Ints w v ys) {cs : Array Value} (B : Whole w b t cs) (ht : 3 ≠ t) : v.ownBlock ≠ some b := by
  rcases h.2 with ⟨rfl, _⟩ | ⟨a, cap, cur, rfl, _, hh, _⟩
  · simp [Value.ownBlock]
  · intro e
    simp [Value.ownBlock] at e
    exact (show Whole w a 3 cur from hh).ne_type B ht e
theorem RCrM.ob (E : RCrM w b rb k qs n v K) (R : RW w k p g qp qs qe c r0 n xs cnt) : Ob w b k p g 98 (crRow k rb K) (wRow c p qp qs qe) xs cnt w ∧ b ≠ qs :=
  ⟨⟨E.row, R.obj, R.env.mem, Else.refl _ _, E.row.ne_type R.obj (by decide), E.row.ne_type R.env.mem.top (by decide), E.row.ne_type R.env.mem.row (by decide), R.kp, R.kg⟩, E.row.ne_type R.env.stk (by decide)⟩
/-- The Pop is none of these blocks. -/
theorem RPoM.off {P : Po} (E : RPoM w rb qs n v P) {cs : Array Value} (B : Whole w b t cs) (h1 : 142 ≠ t) (h2 : 3 ≠ t) : rb ≠ b ∧ v.ownBlock ≠ some b :=
  ⟨E.at_.top.ne_type B h1, E.at_.row.ne_block B h2⟩
theorem RPoM.apart {P : Po} (E : RPoM w rb qs n v P) (R : RW w k p g qp qs qe c r0 n xs cnt) : Apart rb p g qs v := by
  obtain ⟨a1, a2⟩ := E.off R.env.mem.top (by decide) (by decide)
  obtain ⟨b1, b2⟩ := E.off R.env.mem.row (by decide) (by decide)
  obtain ⟨c1, c2⟩ := E.off R.env.stk (by decide) (by decide)
  exact ⟨a1, b1, c1, a2, b2, c2⟩
/-- The Pop is as it was. -/
theorem Ob.pop {P : Po} (O : Ob w0 b k p g t rw rk xs cnt w) (E : RPoM w0 rb qs n v P) (R : RW w0 k p g qp qs qe c r0 n xs' cnt') (B : Whole w0 b t ra) (h1 : 142 ≠ t) (h2 : 3 ≠ t) : RPoM w rb qs n v P := by
  obtain ⟨a1, a2⟩ := E.off B h1 h2
  have A := E.apart R
  refine E.else O.he (by simp [a1, A.bp, A.bg]) ?_
  intro j hj
  simp at hj
  rcases hj with rfl | rfl | rfl
  · exact a2
  · exact A.vp
  · exact A.vg
theorem ob_cells {c : Cf} {i : Nat} {x0 x5 : Value} (O : Ob w0 b k p g t rw (wRow c p qp qs qe) xs cnt w) (h0 : rw[0]? = some x0) (h5 : rw[i]? = some x5) :
    w.cell? ⟨b, 0, none⟩ = some x0 ∧ w.cell? ⟨b, i, none⟩ = some x5 ∧ w.cell? ⟨k, 0, none⟩ = some (.int .i64 c.wk) ∧ w.cell? ⟨k, 1, none⟩ = some (.int .i64 c.ch) ∧ w.cell? ⟨k, 2, none⟩ = some (.int .i64 c.wo) ∧ w.cell? ⟨k, 3, none⟩ = some (.int .i64 c.sl) ∧ w.cell? ⟨k, 4, none⟩ = some (.int .i64 c.ca) ∧ w.cell? ⟨k, 5, none⟩ = some (.int .i64 c.ba) :=
  ⟨O.hb.cell h0, O.hb.cell h5, O.hk.cell rfl, O.hk.cell rfl, O.hk.cell rfl, O.hk.cell rfl, O.hk.cell rfl, O.hk.cell rfl⟩
theorem rlater_any (a : Int) (h0 : 0 ≤ a) (h1 : a ≤ 4294967295) (w : World) : Calls Tryz.prog 82 #[.int .i64 a] w fun e w' => e = .returned (.int .i64 (laterN a)) ∧ w = w' := by
  unfold laterN
  by_cases h : 4294967295 ≤ a
  · rw [if_pos h]
    go_enter Tryz.func82, Tryz.ntmps82
    go_wp2_with fail
    go_ret
    exact ⟨rfl, rfl⟩
  · rw [if_neg h]
    go_enter Tryz.func82, Tryz.ntmps82
    go_wp2_with fail
    go_ret
    exact ⟨rfl, rfl⟩
theorem rlater_to {a y : Int} (h : laterN a = y) (h0 : 0 ≤ a) (h1 : a ≤ 4294967295) (w : World) : Calls Tryz.prog 82 #[.int .i64 a] w fun e w' => e = .returned (.int .i64 y) ∧ w = w' := h ▸ rlater_any a h0 h1 w
theorem rstorec_to {a : Int} {j : Nat} (y : Int) (ha : a = (j : Int)) (m : Ref w p g xs cnt) (h : j < xs.length) :
    Calls Tryz.prog 84 #[.pointer (some ⟨p, 0, none⟩), .int .i64 a, .int .u64 y] w fun e w' => e = .returned (.tuple #[]) ∧ Ref w' p g (xs.set j y) (wrap64 (cnt + 1)) ∧ Else [p, g] w w' := by
  subst ha; exact rstore_in y m h
/-- Behind a Step. -/
theorem Ob.created {K' : Cr} (O : Ob w0 b k p g 98 rw rk xs' (wrap64 (cnt + 1)) w) (R : RW w0 k p g qp qs qe c r0 n xs cnt) (E : RPoM w0 rb qs n v K'.pop) (B : Whole w0 b 98 ra) (hq : b ≠ qs) (ok : Words xs') (hl : xs'.length = xs.length) (hr : rw = crRow k rb K') (hK : K'.Ok n) :
    ROut w0 k p g qp qs qe c r0 n xs' cnt [b] (fun w' => RCrM w' b rb k qs n v K') w :=
  O.out R hq ok hl ⟨hr ▸ O.hb, O.pop E R B (by decide) (by decide), hK⟩
set_option maxHeartbeats 4000000 in
/-- The Load of the root. -/
theorem rcrLoad (R : RW w k p g qp qs qe c r0 n xs cnt) (E : RCrM w b rb k qs n v K) (hf : K.fin = false) (hi : K.i = 1) (hS : K.steps ≤ 1000000) :
    Calls Tryz.prog 37 #[.pointer (some ⟨b, 0, none⟩)] w fun e w' => e = .returned (.bool true) ∧ ROut w k p g qp qs qe c r0 n (K.xs r0 xs) cnt [b] (fun w' => RCrM w' b rb k qs n v (K.go n r0 xs)) w' := by
  obtain ⟨cls, i, steps, point, slot, gen, pop, rt, code, fin⟩ := K
  have HOK := Lib.hid E.ok
  have hs := E.ok.s1
  dsimp only at hf hi hS hs
  subst hf hi
  replace hs := hs (by decide)
  obtain ⟨O, hq⟩ := E.ob R
  unfold crRow at O
  dsimp only at O
  obtain ⟨x, hx⟩ : ∃ x, xs.getD (r0 + slot) 0 = x := ⟨_, rfl⟩
  have hw := R.env.ok (r0 + slot)
  rw [hx] at hw
  obtain ⟨rg, hrg⟩ : ∃ y, (rtOf x).g = y := ⟨_, rfl⟩
  obtain ⟨rm, hrm⟩ : ∃ y, (rtOf x).m = y := ⟨_, rfl⟩
  obtain ⟨rc, hrc⟩ : ∃ y, (rtOf x).c = y := ⟨_, rfl⟩
  obtain ⟨ro, hro⟩ : ∃ y, (rtOf x).o = y := ⟨_, rfl⟩
  have hrt := rt_in x hw.1 hw.2
  obtain ⟨hra, hrl⟩ := R.at hs
  have H0 := Lib.hid hra
  have H1 := Lib.hid hrl
  have H2 := Lib.hid hx
  have H3 := Lib.hid hw
  have H4 := Lib.hid (And.intro hrg (And.intro hrm (And.intro hrc hro)))
  have HR := Lib.hid R
  have HE := Lib.hid E
  have HQ := Lib.hid hq
  have eg : Cr.go n r0 xs ⟨cls, 1, steps, point, slot, gen, pop, rt, code, false⟩ = ⟨cls, 2, steps + 1, point, slot, gen, pop, ⟨rg, rm, rc, ro⟩, code, false⟩ := by
    unfold Cr.go; dsimp only; rw [if_neg (by decide), if_pos rfl, hx, ← hrg, ← hrm, ← hrc, ← hro]
  have ex : Cr.xs r0 xs ⟨cls, 1, steps, point, slot, gen, pop, rt, code, false⟩ = xs := by unfold Cr.xs; dsimp only; rw [if_neg (by decide), if_pos rfl]
  rw [ex]
  have HG := Lib.hid eg
  have HGI := Lib.hid (show 0 ≤ rg ∧ rg ≤ 4294967295 by rw [← hrg]; exact hrt.1)
  have b2 := O.hb.cell (i := 2) rfl
  have b3 := O.hb.cell (i := 3) rfl
  have b13 := O.hb.cell (i := 13) rfl
  have f3 := O.hb.frozen 3
  have s0 : (0 : Int) ≤ (steps : Int) := Int.natCast_nonneg _
  have s1 : (steps : Int) ≤ 1000000 := by omega
  have HO := Lib.hid O
  clear hra hrl hx hw hrg hrm hrc hro hrt R E O hq eg ex
  go_enter Tryz.func37, Tryz.ntmps37
  go_upto_region 4 with fail
  have O1 := HO.out.put 3 (.int .i64 ((steps : Int) + 1))
  have HO1 := Lib.hid O1
  generalize w.setCell ⟨b, 3, none⟩ (.int .i64 ((steps : Int) + 1)) = w1 at *
  clear b2 b3 b13 f3
  have c0 := O1.hb.cell (i := 0) rfl
  have c2 := O1.hb.cell (i := 2) rfl
  have k6 := HO1.out.hk.cell (i := 6) (v := .pointer (some ⟨p, 0, none⟩)) rfl
  clear O1
  go_upto_region 21 with fail
  clear c0 c2 k6
  have HC0 := Lib.hid (show w1.drew.cell? ⟨b, 0, none⟩ = some (.pointer (some ⟨k, 0, none⟩)) ∧ w1.drew.cell? ⟨b, 5, none⟩ = some (.int .i64 (slot : Int)) ∧ w1.drew.cell? ⟨k, 0, none⟩ = some (.int .i64 c.wk) ∧ w1.drew.cell? ⟨k, 1, none⟩ = some (.int .i64 c.ch) ∧ w1.drew.cell? ⟨k, 2, none⟩ = some (.int .i64 c.wo) ∧ w1.drew.cell? ⟨k, 3, none⟩ = some (.int .i64 c.sl) ∧ w1.drew.cell? ⟨k, 4, none⟩ = some (.int .i64 c.ca) ∧ w1.drew.cell? ⟨k, 5, none⟩ = some (.int .i64 c.ba) from ob_cells (i := 5) (HO1.out.up (up_drew w1)) rfl rfl)
  go_region_held3 (fun w' => w'.cell? ⟨b, 0, none⟩ = some (.pointer (some ⟨k, 0, none⟩)) ∧ w'.cell? ⟨b, 5, none⟩ = some (.int .i64 (slot : Int)) ∧ w'.cell? ⟨k, 0, none⟩ = some (.int .i64 c.wk) ∧ w'.cell? ⟨k, 1, none⟩ = some (.int .i64 c.ch) ∧ w'.cell? ⟨k, 2, none⟩ = some (.int .i64 c.wo) ∧ w'.cell? ⟨k, 3, none⟩ = some (.int .i64 c.sl) ∧ w'.cell? ⟨k, 4, none⟩ = some (.int .i64 c.ca) ∧ w'.cell? ⟨k, 5, none⟩ = some (.int .i64 c.ba))
    ((first
      | with_reducible exact HC5.out
      | with_reducible exact HC4.out
      | with_reducible exact HC3.out
      | with_reducible exact HC2.out
      | with_reducible exact HC0.out))
    (first
      | (go_at_call 81; refine (rrootat_to c H0.out _).mono ?_; rintro e w2 ⟨rfl, U2⟩; have HO2 := Lib.hid ((HO1.out.up (up_drew w1)).up U2); have HC2 := Lib.hid (show w2.cell? ⟨b, 0, none⟩ = some (.pointer (some ⟨k, 0, none⟩)) ∧ w2.cell? ⟨b, 5, none⟩ = some (.int .i64 (slot : Int)) ∧ w2.cell? ⟨k, 0, none⟩ = some (.int .i64 c.wk) ∧ w2.cell? ⟨k, 1, none⟩ = some (.int .i64 c.ch) ∧ w2.cell? ⟨k, 2, none⟩ = some (.int .i64 c.wo) ∧ w2.cell? ⟨k, 3, none⟩ = some (.int .i64 c.sl) ∧ w2.cell? ⟨k, 4, none⟩ = some (.int .i64 c.ca) ∧ w2.cell? ⟨k, 5, none⟩ = some (.int .i64 c.ba) from ob_cells (i := 5) HO2.out rfl rfl); clear U2)
      | (go_at_call 80; refine (rloadc_to (a := (r0 : Int) + (slot : Int)) (j := r0 + slot) (by omega) HO2.out.hm H1.out H2.out).mono ?_; rintro e w3 ⟨rfl, M3, E3⟩; have HO3 := Lib.hid (HO2.out.turn M3 E3); have HC3 := Lib.hid (show w3.cell? ⟨b, 0, none⟩ = some (.pointer (some ⟨k, 0, none⟩)) ∧ w3.cell? ⟨b, 5, none⟩ = some (.int .i64 (slot : Int)) ∧ w3.cell? ⟨k, 0, none⟩ = some (.int .i64 c.wk) ∧ w3.cell? ⟨k, 1, none⟩ = some (.int .i64 c.ch) ∧ w3.cell? ⟨k, 2, none⟩ = some (.int .i64 c.wo) ∧ w3.cell? ⟨k, 3, none⟩ = some (.int .i64 c.sl) ∧ w3.cell? ⟨k, 4, none⟩ = some (.int .i64 c.ca) ∧ w3.cell? ⟨k, 5, none⟩ = some (.int .i64 c.ba) from ob_cells (i := 5) HO3.out rfl rfl); clear M3 E3)
      | (go_at_call 79; refine (rgetRoot_to H3.out.1 H3.out.2 H4.out.1 H4.out.2.1 H4.out.2.2.1 H4.out.2.2.2 _).mono ?_; rintro e w4 ⟨rfl, U4⟩; have HO4 := Lib.hid (HO3.out.up U4); have HC4 := Lib.hid (show w4.cell? ⟨b, 0, none⟩ = some (.pointer (some ⟨k, 0, none⟩)) ∧ w4.cell? ⟨b, 5, none⟩ = some (.int .i64 (slot : Int)) ∧ w4.cell? ⟨k, 0, none⟩ = some (.int .i64 c.wk) ∧ w4.cell? ⟨k, 1, none⟩ = some (.int .i64 c.ch) ∧ w4.cell? ⟨k, 2, none⟩ = some (.int .i64 c.wo) ∧ w4.cell? ⟨k, 3, none⟩ = some (.int .i64 c.sl) ∧ w4.cell? ⟨k, 4, none⟩ = some (.int .i64 c.ca) ∧ w4.cell? ⟨k, 5, none⟩ = some (.int .i64 c.ba) from ob_cells (i := 5) HO4.out rfl rfl); have HC5 := Lib.hid (show ((((w4.setCell ⟨b, 8, none⟩ (.int .i64 rg)).setCell ⟨b, 9, none⟩ (.int .i64 rm)).setCell ⟨b, 10, none⟩ (.int .i64 rc)).setCell ⟨b, 11, none⟩ (.int .i64 ro)).cell? ⟨b, 0, none⟩ = some (.pointer (some ⟨k, 0, none⟩)) ∧ ((((w4.setCell ⟨b, 8, none⟩ (.int .i64 rg)).setCell ⟨b, 9, none⟩ (.int .i64 rm)).setCell ⟨b, 10, none⟩ (.int .i64 rc)).setCell ⟨b, 11, none⟩ (.int .i64 ro)).cell? ⟨b, 5, none⟩ = some (.int .i64 (slot : Int)) ∧ ((((w4.setCell ⟨b, 8, none⟩ (.int .i64 rg)).setCell ⟨b, 9, none⟩ (.int .i64 rm)).setCell ⟨b, 10, none⟩ (.int .i64 rc)).setCell ⟨b, 11, none⟩ (.int .i64 ro)).cell? ⟨k, 0, none⟩ = some (.int .i64 c.wk) ∧ ((((w4.setCell ⟨b, 8, none⟩ (.int .i64 rg)).setCell ⟨b, 9, none⟩ (.int .i64 rm)).setCell ⟨b, 10, none⟩ (.int .i64 rc)).setCell ⟨b, 11, none⟩ (.int .i64 ro)).cell? ⟨k, 1, none⟩ = some (.int .i64 c.ch) ∧ ((((w4.setCell ⟨b, 8, none⟩ (.int .i64 rg)).setCell ⟨b, 9, none⟩ (.int .i64 rm)).setCell ⟨b, 10, none⟩ (.int .i64 rc)).setCell ⟨b, 11, none⟩ (.int .i64 ro)).cell? ⟨k, 2, none⟩ = some (.int .i64 c.wo) ∧ ((((w4.setCell ⟨b, 8, none⟩ (.int .i64 rg)).setCell ⟨b, 9, none⟩ (.int .i64 rm)).setCell ⟨b, 10, none⟩ (.int .i64 rc)).setCell ⟨b, 11, none⟩ (.int .i64 ro)).cell? ⟨k, 3, none⟩ = some (.int .i64 c.sl) ∧ ((((w4.setCell ⟨b, 8, none⟩ (.int .i64 rg)).setCell ⟨b, 9, none⟩ (.int .i64 rm)).setCell ⟨b, 10, none⟩ (.int .i64 rc)).setCell ⟨b, 11, none⟩ (.int .i64 ro)).cell? ⟨k, 4, none⟩ = some (.int .i64 c.ca) ∧ ((((w4.setCell ⟨b, 8, none⟩ (.int .i64 rg)).setCell ⟨b, 9, none⟩ (.int .i64 rm)).setCell ⟨b, 10, none⟩ (.int .i64 rc)).setCell ⟨b, 11, none⟩ (.int .i64 ro)).cell? ⟨k, 5, none⟩ = some (.int .i64 c.ba) from ob_cells (i := 5) ((((HO4.out.put 8 (.int .i64 rg)).put 9 (.int .i64 rm)).put 10 (.int .i64 rc)).put 11 (.int .i64 ro)) rfl rfl); have q8 := HO4.out.hb.cell (i := 8) rfl; have q9 := HO4.out.hb.cell (i := 9) rfl; have q10 := HO4.out.hb.cell (i := 10) rfl; have q11 := HO4.out.hb.cell (i := 11) rfl; have h8 := HO4.out.hb.frozen 8; have h9 := HO4.out.hb.frozen 9; have h10 := HO4.out.hb.frozen 10; have h11 := HO4.out.hb.frozen 11; clear U4))
  have O5 := (((HO4.out.put 8 (.int .i64 rg)).put 9 (.int .i64 rm)).put 10 (.int .i64 rc)).put 11 (.int .i64 ro)
  have HO5 := Lib.hid O5
  generalize ((((w4.setCell ⟨b, 8, none⟩ (.int .i64 rg)).setCell ⟨b, 9, none⟩ (.int .i64 rm)).setCell ⟨b, 10, none⟩ (.int .i64 rc)).setCell ⟨b, 11, none⟩ (.int .i64 ro)) = w5 at *
  clear q8 q9 q10 q11 h8 h9 h10 h11
  have q2 := O5.hb.cell (i := 2) rfl
  have h2 := O5.hb.frozen 2
  clear O5
  go_wp2_with fail
  go_ret
  rw [HG.out]
  exact ⟨rfl, (HO5.out.put 2 (.int .i64 2)).created HR.out HE.out.pop HE.out.row HQ.out HR.out.env.ok rfl rfl ⟨HOK.out.c0, HOK.out.c1, by simp, fun _ => HOK.out.s1 (by simp), HGI.out.1, HGI.out.2, by simp⟩⟩
end
end Go.Proofs.YtalglhgngedjoaaGreat

/-
  The reference's Create: the Store of the root, told by plain data (Cr).
-/
namespace Go.Proofs.YtalglhgngedjoaaGreat
open Go.RowKit
open W64
set_option maxRecDepth 100000
section
variable {w0 w w' : World} {k p g qp qs qe r0 n b rb d : Nat} {c : Cf} {xs xs' : List Int} {cnt cnt' : Int} {K : Cr} {t : TypeId} {ra rw rk : Array Value} {M : World → Prop} {v : Value} {ys : List Int}
set_option maxHeartbeats 4000000 in
/-- The Store of the root. -/
theorem rcrStore (R : RW w k p g qp qs qe c r0 n xs cnt) (E : RCrM w b rb k qs n v K) (hf : K.fin = false) (hi : K.i = 2) (hS : K.steps ≤ 1000000) :
    Calls Tryz.prog 37 #[.pointer (some ⟨b, 0, none⟩)] w fun e w' => e = .returned (.bool true) ∧ ROut w k p g qp qs qe c r0 n (K.xs r0 xs) cnt [b] (fun w' => RCrM w' b rb k qs n v (K.go n r0 xs)) w' := by
  obtain ⟨cls, i, steps, point, slot, gen, pop, ⟨rg, rm, rc, ro⟩, code, fin⟩ := K
  have HOK := Lib.hid E.ok
  have hs := E.ok.s1
  have g0 := E.ok.g0
  have g1 := E.ok.g1
  dsimp only at hf hi hS hs g0 g1
  subst hf hi
  replace hs := hs (by decide)
  obtain ⟨O, hq⟩ := E.ob R
  unfold crRow at O
  dsimp only at O
  obtain ⟨hra, hrl⟩ := R.at hs
  obtain ⟨la, hla⟩ : ∃ y, laterN rg = y := ⟨_, rfl⟩
  obtain ⟨vv, hv⟩ : ∃ y, rootV la 1 cls 0 = y := ⟨_, rfl⟩
  obtain ⟨z, hz⟩ : ∃ y, rootB la 1 cls 0 = y := ⟨_, rfl⟩
  have hvi := rootV_in la 1 cls 0
  rw [hv] at hvi
  have H0 := Lib.hid hra
  have H1 := Lib.hid hrl
  have H4 := Lib.hid (And.intro hla (And.intro g0 g1))
  have H5 := Lib.hid (And.intro hv hz)
  have H7 := Lib.hid hvi
  have HR := Lib.hid R
  have HE := Lib.hid E
  have HQ := Lib.hid hq
  have eg : Cr.go n r0 xs ⟨cls, 2, steps, point, slot, gen, pop, ⟨rg, rm, rc, ro⟩, code, false⟩ = ⟨cls, 2, steps + 1, point, slot, la, pop, ⟨rg, rm, rc, ro⟩, code, true⟩ := by
    unfold Cr.go; dsimp only; rw [if_neg (by decide), if_neg (by decide), hla]
  have ex : Cr.xs r0 xs ⟨cls, 2, steps, point, slot, gen, pop, ⟨rg, rm, rc, ro⟩, code, false⟩ = xs.set (r0 + slot) vv := by unfold Cr.xs; dsimp only; rw [if_neg (by decide), if_neg (by decide), hla, hv]
  rw [ex]
  have HG := Lib.hid eg
  have b2 := O.hb.cell (i := 2) rfl
  have b3 := O.hb.cell (i := 3) rfl
  have b13 := O.hb.cell (i := 13) rfl
  have f3 := O.hb.frozen 3
  have s0 : (0 : Int) ≤ (steps : Int) := Int.natCast_nonneg _
  have s1 : (steps : Int) ≤ 1000000 := by omega
  have HO := Lib.hid O
  clear hra hrl hla hv hz hvi g0 g1 R E O hq eg ex
  go_enter Tryz.func37, Tryz.ntmps37
  go_upto_region 4 with fail
  have O1 := HO.out.put 3 (.int .i64 ((steps : Int) + 1))
  have HO1 := Lib.hid O1
  generalize w.setCell ⟨b, 3, none⟩ (.int .i64 ((steps : Int) + 1)) = w1 at *
  clear b2 b3 b13 f3
  have c0 := O1.hb.cell (i := 0) rfl
  have c2 := O1.hb.cell (i := 2) rfl
  have c8 := O1.hb.cell (i := 8) rfl
  have c6 := O1.hb.cell (i := 6) rfl
  have h6 := O1.hb.frozen 6
  have k6 := HO1.out.hk.cell (i := 6) (v := .pointer (some ⟨p, 0, none⟩)) rfl
  clear O1
  go_upto_region 7 with (first
    | (go_at_call 82; refine (rlater_to H4.out.1 H4.out.2.1 H4.out.2.2 _).mono ?_; rintro e w2 ⟨rfl, rfl⟩))
  have O2 := HO1.out.put 6 (.int .i64 la)
  have HO2 := Lib.hid O2
  generalize w1.setCell ⟨b, 6, none⟩ (.int .i64 la) = w2 at *
  clear c0 c2 c8 c6 h6 k6
  have c6 := cell_class (O2.hb.cell (i := 6) rfl)
  have c1 := cell_class (O2.hb.cell (i := 1) rfl)
  clear O2
  refine wp_region_up (Up.refl w2) (by kernel_rfl) (by kernel_rfl) ?_
  repeat (go_big_quiet_step (first
    | (go_at_call 83; (with_reducible exact up_class (rputRoot_to H5.out.1 H5.out.2 _)))))
  refine wpQuiet_nil ?_
  rintro _ ⟨y3, rfl⟩
  have HO3 := Lib.hid (HO2.out.up y3.up)
  clear c6 c1
  generalize y3.w = w3 at *
  go_upto_region 8 with fail
  have HC0 := Lib.hid (show w3.drew.cell? ⟨b, 0, none⟩ = some (.pointer (some ⟨k, 0, none⟩)) ∧ w3.drew.cell? ⟨b, 5, none⟩ = some (.int .i64 (slot : Int)) ∧ w3.drew.cell? ⟨k, 0, none⟩ = some (.int .i64 c.wk) ∧ w3.drew.cell? ⟨k, 1, none⟩ = some (.int .i64 c.ch) ∧ w3.drew.cell? ⟨k, 2, none⟩ = some (.int .i64 c.wo) ∧ w3.drew.cell? ⟨k, 3, none⟩ = some (.int .i64 c.sl) ∧ w3.drew.cell? ⟨k, 4, none⟩ = some (.int .i64 c.ca) ∧ w3.drew.cell? ⟨k, 5, none⟩ = some (.int .i64 c.ba) from ob_cells (i := 5) (HO3.out.up (up_drew w3)) rfl rfl)
  go_region_held3 (fun w' => w'.cell? ⟨b, 0, none⟩ = some (.pointer (some ⟨k, 0, none⟩)) ∧ w'.cell? ⟨b, 5, none⟩ = some (.int .i64 (slot : Int)) ∧ w'.cell? ⟨k, 0, none⟩ = some (.int .i64 c.wk) ∧ w'.cell? ⟨k, 1, none⟩ = some (.int .i64 c.ch) ∧ w'.cell? ⟨k, 2, none⟩ = some (.int .i64 c.wo) ∧ w'.cell? ⟨k, 3, none⟩ = some (.int .i64 c.sl) ∧ w'.cell? ⟨k, 4, none⟩ = some (.int .i64 c.ca) ∧ w'.cell? ⟨k, 5, none⟩ = some (.int .i64 c.ba))
    ((first
      | with_reducible exact HC5.out
      | with_reducible exact HC4.out
      | with_reducible exact HC0.out))
    (first
      | (go_at_call 81; refine (rrootat_to c H0.out _).mono ?_; rintro e w4 ⟨rfl, U4⟩; have HO4 := Lib.hid ((HO3.out.up (up_drew w3)).up U4); have HC4 := Lib.hid (show w4.cell? ⟨b, 0, none⟩ = some (.pointer (some ⟨k, 0, none⟩)) ∧ w4.cell? ⟨b, 5, none⟩ = some (.int .i64 (slot : Int)) ∧ w4.cell? ⟨k, 0, none⟩ = some (.int .i64 c.wk) ∧ w4.cell? ⟨k, 1, none⟩ = some (.int .i64 c.ch) ∧ w4.cell? ⟨k, 2, none⟩ = some (.int .i64 c.wo) ∧ w4.cell? ⟨k, 3, none⟩ = some (.int .i64 c.sl) ∧ w4.cell? ⟨k, 4, none⟩ = some (.int .i64 c.ca) ∧ w4.cell? ⟨k, 5, none⟩ = some (.int .i64 c.ba) from ob_cells (i := 5) HO4.out rfl rfl); clear U4)
      | (go_at_call 84; refine (rstorec_to (a := (r0 : Int) + (slot : Int)) (j := r0 + slot) vv (by omega) HO4.out.hm H1.out).mono ?_; rintro e w5 ⟨rfl, M5, E5⟩; have HO5 := Lib.hid (HO4.out.turn M5 E5); have HC5 := Lib.hid (show w5.cell? ⟨b, 0, none⟩ = some (.pointer (some ⟨k, 0, none⟩)) ∧ w5.cell? ⟨b, 5, none⟩ = some (.int .i64 (slot : Int)) ∧ w5.cell? ⟨k, 0, none⟩ = some (.int .i64 c.wk) ∧ w5.cell? ⟨k, 1, none⟩ = some (.int .i64 c.ch) ∧ w5.cell? ⟨k, 2, none⟩ = some (.int .i64 c.wo) ∧ w5.cell? ⟨k, 3, none⟩ = some (.int .i64 c.sl) ∧ w5.cell? ⟨k, 4, none⟩ = some (.int .i64 c.ca) ∧ w5.cell? ⟨k, 5, none⟩ = some (.int .i64 c.ba) from ob_cells (i := 5) HO5.out rfl rfl); clear M5 E5))
  have q13 := HO5.out.hb.cell (i := 13) rfl
  have h13 := HO5.out.hb.frozen 13
  go_wp2_with fail
  go_ret
  rw [HG.out]
  exact ⟨rfl, (HO5.out.put 13 (.bool true)).created HR.out HE.out.pop HE.out.row HQ.out (ok_set HR.out.env.ok H7.out.1 H7.out.2) List.length_set rfl ⟨HOK.out.c0, HOK.out.c1, by simp, fun _ => HOK.out.s1 (by simp), HOK.out.g0, HOK.out.g1, by simp⟩⟩
end
end Go.Proofs.YtalglhgngedjoaaGreat
