/-
  Texts beneath RootsPlay, part 22: RtCreate.
-/
import Derived.Test.YtalglhgngedjoaaGreatPart21
/-
  Package roots: a Create, told by plain data (Cr): Step, Done, Code, Region, Point; it begins.
-/
namespace Go.Proofs.YtalglhgngedjoaaGreat
open Go.RowKit
open W64
set_option maxRecDepth 100000
def pcrNx (b : Nat) (K : Cr) : Value := if K.fin = true then .nilFunc else if K.i = 0 then meth 68 b else if K.i = 1 then meth 114 b else meth 132 b
def pcrGen (K : Cr) : Int := if K.i = 2 then laterN K.rt.g else K.gen
def pcrRow (b rb q : Nat) (K : Cr) : Array Value := #[pcrNx b K, .int .i64 (K.steps : Int), .pointer (some ⟨q, 0, none⟩), .int .i64 K.cls, .pointer (some ⟨rb, 0, none⟩), .int .i64 (K.slot : Int), .int .i64 (pcrGen K), .int .i64 K.code, .int .i64 (K.point : Int)]
/-- What a Create's numbers keep to. -/
structure Cr.Pk (n : Nat) (K : Cr) : Prop where
  c0 : 0 ≤ K.cls
  c1 : K.cls ≤ 3
  i2 : K.i ≤ 2
  s1 : K.i ≠ 0 → K.slot < n
  pf : K.i = 0 → K.fin = false → K.pop.fin = false
  gf : K.fin = true → K.i = 2 → laterN K.rt.g = K.gen
structure CrM (w : World) (b rb q qs n : Nat) (v : Value) (K : Cr) : Prop where
  row : Whole w b 135 (pcrRow b rb q K)
  pop : PoM w rb qs n v K.pop
  ok : K.Pk n
section
variable {w0 w w1 w2 w' : World} {q p g qs r0 n b rb d : Nat} {c : Cf} {s s' : St} {K : Cr} {v v' : Value} {t : TypeId} {ys : List Int} {ra rc rw : Array Value}
theorem Ints.nb (h : Ints w v ys) {cs : Array Value} (B : Whole w b t cs) (ht : 3 ≠ t) : v.ownBlock ≠ some b := by
  rcases h.2 with ⟨rfl, _⟩ | ⟨a, cap, cur, rfl, _, hh, _⟩
  · simp [Value.ownBlock]
  · intro e
    simp [Value.ownBlock] at e
    exact (show Whole w a 3 cur from hh).ne_type B ht e
theorem PoM.off {P : Po} (E : PoM w rb qs n v P) {cs : Array Value} (B : Whole w b t cs) (h1 : 171 ≠ t) (h2 : 3 ≠ t) : rb ≠ b ∧ v.ownBlock ≠ some b :=
  ⟨E.at_.top.ne_type B h1, E.at_.row.nb B h2⟩
theorem PoM.apart {P : Po} (E : PoM w rb qs n v P) (R : Roo w q p g qs c r0 n s) : Apart rb p g qs v := by
  obtain ⟨a1, a2⟩ := E.off R.env.mem.top (by decide) (by decide)
  obtain ⟨b1, b2⟩ := E.off R.env.mem.row (by decide) (by decide)
  obtain ⟨c1, c2⟩ := E.off R.env.stk (by decide) (by decide)
  exact ⟨a1, b1, c1, a2, b2, c2⟩
theorem CrM.else (L : CrM w b rb q qs n v K) {x : List Nat} (u : Else x w w') (h : b ∉ x) (h1 : rb ∉ x) (h2 : Away v x) : CrM w' b rb q qs n v K := ⟨u.whole L.row h, L.pop.else u h1 h2, L.ok⟩
theorem CrM.up (L : CrM w b rb q qs n v K) (u : Up w w') : CrM w' b rb q qs n v K := ⟨L.row.up u, L.pop.up u, L.ok⟩
theorem CrM.next (L : CrM w b rb q qs n v K) : w.cell? ⟨b, 0, none⟩ = some (pcrNx b K) := L.row.cell rfl
/-- The Pop is as it was. -/
theorem Ox.pop {P : Po} (O : Ox w0 b q p g t rw ra s w) (E : PoM w0 rb qs n v P) (R : Roo w0 q p g qs c r0 n s') (B : Whole w0 b t rc) (h1 : 171 ≠ t) (h2 : 3 ≠ t) : PoM w rb qs n v P := by
  obtain ⟨a1, a2⟩ := E.off B h1 h2
  have A := E.apart R
  refine E.else O.he (by simp [a1, A.bp, A.bg]) ?_
  intro j hj
  simp at hj
  rcases hj with rfl | rfl | rfl
  · exact a2
  · exact A.vp
  · exact A.vg
/-- Behind the Pop's own Step: a new base. -/
structure Popd (w1 w2 : World) (b rb q p g qs : Nat) (c : Cf) (r0 n : Nat) (s s2 : St) (v' : Value) (rw : Array Value) (P : Po) (own : List Nat) : Prop where
  hc : s2.c = wrap64 (s.c + 1)
  hl : s2.xs.length = s.xs.length
  roo : Roo w2 q p g qs c r0 n s2
  row : Whole w2 b 135 rw
  pop : PoM w2 rb qs n v' P
  he : Else (own ++ [p, g]) w1 w2
theorem Po.xs_len (P : Po) (hd : Nat) (xs : List Int) : (P.xs hd xs).length = xs.length := by
  unfold Po.xs; split
  · exact List.length_set
  · rfl
theorem popd (R : Roo w1 q p g qs c r0 n s) (B : Whole w1 b 135 rw) {P P' : Po} (E : PoM w1 rb qs n v P) (H : Acc w1 p g qs 1 (r0 + n) n s (P.xs 1 s.xs) (rb :: v.ownBlock.toList) (fun w' => PoM w' rb qs n v' P') w2) :
    ∃ s2, s2.xs = P.xs 1 s.xs ∧ Popd w1 w2 b rb q p g qs c r0 n s s2 v' rw P' (rb :: v.ownBlock.toList) := by
  obtain ⟨s2, hc, hx, E2, M2, U⟩ := H
  obtain ⟨a1, a2⟩ := E.off B (by decide) (by decide)
  obtain ⟨d1, d2⟩ := E.off R.obj (by decide) (by decide)
  have e1 := B.ne_type R.env.mem.top (by decide)
  have e2 := B.ne_type R.env.mem.row (by decide)
  refine ⟨s2, hx, ⟨hc, by rw [hx, Po.xs_len], ⟨U.whole R.obj ?_, E2, R.may, R.hr, R.hn⟩, U.whole B ?_, M2, U⟩⟩
  · simp [R.qp, R.qg, d1.symm]; exact d2
  · simp [e1, e2, a1.symm]; exact a2
theorem Popd.ob {s2 : St} {own : List Nat} {P : Po} (Q : Popd w1 w2 b rb q p g qs c r0 n s s2 v' rw P own) : Ox w2 b q p g 135 rw (rooRow c p qs) s2 w2 ∧ b ≠ qs :=
  ⟨Q.roo.ox Q.row (by decide) (by decide) (by decide), Q.row.ne_type Q.roo.env.stk (by decide)⟩
theorem Popd.out {wf : World} {s2 : St} {P : Po} {K' : Cr} {rf : Array Value} {xs : List Int} (Q : Popd w1 w2 b rb q p g qs c r0 n s s2 v' rw P (rb :: v.ownBlock.toList)) (h1 : Else [b] w w1) (O : Ox w2 b q p g 135 rf (rooRow c p qs) s2 wf) (hx : s2.xs = xs) (hr : rf = pcrRow b rb q K') (hP : K'.pop = P) (hK : K'.Pk n) :
    POut w q p g qs c r0 n s xs (b :: rb :: v.ownBlock.toList) (fun w' => CrM w' b rb q qs n v' K') wf := by
  subst hP hx
  have hq := Q.ob.2
  have RF : Roo wf q p g qs c r0 n s2 := Q.roo.turn O.hm O.he (by simp [O.n1.symm, O.n4, O.n5]) (by simp [hq.symm, Q.roo.env.np, Q.roo.env.ng]) Q.roo.env.ok rfl
  refine ⟨s2, Q.hc, rfl, RF, ⟨hr ▸ O.hb, O.pop Q.pop Q.roo Q.row (by decide) (by decide), hK⟩, ?_⟩
  have t1 : Else ((b :: rb :: v.ownBlock.toList) ++ [p, g]) w w1 := h1.more (by intro j hj; simp at hj; simp [hj])
  have t2 : Else ((b :: rb :: v.ownBlock.toList) ++ [p, g]) w1 w2 := Q.he.more (by intro j hj; simp at hj ⊢; rcases hj with h | h | h | h <;> simp [h])
  have t3 : Else ((b :: rb :: v.ownBlock.toList) ++ [p, g]) w2 wf := O.he.more (by intro j hj; simp at hj ⊢; rcases hj with h | h | h <;> simp [h])
  exact (t1.trans t2).trans t3
theorem genBehind_to {a y : Int} (h : laterN a = y) (h0 : 0 ≤ a) (h1 : a ≤ 4294967295) (w : World) : Calls Tryz.prog 131 #[.int .i64 a] w fun e w' => e = .returned (.int .i64 y) ∧ w = w' := by
  subst h
  unfold laterN
  by_cases h : 4294967295 ≤ a
  · obtain rfl : a = 4294967295 := by omega
    rw [if_pos h]
    go_enter Tryz.func131, Tryz.ntmps131
    go_wp2_with fail
    go_ret
    exact ⟨rfl, rfl⟩
  · have hb : (a == 4294967295) = false := by simp; omega
    rw [if_neg h]
    go_enter Tryz.func131, Tryz.ntmps131
    go_wp2_with fail
    go_ret
    exact ⟨rfl, rfl⟩
/-! ### The Load and the Store of the root -/
theorem run_gfield (a m c o : Int) (w : World) : (Instr.field 67 (.agg #[.int .i64 a, .int .i64 m, .int .i64 c, .int .i64 o]) 0).run Tryz.prog w = .ok (.int .i64 a) w := by rfl
theorem crt_cells {w : World} {x2 xi : Value} {i : Nat} (O : Ox w0 b q p g t rw (rooRow c p qs) s w) (h2 : rw[2]? = some x2) (hi : rw[i]? = some xi) :
    w.cell? ⟨b, 2, none⟩ = some x2 ∧ w.cell? ⟨b, i, none⟩ = some xi ∧ w.cell? ⟨q, 0, none⟩ = some (.pointer (some ⟨p, 0, none⟩)) ∧ w.cell? ⟨q, 1, none⟩ = some (.int .i64 c.wk) ∧ w.cell? ⟨q, 2, none⟩ = some (.int .i64 c.ch) ∧ w.cell? ⟨q, 3, none⟩ = some (.int .i64 c.wo) ∧ w.cell? ⟨q, 4, none⟩ = some (.int .i64 c.sl) ∧ w.cell? ⟨q, 5, none⟩ = some (.int .i64 c.ca) ∧ w.cell? ⟨q, 6, none⟩ = some (.int .i64 c.ba) :=
  ⟨O.hb.cell h2, O.hb.cell hi, O.hq.cell rfl, O.hq.cell rfl, O.hq.cell rfl, O.hq.cell rfl, O.hq.cell rfl, O.hq.cell rfl, O.hq.cell rfl⟩
theorem run_gfield1 (a m c o : Int) (w : World) : (Instr.field 67 (.agg #[.int .i64 a, .int .i64 m, .int .i64 c, .int .i64 o]) 1).run Tryz.prog w = .ok (.int .i64 m) w := by rfl
theorem run_gfield2 (a m c o : Int) (w : World) : (Instr.field 67 (.agg #[.int .i64 a, .int .i64 m, .int .i64 c, .int .i64 o]) 2).run Tryz.prog w = .ok (.int .i64 c) w := by rfl
set_option maxHeartbeats 2000000 in
theorem create_load {nx : Value} {st cls slot gen code pt x la : Int} {j : Nat} (O : Ox w0 b q p g 135 #[nx, .int .i64 st, .pointer (some ⟨q, 0, none⟩), .int .i64 cls, .pointer (some ⟨rb, 0, none⟩), .int .i64 slot, .int .i64 gen, .int .i64 code, .int .i64 pt] (rooRow c p qs) s w) (ha : lrootN c slot = (j : Int)) (hj : j < s.xs.length) (ok : s.Ok)
    (hx : s.xs.getD j 0 = x) (hla : laterN (rtOf x).g = la) :
    Calls Tryz.prog 114 #[.pointer (some ⟨b, 0, none⟩)] w fun e w' => e = .returned (.tuple #[]) ∧ Ox w0 b q p g 135 #[meth 132 b, .int .i64 st, .pointer (some ⟨q, 0, none⟩), .int .i64 cls, .pointer (some ⟨rb, 0, none⟩), .int .i64 slot, .int .i64 la, .int .i64 code, .int .i64 pt] (rooRow c p qs) (s.hit 1 (j : Int) (s.get (j : Int)) true) w' := by
  have hw := ok.words j
  rw [hx] at hw
  have hrt := rt_bd x hw.1 hw.2
  obtain ⟨rg, hrg⟩ : ∃ y, (rtOf x).g = y := ⟨_, rfl⟩
  obtain ⟨rm, hrm⟩ : ∃ y, (rtOf x).m = y := ⟨_, rfl⟩
  obtain ⟨rc, hrc⟩ : ∃ y, (rtOf x).c = y := ⟨_, rfl⟩
  obtain ⟨ro, hro⟩ : ∃ y, (rtOf x).o = y := ⟨_, rfl⟩
  rw [hrg] at hla hrt
  have HA := Lib.hid ha
  have HJ := Lib.hid hj
  have HX := Lib.hid hx
  have HW := Lib.hid hw
  have H4 := Lib.hid (And.intro hrg (And.intro hrm (And.intro hrc hro)))
  have H5 := Lib.hid (And.intro hla hrt.1)
  have hf := run_func
  have hg := run_gfield
  have HO := Lib.hid O
  clear O ha hj hx hw hrg hrm hrc hro hla ok hrt
  go_enter Tryz.func114, Tryz.ntmps114
  go_upto_region 0 with fail
  have HC0 := Lib.hid (show w.drew.cell? ⟨b, 2, none⟩ = some (.pointer (some ⟨q, 0, none⟩)) ∧ w.drew.cell? ⟨b, 5, none⟩ = some (.int .i64 slot) ∧ w.drew.cell? ⟨q, 0, none⟩ = some (.pointer (some ⟨p, 0, none⟩)) ∧ w.drew.cell? ⟨q, 1, none⟩ = some (.int .i64 c.wk) ∧ w.drew.cell? ⟨q, 2, none⟩ = some (.int .i64 c.ch) ∧ w.drew.cell? ⟨q, 3, none⟩ = some (.int .i64 c.wo) ∧ w.drew.cell? ⟨q, 4, none⟩ = some (.int .i64 c.sl) ∧ w.drew.cell? ⟨q, 5, none⟩ = some (.int .i64 c.ca) ∧ w.drew.cell? ⟨q, 6, none⟩ = some (.int .i64 c.ba) from crt_cells (i := 5) (HO.out.up (up_drew w)) rfl rfl)
  go_region_held3 (fun w' => w'.cell? ⟨b, 2, none⟩ = some (.pointer (some ⟨q, 0, none⟩)) ∧ w'.cell? ⟨b, 5, none⟩ = some (.int .i64 slot) ∧ w'.cell? ⟨q, 0, none⟩ = some (.pointer (some ⟨p, 0, none⟩)) ∧ w'.cell? ⟨q, 1, none⟩ = some (.int .i64 c.wk) ∧ w'.cell? ⟨q, 2, none⟩ = some (.int .i64 c.ch) ∧ w'.cell? ⟨q, 3, none⟩ = some (.int .i64 c.wo) ∧ w'.cell? ⟨q, 4, none⟩ = some (.int .i64 c.sl) ∧ w'.cell? ⟨q, 5, none⟩ = some (.int .i64 c.ca) ∧ w'.cell? ⟨q, 6, none⟩ = some (.int .i64 c.ba))
    ((first | with_reducible exact HC3.out | with_reducible exact HC2.out | with_reducible exact HC0.out))
    (first
      | (go_at_call 56; refine (root_is HA.out _).mono ?_; rintro e w2 ⟨rfl, U2⟩; have HO2 := Lib.hid ((HO.out.up (up_drew w)).up U2); have HC2 := Lib.hid (show w2.cell? ⟨b, 2, none⟩ = some (.pointer (some ⟨q, 0, none⟩)) ∧ w2.cell? ⟨b, 5, none⟩ = some (.int .i64 slot) ∧ w2.cell? ⟨q, 0, none⟩ = some (.pointer (some ⟨p, 0, none⟩)) ∧ w2.cell? ⟨q, 1, none⟩ = some (.int .i64 c.wk) ∧ w2.cell? ⟨q, 2, none⟩ = some (.int .i64 c.ch) ∧ w2.cell? ⟨q, 3, none⟩ = some (.int .i64 c.wo) ∧ w2.cell? ⟨q, 4, none⟩ = some (.int .i64 c.sl) ∧ w2.cell? ⟨q, 5, none⟩ = some (.int .i64 c.ca) ∧ w2.cell? ⟨q, 6, none⟩ = some (.int .i64 c.ba) from crt_cells (i := 5) HO2.out rfl rfl); clear U2)
      | (go_at_call 100; refine (loadj_to rfl HO2.out.hm HJ.out HX.out).mono ?_; rintro e w3 ⟨rfl, M3, E3⟩; have HO3 := Lib.hid (HO2.out.turn M3 E3); have HC3 := Lib.hid (show w3.cell? ⟨b, 2, none⟩ = some (.pointer (some ⟨q, 0, none⟩)) ∧ w3.cell? ⟨b, 5, none⟩ = some (.int .i64 slot) ∧ w3.cell? ⟨q, 0, none⟩ = some (.pointer (some ⟨p, 0, none⟩)) ∧ w3.cell? ⟨q, 1, none⟩ = some (.int .i64 c.wk) ∧ w3.cell? ⟨q, 2, none⟩ = some (.int .i64 c.ch) ∧ w3.cell? ⟨q, 3, none⟩ = some (.int .i64 c.wo) ∧ w3.cell? ⟨q, 4, none⟩ = some (.int .i64 c.sl) ∧ w3.cell? ⟨q, 5, none⟩ = some (.int .i64 c.ca) ∧ w3.cell? ⟨q, 6, none⟩ = some (.int .i64 c.ba) from crt_cells (i := 5) HO3.out rfl rfl); clear M3 E3))
  go_wp2_with (first
    | (go_at_call 55; refine (getRoot_to HW.out.1 HW.out.2 H4.out.1 H4.out.2.1 H4.out.2.2.1 H4.out.2.2.2 _).mono ?_; rintro e w4 ⟨rfl, U4⟩; have HO4 := Lib.hid (HO3.out.up U4); have q0 := HO4.out.hb.cell (i := 0) rfl; have q6 := HO4.out.hb.cell (i := 6) rfl; have h0 := HO4.out.hb.frozen 0; have h6 := HO4.out.hb.frozen 6; clear U4)
    | (go_at_call 131; refine (genBehind_to H5.out.1 H5.out.2.1 H5.out.2.2 _).mono ?_; rintro e w5 ⟨rfl, rfl⟩))
  go_end0
  exact ⟨rfl, (HO4.out.put 6 (.int .i64 la)).put 0 (meth 132 b)⟩
set_option maxHeartbeats 2000000 in
theorem create_store {nx : Value} {st cls slot gen code pt y : Int} {j : Nat} (O : Ox w0 b q p g 135 #[nx, .int .i64 st, .pointer (some ⟨q, 0, none⟩), .int .i64 cls, .pointer (some ⟨rb, 0, none⟩), .int .i64 slot, .int .i64 gen, .int .i64 code, .int .i64 pt] (rooRow c p qs) s w) (ha : lrootN c slot = (j : Int)) (hj : j < s.xs.length)
    (hy : rootV gen 1 cls 0 = y) :
    Calls Tryz.prog 132 #[.pointer (some ⟨b, 0, none⟩)] w fun e w' => e = .returned (.tuple #[]) ∧ Ox w0 b q p g 135 #[.nilFunc, .int .i64 st, .pointer (some ⟨q, 0, none⟩), .int .i64 cls, .pointer (some ⟨rb, 0, none⟩), .int .i64 slot, .int .i64 gen, .int .i64 code, .int .i64 pt] (rooRow c p qs) (s.hit 2 (j : Int) y true) w' := by
  obtain ⟨z, hz⟩ : ∃ z, rootB gen 1 cls 0 = z := ⟨_, rfl⟩
  have HA := Lib.hid ha
  have HJ := Lib.hid hj
  have H5 := Lib.hid (And.intro hy hz)
  have HO := Lib.hid O
  have c6 := cell_class (O.hb.cell (i := 6) rfl)
  have c3 := cell_class (O.hb.cell (i := 3) rfl)
  clear O ha hj hy hz
  go_enter Tryz.func132, Tryz.ntmps132
  go_upto_region 0 with fail
  refine wp_region_up (Up.refl w) (by kernel_rfl) (by kernel_rfl) ?_
  repeat (go_big_quiet_step (first
    | (go_at_call 125; (with_reducible exact up_class (putRoot_to H5.out.1 H5.out.2 _)))))
  refine wpQuiet_nil ?_
  rintro _ ⟨y5, rfl⟩
  have HO1 := Lib.hid (HO.out.up y5.up)
  clear c6 c3
  generalize y5.w = w1 at *
  go_upto_region 1 with fail
  have HC0 := Lib.hid (show w1.drew.cell? ⟨b, 2, none⟩ = some (.pointer (some ⟨q, 0, none⟩)) ∧ w1.drew.cell? ⟨b, 5, none⟩ = some (.int .i64 slot) ∧ w1.drew.cell? ⟨q, 0, none⟩ = some (.pointer (some ⟨p, 0, none⟩)) ∧ w1.drew.cell? ⟨q, 1, none⟩ = some (.int .i64 c.wk) ∧ w1.drew.cell? ⟨q, 2, none⟩ = some (.int .i64 c.ch) ∧ w1.drew.cell? ⟨q, 3, none⟩ = some (.int .i64 c.wo) ∧ w1.drew.cell? ⟨q, 4, none⟩ = some (.int .i64 c.sl) ∧ w1.drew.cell? ⟨q, 5, none⟩ = some (.int .i64 c.ca) ∧ w1.drew.cell? ⟨q, 6, none⟩ = some (.int .i64 c.ba) from crt_cells (i := 5) (HO1.out.up (up_drew w1)) rfl rfl)
  go_region_held3 (fun w' => w'.cell? ⟨b, 2, none⟩ = some (.pointer (some ⟨q, 0, none⟩)) ∧ w'.cell? ⟨b, 5, none⟩ = some (.int .i64 slot) ∧ w'.cell? ⟨q, 0, none⟩ = some (.pointer (some ⟨p, 0, none⟩)) ∧ w'.cell? ⟨q, 1, none⟩ = some (.int .i64 c.wk) ∧ w'.cell? ⟨q, 2, none⟩ = some (.int .i64 c.ch) ∧ w'.cell? ⟨q, 3, none⟩ = some (.int .i64 c.wo) ∧ w'.cell? ⟨q, 4, none⟩ = some (.int .i64 c.sl) ∧ w'.cell? ⟨q, 5, none⟩ = some (.int .i64 c.ca) ∧ w'.cell? ⟨q, 6, none⟩ = some (.int .i64 c.ba))
    ((first | with_reducible exact HC3.out | with_reducible exact HC2.out | with_reducible exact HC0.out))
    (first
      | (go_at_call 56; refine (root_is HA.out _).mono ?_; rintro e w2 ⟨rfl, U2⟩; have HO2 := Lib.hid ((HO1.out.up (up_drew w1)).up U2); have HC2 := Lib.hid (show w2.cell? ⟨b, 2, none⟩ = some (.pointer (some ⟨q, 0, none⟩)) ∧ w2.cell? ⟨b, 5, none⟩ = some (.int .i64 slot) ∧ w2.cell? ⟨q, 0, none⟩ = some (.pointer (some ⟨p, 0, none⟩)) ∧ w2.cell? ⟨q, 1, none⟩ = some (.int .i64 c.wk) ∧ w2.cell? ⟨q, 2, none⟩ = some (.int .i64 c.ch) ∧ w2.cell? ⟨q, 3, none⟩ = some (.int .i64 c.wo) ∧ w2.cell? ⟨q, 4, none⟩ = some (.int .i64 c.sl) ∧ w2.cell? ⟨q, 5, none⟩ = some (.int .i64 c.ca) ∧ w2.cell? ⟨q, 6, none⟩ = some (.int .i64 c.ba) from crt_cells (i := 5) HO2.out rfl rfl); clear U2)
      | (go_at_call 140; refine (storej_to y rfl HO2.out.hm HJ.out).mono ?_; rintro e w3 ⟨rfl, M3, E3⟩; have HO3 := Lib.hid (HO2.out.turn M3 E3); have HC3 := Lib.hid (show w3.cell? ⟨b, 2, none⟩ = some (.pointer (some ⟨q, 0, none⟩)) ∧ w3.cell? ⟨b, 5, none⟩ = some (.int .i64 slot) ∧ w3.cell? ⟨q, 0, none⟩ = some (.pointer (some ⟨p, 0, none⟩)) ∧ w3.cell? ⟨q, 1, none⟩ = some (.int .i64 c.wk) ∧ w3.cell? ⟨q, 2, none⟩ = some (.int .i64 c.ch) ∧ w3.cell? ⟨q, 3, none⟩ = some (.int .i64 c.wo) ∧ w3.cell? ⟨q, 4, none⟩ = some (.int .i64 c.sl) ∧ w3.cell? ⟨q, 5, none⟩ = some (.int .i64 c.ca) ∧ w3.cell? ⟨q, 6, none⟩ = some (.int .i64 c.ba) from crt_cells (i := 5) HO3.out rfl rfl); clear M3 E3))
  have q0 := HO3.out.hb.cell (i := 0) rfl
  have h0 := HO3.out.hb.frozen 0
  go_wp2_with fail
  go_end0
  exact ⟨rfl, HO3.out.put 0 .nilFunc⟩
/-! ### An access of the Pop -/
theorem near_le (h : Near w1 v v') (u : w.heap.size ≤ w1.heap.size) : Near w v v' := by
  rcases h with h | h | ⟨r, h1, h2⟩
  · exact .inl h
  · exact .inr (.inl h)
  · exact .inr (.inr ⟨r, h1, Nat.le_trans u h2⟩)
set_option maxHeartbeats 4000000 in
theorem create_pop {st cls gen : Int} {slot : Nat} {rt : Rt} {steps point : Nat} {pop : Po} {code : Int} (R : Roo w q p g qs c r0 n s) (B : Whole w b 135 (pcrRow b rb q ⟨cls, 0, steps, point, slot, gen, pop, rt, code, false⟩)) (E : PoM w rb qs n v pop) (HOK' : (⟨cls, 0, steps, point, slot, gen, pop, rt, code, false⟩ : Cr).Pk n) (hS : steps ≤ 1000000) (hst : st = (steps : Int)) :
    Calls Tryz.prog 68 #[.pointer (some ⟨b, 0, none⟩)] (w.setCell ⟨b, 1, none⟩ (.int .i64 (st + 1))) fun e w' => e = .returned (.tuple #[]) ∧ ∃ v', Near w v v' ∧ POut w q p g qs c r0 n s (pop.xs 1 s.xs) (b :: rb :: v.ownBlock.toList) (fun w' => CrM w' b rb q qs n v' (Cr.go n r0 s.xs ⟨cls, 0, steps, point, slot, gen, pop, rt, code, false⟩)) w' := by
  subst hst
  have HOK := Lib.hid HOK'
  have hp := HOK'.pf rfl rfl
  dsimp only at hp
  have hq := B.ne_type R.env.stk (by decide)
  have O := R.ox B (by decide) (by decide) (by decide)
  obtain ⟨P', hP'⟩ : ∃ P', pop.go n 1 (r0 + n) s.xs = P' := ⟨_, rfl⟩
  have KG := E.ok.go (hd := 1) (ln := r0 + n) (xs := s.xs) R.env.ok.words R.env.n0
  rw [hP'] at KG
  have HK := Lib.hid KG
  have HP := Lib.hid hp
  have HPE := Lib.hid hP'
  have O1 := O.put 1 (.int .i64 ((steps : Int) + 1))
  have HU1 := Lib.hid (show Else [b] w (w.setCell ⟨b, 1, none⟩ (.int .i64 ((steps : Int) + 1))) from (Else.refl [b] w).set (.inl (by simp)) _)
  have HR1 := Lib.hid (show Roo (w.setCell ⟨b, 1, none⟩ (.int .i64 ((steps : Int) + 1))) q p g qs c r0 n s from R.turn O1.hm O1.he (by simp [O1.n1.symm, O1.n4, O1.n5]) (by simp [hq.symm, R.env.np, R.env.ng]) R.env.ok rfl)
  have HM1 := Lib.hid (show PoM (w.setCell ⟨b, 1, none⟩ (.int .i64 ((steps : Int) + 1))) rb qs n v pop from O1.pop E R B (by decide) (by decide))
  have HO1 := Lib.hid O1
  have hf := run_func
  generalize w.setCell ⟨b, 1, none⟩ (.int .i64 ((steps : Int) + 1)) = w1 at *
  have c4 := O1.hb.cell (i := 4) (v := .pointer (some ⟨rb, 0, none⟩)) rfl
  have s0 : (0 : Int) ≤ (steps : Int) := Int.natCast_nonneg _
  have s1 : (steps : Int) ≤ 1000000 := by omega
  clear O1 O R B E HOK' hp hP' KG hq
  go_enter Tryz.func68, Tryz.ntmps68
  go_upto_region 1 with (first
    | (go_at_call 111; refine (poStep HR1.out.env (HM1.out.apart HR1.out) HM1.out HP.out).mono ?_; rintro e w2 ⟨rfl, v2, NR, A2⟩; have HNR := Lib.hid (near_le NR HU1.out.size); clear NR; rw [HPE.out] at A2; obtain ⟨s2, x2, Q2⟩ := popd HR1.out HO1.out.hb HM1.out A2; have HQ2 := Lib.hid Q2; have HX2 := Lib.hid x2; clear A2 Q2 x2))
  clear c4
  have O2 := HQ2.out.ob.1
  have HO2 := Lib.hid O2
  have c4 := O2.hb.cell (i := 4) (v := .pointer (some ⟨rb, 0, none⟩)) rfl
  cases hfin : P'.fin
  · have HF := Lib.hid hfin
    have eg : Cr.go n r0 s.xs ⟨cls, 0, steps, point, slot, gen, pop, rt, code, false⟩ = ⟨cls, 0, steps + 1, point, slot, gen, P', rt, code, false⟩ := by
      unfold Cr.go; dsimp only; rw [if_pos rfl, HPE.out, if_pos hfin]
    have HG := Lib.hid eg
    clear O2 eg hfin
    go_wp2_with (first
      | (go_at_call 112; refine (popDone_to HQ2.out.pop HF.out).mono ?_; rintro e w3 ⟨rfl, rfl⟩))
    refine bodyPost_ret (v := .tuple #[]) (by simp [results, Tryz.results68, go_sem]) rfl ?_
    rw [HG.out]
    exact ⟨rfl, v2, HNR.out, HQ2.out.out HU1.out HO2.out HX2.out rfl rfl ⟨HOK.out.c0, HOK.out.c1, by simp, by simp, fun _ _ => HF.out, by simp⟩⟩
  · have HF := Lib.hid hfin
    have c1 := O2.hb.cell (i := 1) (v := .int .i64 ((steps : Int) + 1)) rfl
    have c8 := O2.hb.cell (i := 8) (v := .int .i64 (point : Int)) rfl
    have f8 := O2.hb.frozen 8
    obtain ⟨N, hN⟩ : ∃ N, P'.l.length = N := ⟨_, rfl⟩
    have HN := Lib.hid hN
    clear O2 hfin hN
    go_upto_region 3 with (first
      | (go_at_call 112; refine (popDone_to HQ2.out.pop HF.out).mono ?_; rintro e w3 ⟨rfl, rfl⟩))
    have O3 := HO2.out.put 8 (.int .i64 ((steps : Int) + 1))
    have HO3 := Lib.hid O3
    have HM3 := Lib.hid (show PoM (w2.setCell ⟨b, 8, none⟩ (.int .i64 ((steps : Int) + 1))) rb qs n v2 P' from O3.pop HQ2.out.pop HQ2.out.roo HQ2.out.row (by decide) (by decide))
    generalize w2.setCell ⟨b, 8, none⟩ (.int .i64 ((steps : Int) + 1)) = w3 at *
    clear c1 c8 f8 c4
    have c4 := O3.hb.cell (i := 4) (v := .pointer (some ⟨rb, 0, none⟩)) rfl
    clear O3
    by_cases hl : P'.l = []
    · have eg : Cr.go n r0 s.xs ⟨cls, 0, steps, point, slot, gen, pop, rt, code, false⟩ = ⟨cls, 0, steps + 1, steps + 1, slot, gen, P', rt, 7, true⟩ := by
        unfold Cr.go; dsimp only; rw [if_pos rfl, HPE.out, if_neg (by rw [HF.out]; decide), if_pos hl]
      have HG := Lib.hid eg
      have hN0 := HN.out
      rw [hl] at hN0
      obtain rfl : N = 0 := hN0.symm
      clear eg hl hN0
      go_wp2_with (first
        | (go_at_call 113; refine (popGot HM3.out).mono ?_; rintro e w4 ⟨o, rfl, J4, _, U4⟩; rw [HF.out, if_pos rfl] at J4; obtain ⟨A4, c4', rfl⟩ : ∃ A c, o = .slice A 0 c := (by obtain ⟨A, c, e⟩ := J4.slice; exact ⟨A, c, by rw [e, I_len, HN.out]⟩); have HO4 := Lib.hid (HO3.out.up U4); have q7 := HO4.out.hb.cell (i := 7) (v := .int .i64 code) rfl; have q0 := HO4.out.hb.cell (i := 0) rfl; have h7 := HO4.out.hb.frozen 7; have h0 := HO4.out.hb.frozen 0; clear J4 U4))
      refine bodyPost_ret (v := .tuple #[]) (by simp [results, Tryz.results68, go_sem]) rfl ?_
      rw [HG.out]
      exact ⟨rfl, v2, HNR.out, HQ2.out.out HU1.out ((HO4.out.put 7 (.int .i64 7)).put 0 .nilFunc) HX2.out rfl rfl ⟨HOK.out.c0, HOK.out.c1, by simp, by simp, by simp, by simp⟩⟩
    · obtain ⟨l0, hl0⟩ : ∃ l0, P'.l.getD 0 0 = l0 := ⟨_, rfl⟩
      have hlt : l0 < n := by
        have := List.length_pos_iff.2 hl
        rw [← hl0]; exact HK.out.lt _ (by simp [List.getD, this])
      have eg : Cr.go n r0 s.xs ⟨cls, 0, steps, point, slot, gen, pop, rt, code, false⟩ = ⟨cls, 1, steps + 1, steps + 1, l0, gen, P', rt, code, false⟩ := by
        unfold Cr.go; dsimp only; rw [if_pos rfl, HPE.out, if_neg (by rw [HF.out]; decide), if_neg hl, hl0]
      have HG := Lib.hid eg
      have HL := Lib.hid hl
      have HL0 := Lib.hid hl0
      have HLT := Lib.hid hlt
      have n0 : (0 : Int) < (N : Int) := by have := List.length_pos_iff.2 hl; have := HN.out; omega
      have n1 : ((N : Int) == 0) = false := by simp; omega
      clear eg hl hl0 hlt
      go_wp2_with (first
        | (go_at_call 113; refine (popGot HM3.out).mono ?_; rintro e w4 ⟨o, rfl, J4, _, U4⟩; rw [HF.out, if_pos rfl] at J4; obtain ⟨g4, c4', rfl, d4⟩ := J4.get HL.out; replace d4 := d4 0 (List.length_pos_iff.2 HL.out); rw [HL0.out] at d4; rw [HN.out]; have HO4 := Lib.hid (HO3.out.up U4); have q5 := HO4.out.hb.cell (i := 5) (v := .int .i64 (slot : Int)) rfl; have q0 := HO4.out.hb.cell (i := 0) rfl; have h5 := HO4.out.hb.frozen 5; have h0 := HO4.out.hb.frozen 0; clear J4 U4))
      go_end0
      rw [HG.out]
      exact ⟨rfl, v2, HNR.out, HQ2.out.out HU1.out ((HO4.out.put 5 (.int .i64 (l0 : Int))).put 0 (meth 114 b)) HX2.out rfl rfl ⟨HOK.out.c0, HOK.out.c1, by simp, fun _ => HLT.out, by simp, by simp⟩⟩
theorem POut.wide {M : World → Prop} {xs : List Int} {own own' : List Nat} (H : POut w q p g qs c r0 n s xs own M w') (h : ∀ j ∈ own, j ∈ own') : POut w q p g qs c r0 n s xs own' M w' := by
  obtain ⟨s', h1, h2, h3, h4, h5⟩ := H
  exact ⟨s', h1, h2, h3, h4, h5.more (by intro j hj; simp at hj ⊢; rcases hj with h1 | h1 | h1 <;> first | exact .inl (h j h1) | simp [h1])⟩
theorem crStep (R : Roo w q p g qs c r0 n s) (E : CrM w b rb q qs n v K) (hf : K.fin = false) (hS : K.steps ≤ 1000000) :
    Calls Tryz.prog 29 #[.pointer (some ⟨b, 0, none⟩)] w fun e w' => e = .returned (.bool true) ∧ ∃ v', Near w v v' ∧ POut w q p g qs c r0 n s (K.xs r0 s.xs) (b :: rb :: v.ownBlock.toList) (fun w' => CrM w' b rb q qs n v' (K.go n r0 s.xs)) w' := by
  obtain ⟨cls, i, steps, point, slot, gen, pop, rt, code, fin⟩ := K
  have i2 := E.ok.i2
  have s1 := E.ok.s1
  have HOK := E.ok
  have HP := E.pop
  dsimp only at hf hS i2 s1 HP
  subst hf
  have hq := E.row.ne_type R.env.stk (by decide)
  have O := R.ox E.row (by decide) (by decide) (by decide)
  have c0 : w.cell? ⟨b, 0, none⟩ = some (pcrNx b ⟨cls, i, steps, point, slot, gen, pop, rt, code, false⟩) := E.next
  have c1 : w.cell? ⟨b, 1, none⟩ = some (.int .i64 (steps : Int)) := O.hb.cell rfl
  unfold pcrNx at c0
  dsimp only at c0
  rw [if_neg (by decide)] at c0
  rcases (show i = 0 ∨ i = 1 ∨ i = 2 by omega) with rfl | rfl | rfl
  · rw [if_pos rfl] at c0
    have ex : Cr.xs r0 s.xs ⟨cls, 0, steps, point, slot, gen, pop, rt, code, false⟩ = pop.xs 1 s.xs := by unfold Cr.xs; dsimp only; rw [if_pos rfl]
    rw [ex]
    refine (step_create_popSlot c0 c1 (O.hb.frozen 1) (by omega) (by omega) (create_pop R E.row HP HOK hS rfl)).mono ?_
    rintro e w' ⟨rfl, v', N, H⟩
    exact ⟨rfl, v', N, H⟩
  · rw [if_neg (by decide), if_pos rfl] at c0
    have hs := s1 (by decide)
    obtain ⟨ha, hj⟩ := R.at hs
    have ex : Cr.xs r0 s.xs ⟨cls, 1, steps, point, slot, gen, pop, rt, code, false⟩ = s.xs := by unfold Cr.xs; dsimp only; rw [if_neg (by decide), if_pos rfl]
    have eg : Cr.go n r0 s.xs ⟨cls, 1, steps, point, slot, gen, pop, rt, code, false⟩ = ⟨cls, 2, steps + 1, point, slot, gen, pop, rtOf (s.xs.getD (r0 + slot) 0), code, false⟩ := by unfold Cr.go; dsimp only; rw [if_neg (by decide), if_pos rfl]
    rw [ex, eg]
    refine (step_create_loadRoot c0 c1 (O.hb.frozen 1) (by omega) (by omega) (create_load (O.put 1 (.int .i64 ((steps : Int) + 1))) ha hj R.env.ok rfl rfl)).mono ?_
    rintro e w' ⟨rfl, O2⟩
    refine ⟨rfl, v, .inl rfl, POut.wide (own := [b]) ?_ (by simp)⟩
    have H := O2.out (M := fun w' => CrM w' b rb q qs n v ⟨cls, 2, steps + 1, point, slot, gen, pop, rtOf (s.xs.getD (r0 + slot) 0), code, false⟩) R hq rfl (R.env.ok.hit _ _ _ (R.env.ok _).1 (R.env.ok _).2) (hit_len _ _ _ _ _) ⟨O2.hb, O2.pop HP R E.row (by decide) (by decide), HOK.c0, HOK.c1, by simp, fun _ => hs, by simp, by simp⟩
    rw [read_xs] at H
    exact H
  · rw [if_neg (by decide), if_neg (by decide)] at c0
    have hs := s1 (by decide)
    obtain ⟨ha, hj⟩ := R.at hs
    have ex : Cr.xs r0 s.xs ⟨cls, 2, steps, point, slot, gen, pop, rt, code, false⟩ = s.xs.set (r0 + slot) (rootV (laterN rt.g) 1 cls 0) := by unfold Cr.xs; dsimp only; rw [if_neg (by decide), if_neg (by decide)]
    have eg : Cr.go n r0 s.xs ⟨cls, 2, steps, point, slot, gen, pop, rt, code, false⟩ = ⟨cls, 2, steps + 1, point, slot, laterN rt.g, pop, rt, code, true⟩ := by unfold Cr.go; dsimp only; rw [if_neg (by decide), if_neg (by decide)]
    rw [ex, eg]
    have hv := rootV_in (laterN rt.g) 1 cls 0
    refine (step_create_storeRoot c0 c1 (O.hb.frozen 1) (by omega) (by omega) (create_store (O.put 1 (.int .i64 ((steps : Int) + 1))) ha hj rfl)).mono ?_
    rintro e w' ⟨rfl, O2⟩
    refine ⟨rfl, v, .inl rfl, POut.wide (own := [b]) ?_ (by simp)⟩
    have H := O2.out (M := fun w' => CrM w' b rb q qs n v ⟨cls, 2, steps + 1, point, slot, laterN rt.g, pop, rt, code, true⟩) R hq rfl (R.env.ok.hit _ _ _ hv.1 hv.2) (hit_len _ _ _ _ _) ⟨O2.hb, O2.pop HP R E.row (by decide) (by decide), HOK.c0, HOK.c1, by simp, fun _ => hs, by simp, by simp⟩
    rw [hit_at] at H
    exact H
theorem crStep_no (L : CrM w b rb q qs n v K) (hf : K.fin = true) : Calls Tryz.prog 29 #[.pointer (some ⟨b, 0, none⟩)] w fun e w' => e = .returned (.bool false) ∧ w = w' := by
  have c0 := L.next
  unfold pcrNx at c0
  rw [if_pos hf] at c0
  exact createStep_end c0
theorem crDone (L : CrM w b rb q qs n v K) {y : Bool} (h : K.fin = y) : Calls Tryz.prog 31 #[.pointer (some ⟨b, 0, none⟩)] w fun e w' => e = .returned (.bool y) ∧ w = w' := by
  have c0 := L.next
  unfold pcrNx at c0
  subst h
  cases hf : K.fin
  · rw [hf, if_neg (by decide)] at c0
    split at c0
    · exact createDone_no c0
    · split at c0
      · exact createDone_no c0
      · exact createDone_no c0
  · rw [hf, if_pos rfl] at c0; exact createDone_yes c0
theorem crCode (L : CrM w b rb q qs n v K) {y : Int} (h : K.code = y) : Calls Tryz.prog 32 #[.pointer (some ⟨b, 0, none⟩)] w fun e w' => e = .returned (.int .i64 y) ∧ w = w' := by
  have c6 := L.row.cell (i := 7) (v := .int .i64 K.code) rfl
  rw [h] at c6
  clear L
  go_enter Tryz.func32, Tryz.ntmps32
  go_wp2_with fail
  go_ret
  exact ⟨rfl, rfl⟩
theorem crPoint (L : CrM w b rb q qs n v K) {y : Nat} (h : K.point = y) : Calls Tryz.prog 33 #[.pointer (some ⟨b, 0, none⟩)] w fun e w' => e = .returned (.int .i64 (y : Int)) ∧ w = w' := by
  have c6 := L.row.cell (i := 8) (v := .int .i64 (K.point : Int)) rfl
  rw [h] at c6
  clear L
  go_enter Tryz.func33, Tryz.ntmps33
  go_wp2_with fail
  go_ret
  exact ⟨rfl, rfl⟩
theorem crRegion (L : CrM w b rb q qs n v K) (hf : K.fin = true) {sl : Nat} {y : Int} (h1 : K.slot = sl) (h2 : pcrGen K = y) : Calls Tryz.prog 30 #[.pointer (some ⟨b, 0, none⟩)] w fun e w' => e = .returned (.tuple #[.int .i64 (sl : Int), .int .i64 y]) ∧ Up w w' := by
  have c5 := L.row.cell (i := 5) (v := .int .i64 (K.slot : Int)) rfl
  have c6 := L.row.cell (i := 6) (v := .int .i64 (pcrGen K)) rfl
  rw [h1] at c5
  rw [h2] at c6
  have HD := Lib.hid (crDone L hf)
  clear L
  go_enter Tryz.func30, Tryz.ntmps30
  go_upto_region 3 with (first | (go_at_call 31; refine HD.out.mono ?_; rintro e w2 ⟨rfl, rfl⟩))
  go_quiet (fail)
  go_wp2_with fail
  go_ret2
  exact ⟨rfl, Up.drewN _ _⟩
set_option maxHeartbeats 1000000 in
theorem crNew (R : Roo w q p g qs c r0 n s) (a : Int) :
    Calls Tryz.prog 28 #[.pointer (some ⟨q, 0, none⟩), .int .i64 a] w fun e w' => ∃ b rb, e = .returned (.pointer (some ⟨b, 0, none⟩)) ∧ CrM w' b rb q qs n (.slice none 0 0) (Cr.new (cutC a)) ∧ w.heap.size ≤ b ∧ w.heap.size ≤ rb ∧ Up w w' := by
  have k7 := R.obj.cell (i := 7) (v := .pointer (some ⟨qs, 0, none⟩)) rfl
  have key : ∀ (w2 : World) (y : Int), y = cutC a → Up w w2 → PoM w2 w.heap.size qs n (.slice none 0 0) ⟨1, 0, 0, 0, [], false⟩ → CrM (w2.alloc (.cells #[meth 68 w2.heap.size, .int .i64 0, .pointer (some ⟨q, 0, none⟩), .int .i64 y, .pointer (some ⟨w.heap.size, 0, none⟩), .int .i64 0, .int .i64 0, .int .i64 0, .int .i64 0] 135)) w2.heap.size w.heap.size q qs n (.slice none 0 0) (Cr.new (cutC a)) := by
    intro w2 y hy U P
    subst hy
    exact ⟨Whole.new _ _ (pcrRow w2.heap.size w.heap.size q (Cr.new (cutC a))), P.up (Up.alloc _ _), ⟨(cutC_in a).1, (cutC_in a).2, by simp [Cr.new], by simp [Cr.new], by simp [Cr.new], by simp [Cr.new]⟩⟩
  have HK := Lib.hid key
  have hf := run_func
  clear R key
  by_cases h0 : a < 0
  · have HC := Lib.hid (show (0 : Int) = cutC a by unfold cutC; rw [if_pos h0])
    go_enter Tryz.func28, Tryz.ntmps28
    go_wp2_with (go_at_call 67; refine (poNew (q := qs) 1 (most := 1) (by decide) n).mono ?_; rintro e w2 ⟨rfl, P2, U2⟩)
    go_ret
    exact ⟨_, _, rfl, HK.out w2 0 HC.out U2 P2, U2.size, Nat.le_refl _, U2.then_alloc _⟩
  · by_cases h1 : 3 < a
    · have HC := Lib.hid (show (3 : Int) = cutC a by unfold cutC; rw [if_neg h0, if_pos h1])
      have h2 : (0 : Int) ≤ a := by omega
      go_enter Tryz.func28, Tryz.ntmps28
      go_wp2_with (go_at_call 67; refine (poNew (q := qs) 1 (most := 1) (by decide) n).mono ?_; rintro e w2 ⟨rfl, P2, U2⟩)
      go_ret
      exact ⟨_, _, rfl, HK.out w2 3 HC.out U2 P2, U2.size, Nat.le_refl _, U2.then_alloc _⟩
    · have HC := Lib.hid (show a = cutC a by unfold cutC; rw [if_neg h0, if_neg h1])
      have h2 : (0 : Int) ≤ a := by omega
      go_enter Tryz.func28, Tryz.ntmps28
      go_wp2_with (go_at_call 67; refine (poNew (q := qs) 1 (most := 1) (by decide) n).mono ?_; rintro e w2 ⟨rfl, P2, U2⟩)
      go_ret
      exact ⟨_, _, rfl, HK.out w2 a HC.out U2 P2, U2.size, Nat.le_refl _, U2.then_alloc _⟩
end
end Go.Proofs.YtalglhgngedjoaaGreat
