/-
  Texts beneath RootsPlay, part 18: RefCreate3, RefEnd2, RefEnd3.
-/
import Derived.Test.YtalglhgngedjoaaGreatPart17
/-
  The reference's Create: the accesses of its Pop, told by plain data (Cr); Step in one contract.
-/
namespace Go.Proofs.YtalglhgngedjoaaGreat
open Go.RowKit
open W64
set_option maxRecDepth 100000
section
variable {w0 w w1 w2 w' : World} {k p g qp qs qe r0 n b rb d : Nat} {c : Cf} {xs xs' : List Int} {cnt cnt' : Int} {K : Cr} {t : TypeId} {ra rw rk : Array Value} {M : World → Prop} {v v' : Value} {ys : List Int}
/-- Behind the Pop's own Step: a new base. -/
structure Popped (w1 w2 : World) (b rb k p g qp qs qe : Nat) (c : Cf) (r0 n : Nat) (v' : Value) (rw : Array Value) (xs' : List Int) (cnt : Int) (P : Po) (own : List Nat) : Prop where
  rw_ : RW w2 k p g qp qs qe c r0 n xs' (wrap64 (cnt + 1))
  row : Whole w2 b 98 rw
  pop : RPoM w2 rb qs n v' P
  he : Else (own ++ [p, g]) w1 w2
theorem popped (R : RW w1 k p g qp qs qe c r0 n xs cnt) (B : Whole w1 b 98 rw) {P P' : Po} (E : RPoM w1 rb qs n v P) (H : RAcc w1 p g qs 1 (r0 + n) n cnt xs' (rb :: v.ownBlock.toList) (fun w' => RPoM w' rb qs n v' P') w2) :
    Popped w1 w2 b rb k p g qp qs qe c r0 n v' rw xs' cnt P' (rb :: v.ownBlock.toList) := by
  obtain ⟨E2, M2, U⟩ := H
  obtain ⟨a1, a2⟩ := E.off B (by decide) (by decide)
  obtain ⟨d1, d2⟩ := E.off R.obj (by decide) (by decide)
  have e1 := B.ne_type R.env.mem.top (by decide)
  have e2 := B.ne_type R.env.mem.row (by decide)
  refine ⟨⟨U.whole R.obj ?_, E2, R.may, R.hr, R.hn⟩, U.whole B ?_, M2, U⟩
  · simp [R.kp, R.kg, d1.symm]; exact d2
  · simp [e1, e2, a1.symm]; exact a2
theorem Popped.ob {own : List Nat} {P : Po} (Q : Popped w1 w2 b rb k p g qp qs qe c r0 n v' rw xs' cnt P own) : Ob w2 b k p g 98 rw (wRow c p qp qs qe) xs' (wrap64 (cnt + 1)) w2 ∧ b ≠ qs :=
  ⟨⟨Q.row, Q.rw_.obj, Q.rw_.env.mem, Else.refl _ _, Q.row.ne_type Q.rw_.obj (by decide), Q.row.ne_type Q.rw_.env.mem.top (by decide), Q.row.ne_type Q.rw_.env.mem.row (by decide), Q.rw_.kp, Q.rw_.kg⟩, Q.row.ne_type Q.rw_.env.stk (by decide)⟩
/-- The end of a Step that was the Pop's. -/
theorem Popped.out {wf : World} {P : Po} {K' : Cr} {rf : Array Value} (Q : Popped w1 w2 b rb k p g qp qs qe c r0 n v' rw xs' cnt P (rb :: v.ownBlock.toList)) (h1 : Else [b] w w1) (O : Ob w2 b k p g 98 rf (wRow c p qp qs qe) xs' (wrap64 (cnt + 1)) wf) (hr : rf = crRow k rb K') (hP : K'.pop = P) (hK : K'.Ok n) :
    ROut w k p g qp qs qe c r0 n xs' cnt (b :: rb :: v.ownBlock.toList) (fun w' => RCrM w' b rb k qs n v' K') wf := by
  subst hP
  have hq := Q.ob.2
  have RF : RW wf k p g qp qs qe c r0 n xs' (wrap64 (cnt + 1)) := Q.rw_.turn O.hm O.he (by simp [O.n1.symm, O.n4, O.n5]) (by simp [hq.symm, Q.rw_.env.np, Q.rw_.env.ng]) Q.rw_.env.ok rfl
  refine ⟨RF, ⟨hr ▸ O.hb, O.pop Q.pop Q.rw_ Q.row (by decide) (by decide), hK⟩, ?_⟩
  have t1 : Else ((b :: rb :: v.ownBlock.toList) ++ [p, g]) w w1 := h1.more (by intro j hj; simp at hj; simp [hj])
  have t2 : Else ((b :: rb :: v.ownBlock.toList) ++ [p, g]) w1 w2 := Q.he.more (by intro j hj; simp at hj ⊢; rcases hj with h | h | h | h <;> simp [h])
  have t3 : Else ((b :: rb :: v.ownBlock.toList) ++ [p, g]) w2 wf := O.he.more (by intro j hj; simp at hj ⊢; rcases hj with h | h | h <;> simp [h])
  exact (t1.trans t2).trans t3
theorem rnear_le (h : Near w1 v v') (u : w.heap.size ≤ w1.heap.size) : Near w v v' := by
  rcases h with h | h | ⟨r, h1, h2⟩
  · exact .inl h
  · exact .inr (.inl h)
  · exact .inr (.inr ⟨r, h1, Nat.le_trans u h2⟩)
set_option maxHeartbeats 4000000 in
/-- An access of the Pop. -/
theorem rcrPop (R : RW w k p g qp qs qe c r0 n xs cnt) (E : RCrM w b rb k qs n v K) (hf : K.fin = false) (hi : K.i = 0) (hS : K.steps ≤ 1000000) :
    Calls Tryz.prog 37 #[.pointer (some ⟨b, 0, none⟩)] w fun e w' => e = .returned (.bool true) ∧ ∃ v', Near w v v' ∧ ROut w k p g qp qs qe c r0 n (K.xs r0 xs) cnt (b :: rb :: v.ownBlock.toList) (fun w' => RCrM w' b rb k qs n v' (K.go n r0 xs)) w' := by
  obtain ⟨cls, i, steps, point, slot, gen, pop, rt, code, fin⟩ := K
  have HOK := Lib.hid E.ok
  have hp := E.ok.pf
  dsimp only at hf hi hS hp
  subst hf hi
  replace hp := hp rfl rfl
  obtain ⟨O, hq⟩ := E.ob R
  unfold crRow at O
  dsimp only at O
  obtain ⟨P', hP'⟩ : ∃ P', pop.go n 1 (r0 + n) xs = P' := ⟨_, rfl⟩
  have KG := E.pop.ok.go (hd := 1) (ln := r0 + n) (xs := xs) R.env.ok R.env.n0
  dsimp only at KG
  rw [hP'] at KG
  have HP := Lib.hid hp
  have HPE := Lib.hid hP'
  have HR := Lib.hid R
  have HE := Lib.hid E
  have HQ := Lib.hid hq
  have HK := Lib.hid KG
  have ex : Cr.xs r0 xs ⟨cls, 0, steps, point, slot, gen, pop, rt, code, false⟩ = pop.xs 1 xs := by unfold Cr.xs; dsimp only; rw [if_pos rfl]
  rw [ex]
  have b2 := O.hb.cell (i := 2) rfl
  have b3 := O.hb.cell (i := 3) rfl
  have b13 := O.hb.cell (i := 13) rfl
  have f3 := O.hb.frozen 3
  have s0 : (0 : Int) ≤ (steps : Int) := Int.natCast_nonneg _
  have s1 : (steps : Int) ≤ 1000000 := by omega
  have HO := Lib.hid O
  clear R E O hq ex hp hP' KG
  go_enter Tryz.func37, Tryz.ntmps37
  go_upto_region 4 with fail
  have O1 := HO.out.put 3 (.int .i64 ((steps : Int) + 1))
  have HO1 := Lib.hid O1
  have HU1 := Lib.hid (show Else [b] w (w.setCell ⟨b, 3, none⟩ (.int .i64 ((steps : Int) + 1))) from (Else.refl [b] w).set (.inl (by simp)) _)
  have HR1 := Lib.hid (show RW (w.setCell ⟨b, 3, none⟩ (.int .i64 ((steps : Int) + 1))) k p g qp qs qe c r0 n xs cnt from HR.out.turn O1.hm O1.he (by simp [O1.n1.symm, O1.n4, O1.n5]) (by simp [HQ.out.symm, HR.out.env.np, HR.out.env.ng]) HR.out.env.ok rfl)
  have HM1 := Lib.hid (show RPoM (w.setCell ⟨b, 3, none⟩ (.int .i64 ((steps : Int) + 1))) rb qs n v pop from O1.pop HE.out.pop HR.out HE.out.row (by decide) (by decide))
  generalize w.setCell ⟨b, 3, none⟩ (.int .i64 ((steps : Int) + 1)) = w1 at *
  clear b2 b3 b13 f3
  have c0 := O1.hb.cell (i := 0) rfl
  have c2 := O1.hb.cell (i := 2) rfl
  have c7 := O1.hb.cell (i := 7) rfl
  have k6 := HO1.out.hk.cell (i := 6) (v := .pointer (some ⟨p, 0, none⟩)) rfl
  clear O1
  go_upto_region 12 with (first
    | (go_at_call 77; refine (rpoStep HR1.out.env (HM1.out.apart HR1.out) HM1.out HP.out).mono ?_; rintro e w2 ⟨rfl, v2, NR, A2⟩; have HNR := Lib.hid (rnear_le NR HU1.out.size); clear NR; rw [HPE.out] at A2; have Q2 := popped HR1.out HO1.out.hb HM1.out A2; have HQ2 := Lib.hid Q2; clear A2 Q2))
  clear c0 c2 c7 k6
  have O2 := HQ2.out.ob.1
  have HO2 := Lib.hid O2
  have c7 := O2.hb.cell (i := 7) rfl
  have r6 := HQ2.out.pop.at_.cells.2.2.2.2.2.2
  cases hfin : P'.fin
  · rw [hfin] at r6
    have eg : Cr.go n r0 xs ⟨cls, 0, steps, point, slot, gen, pop, rt, code, false⟩ = ⟨cls, 0, steps + 1, point, slot, gen, P', rt, code, false⟩ := by
      unfold Cr.go; dsimp only; rw [if_pos rfl, HPE.out, if_pos hfin]
    have HG := Lib.hid eg
    have HF := Lib.hid hfin
    clear O2 eg hfin
    go_wp2_with fail
    go_ret
    rw [HG.out]
    exact ⟨rfl, v2, HNR.out, HQ2.out.out HU1.out HO2.out rfl rfl ⟨HOK.out.c0, HOK.out.c1, by simp, by simp, HOK.out.g0, HOK.out.g1, fun _ _ => HF.out⟩⟩
  · rw [hfin] at r6
    have c3 := O2.hb.cell (i := 3) rfl
    have c4 := O2.hb.cell (i := 4) rfl
    have f4 := O2.hb.frozen 4
    have HF := Lib.hid hfin
    obtain ⟨N, hN⟩ : ∃ N, P'.l.length = N := ⟨_, rfl⟩
    have HN := Lib.hid hN
    clear O2 hfin hN
    go_upto_region 15 with fail
    have O3 := HO2.out.put 4 (.int .i64 ((steps : Int) + 1))
    have HO3 := Lib.hid O3
    have HM3 := Lib.hid (show RPoM (w2.setCell ⟨b, 4, none⟩ (.int .i64 ((steps : Int) + 1))) rb qs n v2 P' from O3.pop HQ2.out.pop HQ2.out.rw_ HQ2.out.row (by decide) (by decide))
    generalize w2.setCell ⟨b, 4, none⟩ (.int .i64 ((steps : Int) + 1)) = w3 at *
    clear c3 c4 f4 c7 r6
    have c7 := O3.hb.cell (i := 7) rfl
    clear O3
    by_cases hl : P'.l = []
    · have eg : Cr.go n r0 xs ⟨cls, 0, steps, point, slot, gen, pop, rt, code, false⟩ = ⟨cls, 0, steps + 1, steps + 1, slot, gen, P', rt, 7, true⟩ := by
        unfold Cr.go; dsimp only; rw [if_pos rfl, HPE.out, if_neg (by rw [HF.out]; decide), if_pos hl]
      have HG := Lib.hid eg
      have hN0 := HN.out
      rw [hl] at hN0
      obtain rfl : N = 0 := hN0.symm
      clear eg hl hN0
      go_wp2_with (first
        | (go_at_call 78; refine (rpopGot HM3.out).mono ?_; rintro e w4 ⟨o, rfl, J4, _, U4⟩; rw [HF.out, if_pos rfl] at J4; obtain ⟨A4, c4, rfl⟩ : ∃ A c, o = .slice A 0 c := (by obtain ⟨A, c, e⟩ := J4.slice; exact ⟨A, c, by rw [e, I_len, HN.out]⟩); have HO4 := Lib.hid (HO3.out.up U4); have q12 := HO4.out.hb.cell (i := 12) rfl; have q13 := HO4.out.hb.cell (i := 13) rfl; have h12 := HO4.out.hb.frozen 12; have h13 := HO4.out.hb.frozen 13; clear J4 U4))
      go_ret
      rw [HG.out]
      exact ⟨rfl, v2, HNR.out, HQ2.out.out HU1.out ((HO4.out.put 12 (.int .i64 7)).put 13 (.bool true)) rfl rfl ⟨HOK.out.c0, HOK.out.c1, by simp, by simp, HOK.out.g0, HOK.out.g1, by simp⟩⟩
    · obtain ⟨l0, hl0⟩ : ∃ l0, P'.l.getD 0 0 = l0 := ⟨_, rfl⟩
      have hlt : l0 < n := by
        have := List.length_pos_iff.2 hl
        rw [← hl0]; exact HK.out.lt _ (by simp [List.getD, this])
      have eg : Cr.go n r0 xs ⟨cls, 0, steps, point, slot, gen, pop, rt, code, false⟩ = ⟨cls, 1, steps + 1, steps + 1, l0, gen, P', rt, code, false⟩ := by
        unfold Cr.go; dsimp only; rw [if_pos rfl, HPE.out, if_neg (by rw [HF.out]; decide), if_neg hl, hl0]
      have HG := Lib.hid eg
      have HL := Lib.hid hl
      have HL0 := Lib.hid hl0
      have HLT := Lib.hid hlt
      have n0 : (0 : Int) < (N : Int) := by have := List.length_pos_iff.2 hl; have := HN.out; omega
      have n1 : ((N : Int) == 0) = false := by simp; omega
      clear eg hl hl0 hlt
      go_wp2_with (first
        | (go_at_call 78; refine (rpopGot HM3.out).mono ?_; rintro e w4 ⟨o, rfl, J4, _, U4⟩; rw [HF.out, if_pos rfl] at J4; obtain ⟨g4, c4, rfl, d4⟩ := J4.get HL.out; replace d4 := d4 0 (List.length_pos_iff.2 HL.out); rw [HL0.out] at d4; rw [HN.out]; have HO4 := Lib.hid (HO3.out.up U4); have q5 := HO4.out.hb.cell (i := 5) rfl; have q2 := HO4.out.hb.cell (i := 2) rfl; have h5 := HO4.out.hb.frozen 5; have h2 := HO4.out.hb.frozen 2; clear J4 U4))
      go_ret
      rw [HG.out]
      exact ⟨rfl, v2, HNR.out, HQ2.out.out HU1.out ((HO4.out.put 5 (.int .i64 (l0 : Int))).put 2 (.int .i64 1)) rfl rfl ⟨HOK.out.c0, HOK.out.c1, by simp, fun _ => HLT.out, HOK.out.g0, HOK.out.g1, by simp⟩⟩
theorem ROut.wide {own own' : List Nat} (H : ROut w k p g qp qs qe c r0 n xs cnt own M w') (h : ∀ j ∈ own, j ∈ own') : ROut w k p g qp qs qe c r0 n xs cnt own' M w' :=
  ⟨H.1, H.2.1, H.2.2.more (by intro j hj; simp at hj ⊢; rcases hj with h1 | h1 | h1 <;> first | exact .inl (h j h1) | simp [h1])⟩
theorem rcrStep (R : RW w k p g qp qs qe c r0 n xs cnt) (E : RCrM w b rb k qs n v K) (hf : K.fin = false) (hS : K.steps ≤ 1000000) :
    Calls Tryz.prog 37 #[.pointer (some ⟨b, 0, none⟩)] w fun e w' => e = .returned (.bool true) ∧ ∃ v', Near w v v' ∧ ROut w k p g qp qs qe c r0 n (K.xs r0 xs) cnt (b :: rb :: v.ownBlock.toList) (fun w' => RCrM w' b rb k qs n v' (K.go n r0 xs)) w' := by
  have h2 := E.ok.i2
  rcases (show K.i = 0 ∨ K.i = 1 ∨ K.i = 2 by omega) with h | h | h
  · exact rcrPop R E hf h hS
  · refine (rcrLoad R E hf h hS).mono ?_
    rintro e w' ⟨rfl, H⟩
    exact ⟨rfl, v, .inl rfl, H.wide (by simp)⟩
  · refine (rcrStore R E hf h hS).mono ?_
    rintro e w' ⟨rfl, H⟩
    exact ⟨rfl, v, .inl rfl, H.wide (by simp)⟩
end
end Go.Proofs.YtalglhgngedjoaaGreat

/-
  The reference's End: its Cas fails.
-/
namespace Go.Proofs.YtalglhgngedjoaaGreat
open Go.RowKit
open W64
set_option maxRecDepth 100000
section
variable {w0 w w' : World} {k p g qp qs qe r0 n b d : Nat} {c : Cf} {xs xs' : List Int} {cnt cnt' : Int} {K : Ed} {t : TypeId} {rb rk : Array Value} {M : World → Prop}
set_option maxHeartbeats 4000000 in
/-- The Cas, but it has been turned since. -/
theorem redCasNo (R : RW w k p g qp qs qe c r0 n xs cnt) (E : REdM w b k K) (hs : K.slot < n) (hf : K.fin = false) (hi : K.i = 1) (hS : K.steps ≤ 1000000) (hc : xs.getD (r0 + K.slot) 0 ≠ K.old) :
    Calls Tryz.prog 39 #[.pointer (some ⟨b, 0, none⟩)] w fun e w' => e = .returned (.bool true) ∧ ROut w k p g qp qs qe c r0 n (K.xs r0 xs) cnt [b] (fun w' => REdM w' b k (K.go r0 xs)) w' := by
  obtain ⟨slot, gen, i, steps, point, chunk, old, code, fin⟩ := K
  have o0 := E.o0
  have o1 := E.o1
  dsimp only at hf hs hi hS hc o0 o1
  subst hf hi
  obtain ⟨O, hq⟩ := E.ob R
  simp only [edRow, wRow] at O
  obtain ⟨rg, hrg⟩ : ∃ y, (rtOf old).g = y := ⟨_, rfl⟩
  obtain ⟨rm, hrm⟩ : ∃ y, (rtOf old).m = y := ⟨_, rfl⟩
  obtain ⟨rc, hrc⟩ : ∃ y, (rtOf old).c = y := ⟨_, rfl⟩
  obtain ⟨ro, hro⟩ : ∃ y, (rtOf old).o = y := ⟨_, rfl⟩
  have hrt := rt_in old o0 o1
  rw [hrg, hrm] at hrt
  obtain ⟨hra, hrl⟩ := R.at hs
  obtain ⟨v, hv⟩ : ∃ y, rootV rg 0 0 0 = y := ⟨_, rfl⟩
  obtain ⟨z, hz⟩ : ∃ y, rootB rg 0 0 0 = y := ⟨_, rfl⟩
  obtain ⟨ck, hck⟩ : ∃ y, chunkN rm = y := ⟨_, rfl⟩
  have hvi := rootV_in rg 0 0 0
  rw [hv] at hvi
  have H0 := Lib.hid hra
  have H1 := Lib.hid hrl
  have H2 := Lib.hid hc
  have H3 := Lib.hid (And.intro o0 o1)
  have H4 := Lib.hid (And.intro hrg (And.intro hrm (And.intro hrc hro)))
  have H5 := Lib.hid (And.intro hv hz)
  have H6 := Lib.hid (And.intro hck (show rm < 9223372036854775808 by omega))
  have H7 := Lib.hid hvi
  have HR := Lib.hid R
  have HQ := Lib.hid hq
  have eg : Ed.go r0 xs ⟨slot, gen, 1, steps, point, chunk, old, code, false⟩ = ⟨slot, gen, 0, steps + 1, point, chunk, old, code, false⟩ := by
    unfold Ed.go; dsimp only; rw [if_neg (by decide), if_neg hc]
  have ex : Ed.xs r0 xs ⟨slot, gen, 1, steps, point, chunk, old, code, false⟩ = xs := by unfold Ed.xs; rw [if_neg (fun h => hc h.2)]
  rw [ex]
  have HG := Lib.hid eg
  have b0 := O.hb.cell (i := 9) rfl
  have b4 := O.hb.cell (i := 4) rfl
  have f4 := O.hb.frozen 4
  have s0 : (0 : Int) ≤ (steps : Int) := Int.natCast_nonneg _
  have s1 : (steps : Int) ≤ 1000000 := by omega
  have HO := Lib.hid O
  clear hra hrl hrg hrm hrc hro hrt hv hz hck hvi R E O hq eg ex hc o0 o1
  go_enter Tryz.func39, Tryz.ntmps39
  go_upto_region 4 with fail
  have O1 := HO.out.put 4 (.int .i64 ((steps : Int) + 1))
  have HO1 := Lib.hid O1
  generalize w.setCell ⟨b, 4, none⟩ (.int .i64 ((steps : Int) + 1)) = w1 at *
  clear b0 b4 f4
  have c0 := cell_class (O1.hb.cell (i := 0) rfl)
  have c1 := cell_class (O1.hb.cell (i := 1) rfl)
  have k0 := cell_class (O1.hk.cell (i := 0) rfl)
  have k1 := cell_class (O1.hk.cell (i := 1) rfl)
  have k2 := cell_class (O1.hk.cell (i := 2) rfl)
  have k3 := cell_class (O1.hk.cell (i := 3) rfl)
  have k4 := cell_class (O1.hk.cell (i := 4) rfl)
  have k5 := cell_class (O1.hk.cell (i := 5) rfl)
  clear O1
  refine wp_region_up (Up.refl w1) (by kernel_rfl) (by kernel_rfl) ?_
  repeat (go_big_quiet_step (first
    | (go_at_call 81; (exact up_class (rrootat_to c H0.out _)))))
  refine wpQuiet_nil ?_
  rintro _ ⟨y, rfl⟩
  have O2 := HO1.out.up y.up
  have HO2 := Lib.hid O2
  clear c0 c1 k0 k1 k2 k3 k4 k5
  generalize y.w = w2 at *
  have c3 := O2.hb.cell (i := 3) rfl
  have c7 := O2.hb.cell (i := 7) rfl
  clear O2
  go_upto_region 12 with (first
    | (go_at_call 79; refine (rgetRoot_to H3.out.1 H3.out.2 H4.out.1 H4.out.2.1 H4.out.2.2.1 H4.out.2.2.2 _).mono ?_; rintro e w3 ⟨rfl, U3⟩; have HO3 := Lib.hid (HO2.out.up U3); clear U3))
  clear c3 c7
  have HO4 := Lib.hid (HO3.out.up (Up.alloc w3 (.cells #[.int .i64 rg, .int .i64 rm, .int .i64 rc, .int .i64 ro] 96)))
  have HV4 := Lib.hid (Whole.new w3 96 #[.int .i64 rg, .int .i64 rm, .int .i64 rc, .int .i64 ro])
  obtain ⟨d, hd⟩ : ∃ d, w3.heap.size = d := ⟨_, rfl⟩
  rw [hd] at HV4 ⊢
  clear hd
  generalize w3.alloc (.cells #[.int .i64 rg, .int .i64 rm, .int .i64 rc, .int .i64 ro] 96) = w4 at *
  have v0 := HV4.out.cell (i := 0) rfl
  go_upto_region 13 with (first
    | (go_at_call 83; refine (rputRoot_to H5.out.1 H5.out.2 _).mono ?_; rintro e w5 ⟨rfl, U5⟩; have HO5 := Lib.hid (HO4.out.up U5); have HV5 := Lib.hid (HV4.out.up U5); clear U5))
  clear v0
  have c0 := HO5.out.hb.cell (i := 0) rfl
  have c7 := HO5.out.hb.cell (i := 7) rfl
  have k6 := HO5.out.hk.cell (i := 6) rfl
  go_region_held3 (fun w' => w'.cell? ⟨b, 0, none⟩ = some (.pointer (some ⟨k, 0, none⟩)) ∧ w'.cell? ⟨b, 7, none⟩ = some (.int .u64 old) ∧ w'.cell? ⟨k, 6, none⟩ = some (.pointer (some ⟨p, 0, none⟩)))
    ((first | exact ⟨HO6.out.hb.cell rfl, HO6.out.hb.cell rfl, HO6.out.hk.cell rfl⟩ | exact ⟨c0, c7, k6⟩))
    (first
      | (go_at_call 86; refine (rcasc_no (a := (r0 : Int) + (slot : Int)) (j := r0 + slot) v (by omega) (HO5.out.up (up_drew w5)).hm H1.out H2.out).mono ?_; rintro e w6 ⟨rfl, M6, E6⟩; have HO6 := Lib.hid ((HO5.out.up (up_drew w5)).turn M6 E6); have HV6 := Lib.hid (E6.whole (HV5.out.up (up_drew w5)) (by have h1 := HV5.out.ne_type HO5.out.hm.top (by decide); have h2 := HV5.out.ne_type HO5.out.hm.row (by decide); simp [h1, h2])); clear M6 E6))
  clear c0 c7 k6
  have q3 := HO6.out.hb.cell (i := 3) rfl
  have h3 := HO6.out.hb.frozen 3
  go_wp2_with fail
  go_ret
  rw [HG.out]
  exact ⟨rfl, (HO6.out.put 3 (.int .i64 0)).out HR.out HQ.out HR.out.env.ok rfl ⟨(HO6.out.put 3 (.int .i64 0)).hb, H3.out.1, H3.out.2⟩⟩
end
end Go.Proofs.YtalglhgngedjoaaGreat

/-
  The reference's End: its Cas goes through; Step in one contract.
-/
namespace Go.Proofs.YtalglhgngedjoaaGreat
open Go.RowKit
open W64
set_option maxRecDepth 100000
section
variable {w0 w w' : World} {k p g qp qs qe r0 n b d : Nat} {c : Cf} {xs xs' : List Int} {cnt cnt' : Int} {K : Ed} {t : TypeId} {rb rk : Array Value} {M : World → Prop}
set_option maxHeartbeats 4000000 in
/-- The Cas, and nobody has turned it since. -/
theorem redCasYes (R : RW w k p g qp qs qe c r0 n xs cnt) (E : REdM w b k K) (hs : K.slot < n) (hf : K.fin = false) (hi : K.i = 1) (hS : K.steps ≤ 1000000) (hc : xs.getD (r0 + K.slot) 0 = K.old) :
    Calls Tryz.prog 39 #[.pointer (some ⟨b, 0, none⟩)] w fun e w' => e = .returned (.bool true) ∧ ROut w k p g qp qs qe c r0 n (K.xs r0 xs) cnt [b] (fun w' => REdM w' b k (K.go r0 xs)) w' := by
  obtain ⟨slot, gen, i, steps, point, chunk, old, code, fin⟩ := K
  have o0 := E.o0
  have o1 := E.o1
  dsimp only at hf hs hi hS hc o0 o1
  subst hf hi
  obtain ⟨O, hq⟩ := E.ob R
  simp only [edRow, wRow] at O
  obtain ⟨rg, hrg⟩ : ∃ y, (rtOf old).g = y := ⟨_, rfl⟩
  obtain ⟨rm, hrm⟩ : ∃ y, (rtOf old).m = y := ⟨_, rfl⟩
  obtain ⟨rc, hrc⟩ : ∃ y, (rtOf old).c = y := ⟨_, rfl⟩
  obtain ⟨ro, hro⟩ : ∃ y, (rtOf old).o = y := ⟨_, rfl⟩
  have hrt := rt_in old o0 o1
  rw [hrg, hrm] at hrt
  obtain ⟨hra, hrl⟩ := R.at hs
  obtain ⟨v, hv⟩ : ∃ y, rootV rg 0 0 0 = y := ⟨_, rfl⟩
  obtain ⟨z, hz⟩ : ∃ y, rootB rg 0 0 0 = y := ⟨_, rfl⟩
  obtain ⟨ck, hck⟩ : ∃ y, chunkN rm = y := ⟨_, rfl⟩
  have hvi := rootV_in rg 0 0 0
  rw [hv] at hvi
  have H0 := Lib.hid hra
  have H1 := Lib.hid hrl
  have H2 := Lib.hid hc
  have H3 := Lib.hid (And.intro o0 o1)
  have H4 := Lib.hid (And.intro hrg (And.intro hrm (And.intro hrc hro)))
  have H5 := Lib.hid (And.intro hv hz)
  have H6 := Lib.hid (And.intro hck (show rm < 9223372036854775808 by omega))
  have H7 := Lib.hid hvi
  have HR := Lib.hid R
  have HQ := Lib.hid hq
  have eg : Ed.go r0 xs ⟨slot, gen, 1, steps, point, chunk, old, code, false⟩ = ⟨slot, gen, 0, steps + 1, steps + 1, ck, old, code, true⟩ := by
    unfold Ed.go; dsimp only; rw [if_neg (by decide), if_pos hc, hrm, hck]
  have ex : Ed.xs r0 xs ⟨slot, gen, 1, steps, point, chunk, old, code, false⟩ = xs.set (r0 + slot) v := by unfold Ed.xs; rw [if_pos ⟨by simp, hc⟩, hrg, hv]
  rw [ex]
  have HG := Lib.hid eg
  have b0 := O.hb.cell (i := 9) rfl
  have b4 := O.hb.cell (i := 4) rfl
  have f4 := O.hb.frozen 4
  have s0 : (0 : Int) ≤ (steps : Int) := Int.natCast_nonneg _
  have s1 : (steps : Int) ≤ 1000000 := by omega
  have HO := Lib.hid O
  clear hra hrl hrg hrm hrc hro hrt hv hz hck hvi R E O hq eg ex hc o0 o1
  go_enter Tryz.func39, Tryz.ntmps39
  go_upto_region 4 with fail
  have O1 := HO.out.put 4 (.int .i64 ((steps : Int) + 1))
  have HO1 := Lib.hid O1
  generalize w.setCell ⟨b, 4, none⟩ (.int .i64 ((steps : Int) + 1)) = w1 at *
  clear b0 b4 f4
  have c0 := cell_class (O1.hb.cell (i := 0) rfl)
  have c1 := cell_class (O1.hb.cell (i := 1) rfl)
  have k0 := cell_class (O1.hk.cell (i := 0) rfl)
  have k1 := cell_class (O1.hk.cell (i := 1) rfl)
  have k2 := cell_class (O1.hk.cell (i := 2) rfl)
  have k3 := cell_class (O1.hk.cell (i := 3) rfl)
  have k4 := cell_class (O1.hk.cell (i := 4) rfl)
  have k5 := cell_class (O1.hk.cell (i := 5) rfl)
  clear O1
  refine wp_region_up (Up.refl w1) (by kernel_rfl) (by kernel_rfl) ?_
  repeat (go_big_quiet_step (first
    | (go_at_call 81; (exact up_class (rrootat_to c H0.out _)))))
  refine wpQuiet_nil ?_
  rintro _ ⟨y, rfl⟩
  have O2 := HO1.out.up y.up
  have HO2 := Lib.hid O2
  clear c0 c1 k0 k1 k2 k3 k4 k5
  generalize y.w = w2 at *
  have c3 := O2.hb.cell (i := 3) rfl
  have c7 := O2.hb.cell (i := 7) rfl
  clear O2
  go_upto_region 12 with (first
    | (go_at_call 79; refine (rgetRoot_to H3.out.1 H3.out.2 H4.out.1 H4.out.2.1 H4.out.2.2.1 H4.out.2.2.2 _).mono ?_; rintro e w3 ⟨rfl, U3⟩; have HO3 := Lib.hid (HO2.out.up U3); clear U3))
  clear c3 c7
  have HO4 := Lib.hid (HO3.out.up (Up.alloc w3 (.cells #[.int .i64 rg, .int .i64 rm, .int .i64 rc, .int .i64 ro] 96)))
  have HV4 := Lib.hid (Whole.new w3 96 #[.int .i64 rg, .int .i64 rm, .int .i64 rc, .int .i64 ro])
  obtain ⟨d, hd⟩ : ∃ d, w3.heap.size = d := ⟨_, rfl⟩
  rw [hd] at HV4 ⊢
  clear hd
  generalize w3.alloc (.cells #[.int .i64 rg, .int .i64 rm, .int .i64 rc, .int .i64 ro] 96) = w4 at *
  have v0 := HV4.out.cell (i := 0) rfl
  go_upto_region 13 with (first
    | (go_at_call 83; refine (rputRoot_to H5.out.1 H5.out.2 _).mono ?_; rintro e w5 ⟨rfl, U5⟩; have HO5 := Lib.hid (HO4.out.up U5); have HV5 := Lib.hid (HV4.out.up U5); clear U5))
  clear v0
  have c0 := HO5.out.hb.cell (i := 0) rfl
  have c7 := HO5.out.hb.cell (i := 7) rfl
  have k6 := HO5.out.hk.cell (i := 6) rfl
  go_region_held3 (fun w' => w'.cell? ⟨b, 0, none⟩ = some (.pointer (some ⟨k, 0, none⟩)) ∧ w'.cell? ⟨b, 7, none⟩ = some (.int .u64 old) ∧ w'.cell? ⟨k, 6, none⟩ = some (.pointer (some ⟨p, 0, none⟩)))
    ((first | exact ⟨HO6.out.hb.cell rfl, HO6.out.hb.cell rfl, HO6.out.hk.cell rfl⟩ | exact ⟨c0, c7, k6⟩))
    (first
      | (go_at_call 86; refine (rcasc_yes (a := (r0 : Int) + (slot : Int)) (j := r0 + slot) v (by omega) (HO5.out.up (up_drew w5)).hm H1.out H2.out).mono ?_; rintro e w6 ⟨rfl, M6, E6⟩; have HO6 := Lib.hid ((HO5.out.up (up_drew w5)).turn M6 E6); have HV6 := Lib.hid (E6.whole (HV5.out.up (up_drew w5)) (by have h1 := HV5.out.ne_type HO5.out.hm.top (by decide); have h2 := HV5.out.ne_type HO5.out.hm.row (by decide); simp [h1, h2])); clear M6 E6))
  clear c0 c7 k6
  have v0 := HV6.out.cell (i := 0) rfl
  have v1 := HV6.out.cell (i := 1) rfl
  have v2 := HV6.out.cell (i := 2) rfl
  have v3 := HV6.out.cell (i := 3) rfl
  have q3 := HO6.out.hb.cell (i := 3) rfl
  have q4 := HO6.out.hb.cell (i := 4) rfl
  have q5 := HO6.out.hb.cell (i := 5) rfl
  have q6 := HO6.out.hb.cell (i := 6) rfl
  have q9 := HO6.out.hb.cell (i := 9) rfl
  go_upto_region 14 with fail
  clear q3 q4 q5 q6 q9 v0 v1 v2 v3
  have NE := Lib.hid (show d ≠ b from HV6.out.ne_type HO6.out.hb (by decide))
  have c5 := HO6.out.hb.cell (i := 5) rfl
  have HC6 := Lib.hid (show w6.drew.cell? ⟨b, 4, none⟩ = some (.int .i64 ((steps : Int) + 1)) ∧ w6.drew.cell? ⟨d, 0, none⟩ = some (.int .i64 rg) ∧ w6.drew.cell? ⟨d, 1, none⟩ = some (.int .i64 rm) ∧ w6.drew.cell? ⟨d, 2, none⟩ = some (.int .i64 rc) ∧ w6.drew.cell? ⟨d, 3, none⟩ = some (.int .i64 ro) from ed14 (HO6.out.up (up_drew w6)) rfl HV6.out)
  clear c5
  go_region_held3 (fun w' => w'.cell? ⟨b, 4, none⟩ = some (.int .i64 ((steps : Int) + 1)) ∧ w'.cell? ⟨d, 0, none⟩ = some (.int .i64 rg) ∧ w'.cell? ⟨d, 1, none⟩ = some (.int .i64 rm) ∧ w'.cell? ⟨d, 2, none⟩ = some (.int .i64 rc) ∧ w'.cell? ⟨d, 3, none⟩ = some (.int .i64 ro))
    ((first
      | with_reducible exact HCA.out
      | with_reducible exact HC9.out
      | with_reducible exact HC8.out
      | with_reducible exact HC7.out
      | with_reducible exact HC6.out))
    (first
      | (go_at_call 87; refine (rchunk_to H6.out.1 H6.out.2 _).mono ?_; rintro e w7 ⟨rfl, U7⟩; have HO7 := Lib.hid ((HO6.out.up (up_drew w6)).up U7); have HV7 := Lib.hid (show Whole w7 d _ _ from Whole.up (w := w6.drew) HV6.out U7); have q5 := HO7.out.hb.cell (i := 5) rfl; have q6 := HO7.out.hb.cell (i := 6) rfl; have q9 := HO7.out.hb.cell (i := 9) rfl; have h5 := HO7.out.hb.frozen 5; have h6 := HO7.out.hb.frozen 6; have h9 := HO7.out.hb.frozen 9; have HC7 := Lib.hid (show w7.cell? ⟨b, 4, none⟩ = some (.int .i64 ((steps : Int) + 1)) ∧ w7.cell? ⟨d, 0, none⟩ = some (.int .i64 rg) ∧ w7.cell? ⟨d, 1, none⟩ = some (.int .i64 rm) ∧ w7.cell? ⟨d, 2, none⟩ = some (.int .i64 rc) ∧ w7.cell? ⟨d, 3, none⟩ = some (.int .i64 ro) from ed14 HO7.out rfl HV7.out); have HC8 := Lib.hid (show (w7.setCell ⟨b, 6, none⟩ (.int .i64 ck)).cell? ⟨b, 4, none⟩ = some (.int .i64 ((steps : Int) + 1)) ∧ (w7.setCell ⟨b, 6, none⟩ (.int .i64 ck)).cell? ⟨d, 0, none⟩ = some (.int .i64 rg) ∧ (w7.setCell ⟨b, 6, none⟩ (.int .i64 ck)).cell? ⟨d, 1, none⟩ = some (.int .i64 rm) ∧ (w7.setCell ⟨b, 6, none⟩ (.int .i64 ck)).cell? ⟨d, 2, none⟩ = some (.int .i64 rc) ∧ (w7.setCell ⟨b, 6, none⟩ (.int .i64 ck)).cell? ⟨d, 3, none⟩ = some (.int .i64 ro) from ed14 (HO7.out.put 6 (.int .i64 ck)) rfl (HV7.out.far NE.out _)); have HC9 := Lib.hid (show ((w7.setCell ⟨b, 6, none⟩ (.int .i64 ck)).setCell ⟨b, 5, none⟩ (.int .i64 ((steps : Int) + 1))).cell? ⟨b, 4, none⟩ = some (.int .i64 ((steps : Int) + 1)) ∧ ((w7.setCell ⟨b, 6, none⟩ (.int .i64 ck)).setCell ⟨b, 5, none⟩ (.int .i64 ((steps : Int) + 1))).cell? ⟨d, 0, none⟩ = some (.int .i64 rg) ∧ ((w7.setCell ⟨b, 6, none⟩ (.int .i64 ck)).setCell ⟨b, 5, none⟩ (.int .i64 ((steps : Int) + 1))).cell? ⟨d, 1, none⟩ = some (.int .i64 rm) ∧ ((w7.setCell ⟨b, 6, none⟩ (.int .i64 ck)).setCell ⟨b, 5, none⟩ (.int .i64 ((steps : Int) + 1))).cell? ⟨d, 2, none⟩ = some (.int .i64 rc) ∧ ((w7.setCell ⟨b, 6, none⟩ (.int .i64 ck)).setCell ⟨b, 5, none⟩ (.int .i64 ((steps : Int) + 1))).cell? ⟨d, 3, none⟩ = some (.int .i64 ro) from ed14 ((HO7.out.put 6 (.int .i64 ck)).put 5 (.int .i64 ((steps : Int) + 1))) rfl ((HV7.out.far NE.out _).far NE.out _)); have HCA := Lib.hid (show (((w7.setCell ⟨b, 6, none⟩ (.int .i64 ck)).setCell ⟨b, 5, none⟩ (.int .i64 ((steps : Int) + 1))).setCell ⟨b, 9, none⟩ (.bool true)).cell? ⟨b, 4, none⟩ = some (.int .i64 ((steps : Int) + 1)) ∧ (((w7.setCell ⟨b, 6, none⟩ (.int .i64 ck)).setCell ⟨b, 5, none⟩ (.int .i64 ((steps : Int) + 1))).setCell ⟨b, 9, none⟩ (.bool true)).cell? ⟨d, 0, none⟩ = some (.int .i64 rg) ∧ (((w7.setCell ⟨b, 6, none⟩ (.int .i64 ck)).setCell ⟨b, 5, none⟩ (.int .i64 ((steps : Int) + 1))).setCell ⟨b, 9, none⟩ (.bool true)).cell? ⟨d, 1, none⟩ = some (.int .i64 rm) ∧ (((w7.setCell ⟨b, 6, none⟩ (.int .i64 ck)).setCell ⟨b, 5, none⟩ (.int .i64 ((steps : Int) + 1))).setCell ⟨b, 9, none⟩ (.bool true)).cell? ⟨d, 2, none⟩ = some (.int .i64 rc) ∧ (((w7.setCell ⟨b, 6, none⟩ (.int .i64 ck)).setCell ⟨b, 5, none⟩ (.int .i64 ((steps : Int) + 1))).setCell ⟨b, 9, none⟩ (.bool true)).cell? ⟨d, 3, none⟩ = some (.int .i64 ro) from ed14 (((HO7.out.put 6 (.int .i64 ck)).put 5 (.int .i64 ((steps : Int) + 1))).put 9 (.bool true)) rfl (((HV7.out.far NE.out _).far NE.out _).far NE.out _)); clear U7))
  have O8 := (((HO7.out.put 6 (.int .i64 ck)).put 5 (.int .i64 ((steps : Int) + 1))).put 9 (.bool true))
  have HO8 := Lib.hid O8
  generalize (((w7.setCell ⟨b, 6, none⟩ (.int .i64 ck)).setCell ⟨b, 5, none⟩ (.int .i64 ((steps : Int) + 1))).setCell ⟨b, 9, none⟩ (.bool true)) = w8 at *
  clear q5 q6 q9 h5 h6 h9
  have q3 := O8.hb.cell (i := 3) rfl
  have h3 := O8.hb.frozen 3
  clear O8
  go_wp2_with fail
  go_ret
  rw [HG.out]
  exact ⟨rfl, (HO8.out.put 3 (.int .i64 0)).out HR.out HQ.out (ok_set HR.out.env.ok H7.out.1 H7.out.2) List.length_set ⟨(HO8.out.put 3 (.int .i64 0)).hb, H3.out.1, H3.out.2⟩⟩
theorem redStep (R : RW w k p g qp qs qe c r0 n xs cnt) (E : REdM w b k K) (hs : K.slot < n) (hf : K.fin = false) (hi : K.i ≤ 1) (hS : K.steps ≤ 1000000) :
    Calls Tryz.prog 39 #[.pointer (some ⟨b, 0, none⟩)] w fun e w' => e = .returned (.bool true) ∧ ROut w k p g qp qs qe c r0 n (K.xs r0 xs) cnt [b] (fun w' => REdM w' b k (K.go r0 xs)) w' := by
  by_cases h0 : K.i = 0
  · exact redStep0 R E hs hf h0 hS
  · by_cases hc : xs.getD (r0 + K.slot) 0 = K.old
    · exact redCasYes R E hs hf (by omega) hS hc
    · exact redCasNo R E hs hf (by omega) hS hc
end
end Go.Proofs.YtalglhgngedjoaaGreat
