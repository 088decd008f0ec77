/-
  Texts beneath RootsPlay, part 24: RtEnd, Config.
-/
import Derived.Test.YtalglhgngedjoaaGreatPart23
import Derived.OwnWalk
/-
  Package roots: an End, told by plain data (Ed): Step, Done, Code, Chunk, Point; it begins.
-/
namespace Go.Proofs.YtalglhgngedjoaaGreat
open Go.RowKit
open W64
set_option maxRecDepth 100000
def pedNx (b : Nat) (K : Ed) : Value := if K.fin = true then .nilFunc else if K.i = 0 then meth 65 b else meth 106 b
def pedRow (b q r0 : Nat) (K : Ed) : Array Value := #[pedNx b K, .int .i64 (K.steps : Int), .pointer (some ⟨q, 0, none⟩), .int .i64 ((r0 + K.slot : Nat) : Int), .int .i64 K.gen, .int .i64 K.chunk, .int .u64 K.old, .int .i64 K.code, .int .i64 (K.point : Int)]
structure EdM (w : World) (b q r0 : Nat) (K : Ed) : Prop where
  row : Whole w b 130 (pedRow b q r0 K)
  o0 : 0 ≤ K.old
  o1 : K.old < 18446744073709551616
  i1 : K.i ≤ 1
  lv : K.fin = false → K.i = 1 → liveB (rtOf K.old).g (rtOf K.old).m K.gen = true
section
variable {w0 w w' : World} {q p g qs r0 n b : Nat} {c : Cf} {s : St} {K : Ed}
theorem EdM.else (L : EdM w b q r0 K) {x : List Nat} (u : Else x w w') (h : b ∉ x) : EdM w' b q r0 K := ⟨u.whole L.row h, L.o0, L.o1, L.i1, L.lv⟩
theorem EdM.up (L : EdM w b q r0 K) (u : Up w w') : EdM w' b q r0 K := ⟨L.row.up u, L.o0, L.o1, L.i1, L.lv⟩
theorem EdM.next (L : EdM w b q r0 K) : w.cell? ⟨b, 0, none⟩ = some (pedNx b K) := L.row.cell rfl
set_option maxHeartbeats 2000000 in
theorem end_load {nx : Value} {st a gen ck old code pt x : Int} {lv : Bool} {j : Nat} (O : Ox w0 b q p g 130 #[nx, .int .i64 st, .pointer (some ⟨q, 0, none⟩), .int .i64 a, .int .i64 gen, .int .i64 ck, .int .u64 old, .int .i64 code, .int .i64 pt] (rooRow c p qs) s w) (ha : a = (j : Int)) (hj : j < s.xs.length) (ok : s.Ok)
    (hx : s.xs.getD j 0 = x) (hlv : liveB (rtOf x).g (rtOf x).m gen = lv) :
    Calls Tryz.prog 65 #[.pointer (some ⟨b, 0, none⟩)] w fun e w' => e = .returned (.tuple #[]) ∧ Ox w0 b q p g 130 #[if lv = true then meth 106 b else .nilFunc, .int .i64 st, .pointer (some ⟨q, 0, none⟩), .int .i64 a, .int .i64 gen, .int .i64 ck, .int .u64 x, .int .i64 (if lv = true then code else 3), .int .i64 (if lv = true then pt else st)] (rooRow c p qs) (s.hit 1 (j : Int) (s.get (j : Int)) true) w' := by
  have hw := ok.words j
  rw [hx] at hw
  obtain ⟨rg, hrg⟩ : ∃ y, (rtOf x).g = y := ⟨_, rfl⟩
  obtain ⟨rm, hrm⟩ : ∃ y, (rtOf x).m = y := ⟨_, rfl⟩
  obtain ⟨rc, hrc⟩ : ∃ y, (rtOf x).c = y := ⟨_, rfl⟩
  obtain ⟨ro, hro⟩ : ∃ y, (rtOf x).o = y := ⟨_, rfl⟩
  rw [hrg, hrm] at hlv
  have HA := Lib.hid ha
  have HJ := Lib.hid hj
  have HX := Lib.hid hx
  have HW := Lib.hid hw
  have H4 := Lib.hid (And.intro hrg (And.intro hrm (And.intro hrc hro)))
  have H5 := Lib.hid hlv
  have c2 := O.hb.cell (i := 2) rfl
  have c3 := O.hb.cell (i := 3) rfl
  have k0 := O.hq.cell (i := 0) (v := .pointer (some ⟨p, 0, none⟩)) rfl
  have hf := run_func
  have HO := Lib.hid O
  clear O ha hj hx hw hrg hrm hrc hro hlv ok
  go_enter Tryz.func65, Tryz.ntmps65
  go_upto_region 0 with fail
  go_region_held3 (fun w' => w'.cell? ⟨b, 2, none⟩ = some (.pointer (some ⟨q, 0, none⟩)) ∧ w'.cell? ⟨b, 3, none⟩ = some (.int .i64 a) ∧ w'.cell? ⟨q, 0, none⟩ = some (.pointer (some ⟨p, 0, none⟩)))
    ((first | exact ⟨HO3.out.hb.cell rfl, HO3.out.hb.cell rfl, HO3.out.hq.cell rfl⟩ | exact ⟨HO2.out.hb.cell rfl, HO2.out.hb.cell rfl, HO2.out.hq.cell rfl⟩ | exact ⟨c2, c3, k0⟩))
    (first
      | (go_at_call 100; refine (loadj_to HA.out (HO.out.up (up_drew w)).hm HJ.out HX.out).mono ?_; rintro e w2 ⟨rfl, M2, E2⟩; have HO2 := Lib.hid ((HO.out.up (up_drew w)).turn M2 E2); have HO3 := Lib.hid (HO2.out.put 6 (.int .u64 x)); have q6 := HO2.out.hb.cell (i := 6) rfl; have h6 := HO2.out.hb.frozen 6; clear M2 E2))
  clear c2 c3 k0 q6 h6
  generalize w2.setCell ⟨b, 6, none⟩ (.int .u64 x) = w3 at *
  have c6 := cell_class (HO3.out.hb.cell (i := 6) rfl)
  have c4 := cell_class (HO3.out.hb.cell (i := 4) rfl)
  go_upto_region 1 with fail
  refine wp_region_up (Up.refl w3) (by kernel_rfl) (by kernel_rfl) ?_
  repeat (go_big_quiet_step (first
    | (go_at_call 55; (with_reducible exact up_class (getRoot_to HW.out.1 HW.out.2 H4.out.1 H4.out.2.1 H4.out.2.2.1 H4.out.2.2.2 _)))
    | (go_at_call 101; (with_reducible exact up_class (live_to H5.out _)))))
  refine wpQuiet_nil ?_
  rintro _ ⟨y5, rfl⟩
  have HO5 := Lib.hid (HO3.out.up y5.up)
  clear c6 c4
  generalize y5.w = w5 at *
  have q0 := HO5.out.hb.cell (i := 0) rfl
  have q1 := HO5.out.hb.cell (i := 1) rfl
  have q7 := HO5.out.hb.cell (i := 7) rfl
  have q8 := HO5.out.hb.cell (i := 8) rfl
  have h0 := HO5.out.hb.frozen 0
  have h7 := HO5.out.hb.frozen 7
  have h8 := HO5.out.hb.frozen 8
  cases lv
  · go_wp2_with fail
    go_end0
    exact ⟨rfl, ((HO5.out.put 7 (.int .i64 3)).put 8 (.int .i64 st)).put 0 .nilFunc⟩
  · go_wp2_with fail
    refine bodyPost_ret (v := .tuple #[]) (by simp [results, Tryz.results65, go_sem]) rfl ?_
    exact ⟨rfl, HO5.out.put 0 (meth 106 b)⟩
set_option maxHeartbeats 2000000 in
theorem end_turn_no {nx : Value} {st a gen ck old code pt : Int} {j : Nat} (O : Ox w0 b q p g 130 #[nx, .int .i64 st, .pointer (some ⟨q, 0, none⟩), .int .i64 a, .int .i64 gen, .int .i64 ck, .int .u64 old, .int .i64 code, .int .i64 pt] (rooRow c p qs) s w) (ha : a = (j : Int)) (hj : j < s.xs.length)
    (hx : s.xs.getD j 0 ≠ old) :
    Calls Tryz.prog 106 #[.pointer (some ⟨b, 0, none⟩)] w fun e w' => e = .returned (.tuple #[]) ∧ Ox w0 b q p g 130 #[meth 65 b, .int .i64 st, .pointer (some ⟨q, 0, none⟩), .int .i64 a, .int .i64 gen, .int .i64 ck, .int .u64 old, .int .i64 code, .int .i64 pt] (rooRow c p qs) (s.hit 3 (j : Int) (s.get (j : Int)) false) w' := by
  obtain ⟨v, hv⟩ : ∃ y, rootV gen 0 0 0 = y := ⟨_, rfl⟩
  obtain ⟨z, hz⟩ : ∃ y, rootB gen 0 0 0 = y := ⟨_, rfl⟩
  have H5 := Lib.hid (And.intro hv hz)
  have HA := Lib.hid ha
  have HJ := Lib.hid hj
  have HX := Lib.hid hx
  have b4 := O.hb.cell (i := 4) rfl
  have hf := run_func
  have HO := Lib.hid O
  clear O ha hj hx hv hz
  go_enter Tryz.func106, Tryz.ntmps106
  go_upto_region 1 with (first
    | (go_at_call 125; refine (putRoot_to H5.out.1 H5.out.2 _).mono ?_; rintro e w1 ⟨rfl, U1⟩; have HO1 := Lib.hid (HO.out.up U1); clear U1))
  clear b4
  have c2 := HO1.out.hb.cell (i := 2) rfl
  have c3 := HO1.out.hb.cell (i := 3) rfl
  have c6 := HO1.out.hb.cell (i := 6) rfl
  have k0 := HO1.out.hq.cell (i := 0) (v := .pointer (some ⟨p, 0, none⟩)) rfl
  go_region_held3 (fun w' => w'.cell? ⟨b, 2, none⟩ = some (.pointer (some ⟨q, 0, none⟩)) ∧ w'.cell? ⟨b, 3, none⟩ = some (.int .i64 a) ∧ w'.cell? ⟨b, 6, none⟩ = some (.int .u64 old) ∧ w'.cell? ⟨q, 0, none⟩ = some (.pointer (some ⟨p, 0, none⟩)))
    ((first | exact ⟨HO2.out.hb.cell rfl, HO2.out.hb.cell rfl, HO2.out.hb.cell rfl, HO2.out.hq.cell rfl⟩ | exact ⟨c2, c3, c6, k0⟩))
    (first
      | (go_at_call 126; refine (casj_no v HA.out (HO1.out.up (up_drew w1)).hm HJ.out HX.out).mono ?_; rintro e w2 ⟨rfl, M2, E2⟩; have HO2 := Lib.hid ((HO1.out.up (up_drew w1)).turn M2 E2); clear M2 E2))
  clear c2 c3 c6 k0
  have q0 := HO2.out.hb.cell (i := 0) rfl
  have h0 := HO2.out.hb.frozen 0
  go_wp2_with fail
  refine bodyPost_ret (v := .tuple #[]) (by simp [results, Tryz.results106, go_sem]) rfl ?_
  exact ⟨rfl, HO2.out.put 0 (meth 65 b)⟩
set_option maxHeartbeats 2000000 in
theorem end_turn_yes {nx : Value} {st a gen ck old code pt v k' : Int} {j : Nat} (O : Ox w0 b q p g 130 #[nx, .int .i64 st, .pointer (some ⟨q, 0, none⟩), .int .i64 a, .int .i64 gen, .int .i64 ck, .int .u64 old, .int .i64 code, .int .i64 pt] (rooRow c p qs) s w) (ha : a = (j : Int)) (hj : j < s.xs.length)
    (hx : s.xs.getD j 0 = old) (o0 : 0 ≤ old) (o1 : old < 18446744073709551616) (hv : rootV gen 0 0 0 = v) (hk : chunkN (rtOf old).m = k') :
    Calls Tryz.prog 106 #[.pointer (some ⟨b, 0, none⟩)] w fun e w' => e = .returned (.tuple #[]) ∧ Ox w0 b q p g 130 #[.nilFunc, .int .i64 st, .pointer (some ⟨q, 0, none⟩), .int .i64 a, .int .i64 gen, .int .i64 k', .int .u64 old, .int .i64 code, .int .i64 st] (rooRow c p qs) (s.hit 3 (j : Int) v true) w' := by
  obtain ⟨z, hz⟩ : ∃ y, rootB gen 0 0 0 = y := ⟨_, rfl⟩
  obtain ⟨rg, hrg⟩ : ∃ y, (rtOf old).g = y := ⟨_, rfl⟩
  obtain ⟨rm, hrm⟩ : ∃ y, (rtOf old).m = y := ⟨_, rfl⟩
  obtain ⟨rc, hrc⟩ : ∃ y, (rtOf old).c = y := ⟨_, rfl⟩
  obtain ⟨ro, hro⟩ : ∃ y, (rtOf old).o = y := ⟨_, rfl⟩
  have hrt := rt_bd old o0 o1
  rw [hrm] at hk hrt
  have H4 := Lib.hid (And.intro hrg (And.intro hrm (And.intro hrc hro)))
  have H6 := Lib.hid (And.intro hk (show rm < 9223372036854775808 by omega))
  have H5 := Lib.hid (And.intro hv hz)
  have HW := Lib.hid (And.intro o0 o1)
  have HA := Lib.hid ha
  have HJ := Lib.hid hj
  have HX := Lib.hid hx
  have b4 := O.hb.cell (i := 4) rfl
  have HO := Lib.hid O
  clear O ha hj hx hv hz o0 o1 hk hrg hrm hrc hro hrt
  go_enter Tryz.func106, Tryz.ntmps106
  go_upto_region 1 with (first
    | (go_at_call 125; refine (putRoot_to H5.out.1 H5.out.2 _).mono ?_; rintro e w1 ⟨rfl, U1⟩; have HO1 := Lib.hid (HO.out.up U1); clear U1))
  clear b4
  have c2 := HO1.out.hb.cell (i := 2) rfl
  have c3 := HO1.out.hb.cell (i := 3) rfl
  have c6 := HO1.out.hb.cell (i := 6) rfl
  have k0 := HO1.out.hq.cell (i := 0) (v := .pointer (some ⟨p, 0, none⟩)) rfl
  go_region_held3 (fun w' => w'.cell? ⟨b, 2, none⟩ = some (.pointer (some ⟨q, 0, none⟩)) ∧ w'.cell? ⟨b, 3, none⟩ = some (.int .i64 a) ∧ w'.cell? ⟨b, 6, none⟩ = some (.int .u64 old) ∧ w'.cell? ⟨q, 0, none⟩ = some (.pointer (some ⟨p, 0, none⟩)))
    ((first | exact ⟨HO2.out.hb.cell rfl, HO2.out.hb.cell rfl, HO2.out.hb.cell rfl, HO2.out.hq.cell rfl⟩ | exact ⟨c2, c3, c6, k0⟩))
    (first
      | (go_at_call 126; refine (casj_yes v HA.out (HO1.out.up (up_drew w1)).hm HJ.out HX.out).mono ?_; rintro e w2 ⟨rfl, M2, E2⟩; have HO2 := Lib.hid ((HO1.out.up (up_drew w1)).turn M2 E2); clear M2 E2))
  clear c2 c3 c6 k0
  have c6 := HO2.out.hb.cell (i := 6) rfl
  go_wp2_with (first
    | (go_at_call 55; refine (getRoot_to HW.out.1 HW.out.2 H4.out.1 H4.out.2.1 H4.out.2.2.1 H4.out.2.2.2 _).mono ?_; rintro e w3 ⟨rfl, U3⟩; have HO3 := Lib.hid (HO2.out.up U3); clear U3)
    | (go_at_call 127; refine (chunk_to H6.out.1 H6.out.2 _).mono ?_; rintro e w4 ⟨rfl, U4⟩; have HO4 := Lib.hid (HO3.out.up U4); have q0 := HO4.out.hb.cell (i := 0) rfl; have q1 := HO4.out.hb.cell (i := 1) rfl; have q5 := HO4.out.hb.cell (i := 5) rfl; have q8 := HO4.out.hb.cell (i := 8) rfl; have h0 := HO4.out.hb.frozen 0; have h5 := HO4.out.hb.frozen 5; have h8 := HO4.out.hb.frozen 8; clear U4))
  go_end0
  exact ⟨rfl, ((HO4.out.put 5 (.int .i64 k')).put 8 (.int .i64 st)).put 0 .nilFunc⟩
theorem liveB_gen {a m gen : Int} (h : liveB a m gen = true) : a = gen := by
  unfold liveB at h; simp at h; exact h.2
theorem edStep (R : Roo w q p g qs c r0 n s) (L : EdM w b q r0 K) (hs : K.slot < n) (hf : K.fin = false) (hS : K.steps ≤ 1000000) :
    Calls Tryz.prog 38 #[.pointer (some ⟨b, 0, none⟩)] w fun e w' => e = .returned (.bool true) ∧ POut w q p g qs c r0 n s (K.xs r0 s.xs) [b] (fun w' => EdM w' b q r0 (K.go r0 s.xs)) w' := by
  obtain ⟨slot, gen, i, steps, point, chunk, old, code, fin⟩ := K
  have o0 := L.o0
  have o1 := L.o1
  have i1 := L.i1
  have hlv := L.lv
  dsimp only at hf hs hS o0 o1 i1 hlv
  subst hf
  have hq := L.row.ne_type R.env.stk (by decide)
  have O := R.ox L.row (by decide) (by decide) (by decide)
  unfold pedRow pedNx at O
  dsimp only at O
  rw [if_neg (by decide)] at O
  have c0 := O.hb.cell (i := 0) rfl
  have c1 := O.hb.cell (i := 1) rfl
  have hj := (R.at hs).2
  have hz := R.env.ok.words (r0 + slot)
  rcases (show i = 0 ∨ i = 1 by omega) with rfl | rfl
  · rw [if_pos rfl] at c0 O
    have ex : Ed.xs r0 s.xs ⟨slot, gen, 0, steps, point, chunk, old, code, false⟩ = s.xs := by unfold Ed.xs; rw [if_neg (by simp)]
    rw [ex]
    refine (step_end_loadRoot c0 c1 (O.hb.frozen 1) (by omega) (by omega) (end_load (O.put 1 (.int .i64 ((steps : Int) + 1))) rfl hj R.env.ok rfl rfl)).mono ?_
    rintro e w' ⟨rfl, O2⟩
    refine ⟨rfl, ?_⟩
    have H := O2.out (M := fun w' => EdM w' b q r0 (Ed.go r0 s.xs ⟨slot, gen, 0, steps, point, chunk, old, code, false⟩)) R hq rfl (R.env.ok.hit _ _ _ (R.env.ok _).1 (R.env.ok _).2) (hit_len _ _ _ _ _) ?_
    · rw [read_xs] at H; exact H
    · have hb := O2.hb
      unfold Ed.go Ed.live
      dsimp only
      rw [if_pos rfl]
      by_cases h : liveB (rtOf (s.xs.getD (r0 + slot) 0)).g (rtOf (s.xs.getD (r0 + slot) 0)).m gen = true
      · rw [if_pos h]
        rw [if_pos h, if_pos h, if_pos h] at hb
        exact ⟨hb, hz.1, hz.2, Nat.le_refl _, fun _ _ => h⟩
      · rw [if_neg h]
        rw [if_neg h, if_neg h, if_neg h] at hb
        exact ⟨hb, hz.1, hz.2, Nat.le_refl _, fun h => by simp at h⟩
  · rw [if_neg (by decide)] at c0 O
    have hg := liveB_gen (hlv rfl rfl)
    by_cases hc : s.xs.getD (r0 + slot) 0 = old
    · have ex : Ed.xs r0 s.xs ⟨slot, gen, 1, steps, point, chunk, old, code, false⟩ = s.xs.set (r0 + slot) (rootV gen 0 0 0) := by unfold Ed.xs; dsimp only; rw [if_pos ⟨by decide, hc⟩, hg]
      have eg : Ed.go r0 s.xs ⟨slot, gen, 1, steps, point, chunk, old, code, false⟩ = ⟨slot, gen, 0, steps + 1, steps + 1, chunkN (rtOf old).m, old, code, true⟩ := by unfold Ed.go; dsimp only; rw [if_neg (by decide), if_pos hc]
      rw [ex, eg]
      have hv := rootV_in gen 0 0 0
      refine (step_end_turnRoot c0 c1 (O.hb.frozen 1) (by omega) (by omega) (end_turn_yes (O.put 1 (.int .i64 ((steps : Int) + 1))) rfl hj hc o0 o1 rfl rfl)).mono ?_
      rintro e w' ⟨rfl, O2⟩
      refine ⟨rfl, ?_⟩
      have H := O2.out (M := fun w' => EdM w' b q r0 ⟨slot, gen, 0, steps + 1, steps + 1, chunkN (rtOf old).m, old, code, true⟩) R hq rfl (R.env.ok.hit _ _ _ hv.1 hv.2) (hit_len _ _ _ _ _) ⟨O2.hb, o0, o1, by simp, by simp⟩
      rw [hit_at] at H; exact H
    · have ex : Ed.xs r0 s.xs ⟨slot, gen, 1, steps, point, chunk, old, code, false⟩ = s.xs := by unfold Ed.xs; dsimp only; rw [if_neg (fun h => hc h.2)]
      have eg : Ed.go r0 s.xs ⟨slot, gen, 1, steps, point, chunk, old, code, false⟩ = ⟨slot, gen, 0, steps + 1, point, chunk, old, code, false⟩ := by unfold Ed.go; dsimp only; rw [if_neg (by decide), if_neg hc]
      rw [ex, eg]
      refine (step_end_turnRoot c0 c1 (O.hb.frozen 1) (by omega) (by omega) (end_turn_no (O.put 1 (.int .i64 ((steps : Int) + 1))) rfl hj hc)).mono ?_
      rintro e w' ⟨rfl, O2⟩
      refine ⟨rfl, ?_⟩
      have H := O2.out (M := fun w' => EdM w' b q r0 ⟨slot, gen, 0, steps + 1, point, chunk, old, code, false⟩) R hq rfl (R.env.ok.hit _ _ _ (R.env.ok _).1 (R.env.ok _).2) (hit_len _ _ _ _ _) ⟨O2.hb, o0, o1, by simp, by simp⟩
      rw [read_xs] at H; exact H
theorem edStep_no (L : EdM w b q r0 K) (hf : K.fin = true) : Calls Tryz.prog 38 #[.pointer (some ⟨b, 0, none⟩)] w fun e w' => e = .returned (.bool false) ∧ w = w' := by
  have c0 := L.next
  unfold pedNx at c0
  rw [if_pos hf] at c0
  exact endStep_end c0
theorem edDone (L : EdM w b q r0 K) {y : Bool} (h : K.fin = y) : Calls Tryz.prog 40 #[.pointer (some ⟨b, 0, none⟩)] w fun e w' => e = .returned (.bool y) ∧ w = w' := by
  have c0 := L.next
  unfold pedNx at c0
  subst h
  cases hf : K.fin
  · rw [hf, if_neg (by decide)] at c0
    split at c0
    · exact endDone_no c0
    · exact endDone_no c0
  · rw [hf, if_pos rfl] at c0; exact endDone_yes c0
theorem edCode (L : EdM w b q r0 K) {y : Int} (h : K.code = y) : Calls Tryz.prog 43 #[.pointer (some ⟨b, 0, none⟩)] w fun e w' => e = .returned (.int .i64 y) ∧ w = w' := by
  have c6 := L.row.cell (i := 7) (v := .int .i64 K.code) rfl
  rw [h] at c6
  clear L
  go_enter Tryz.func43, Tryz.ntmps43
  go_wp2_with fail
  go_ret
  exact ⟨rfl, rfl⟩
theorem edChunk (L : EdM w b q r0 K) {y : Int} (h : K.chunk = y) : Calls Tryz.prog 42 #[.pointer (some ⟨b, 0, none⟩)] w fun e w' => e = .returned (.int .i64 y) ∧ w = w' := by
  have c6 := L.row.cell (i := 5) (v := .int .i64 K.chunk) rfl
  rw [h] at c6
  clear L
  go_enter Tryz.func42, Tryz.ntmps42
  go_wp2_with fail
  go_ret
  exact ⟨rfl, rfl⟩
theorem edPoint (L : EdM w b q r0 K) {y : Nat} (h : K.point = y) : Calls Tryz.prog 41 #[.pointer (some ⟨b, 0, none⟩)] w fun e w' => e = .returned (.int .i64 (y : Int)) ∧ w = w' := by
  have c6 := L.row.cell (i := 8) (v := .int .i64 (K.point : Int)) rfl
  rw [h] at c6
  clear L
  go_enter Tryz.func41, Tryz.ntmps41
  go_wp2_with fail
  go_ret
  exact ⟨rfl, rfl⟩
set_option maxHeartbeats 1000000 in
theorem edNew (R : Roo w q p g qs c r0 n s) {k : Nat} (h : k < n) (gen : Int) :
    Calls Tryz.prog 25 #[.pointer (some ⟨q, 0, none⟩), .int .i64 (k : Int), .int .i64 gen] w fun e w' => ∃ b, e = .returned (.tuple #[.pointer (some ⟨b, 0, none⟩), .int .i64 0]) ∧ EdM w' b q r0 (Ed.new k gen) ∧ w.heap.size ≤ b ∧ Up w w' := by
  have HH := Lib.hid (has_yes R (k := (k : Int)) (by omega) (by omega))
  have k1 := R.obj.cell (i := 1) (v := .int .i64 c.wk) rfl
  have k2 := R.obj.cell (i := 2) (v := .int .i64 c.ch) rfl
  have k3 := R.obj.cell (i := 3) (v := .int .i64 c.wo) rfl
  have k4 := R.obj.cell (i := 4) (v := .int .i64 c.sl) rfl
  have k5 := R.obj.cell (i := 5) (v := .int .i64 c.ca) rfl
  have k6 := R.obj.cell (i := 6) (v := .int .i64 c.ba) rfl
  have HR := Lib.hid (R.at h).1
  have hf := run_func
  clear R
  go_enter Tryz.func25, Tryz.ntmps25
  go_wp2_with (first
    | (go_at_call 57; refine HH.out.mono ?_; rintro e w2 ⟨rfl, rfl⟩)
    | (go_at_call 56; refine (root_is HR.out _).mono ?_; rintro e w2 ⟨rfl, U2⟩; have HU2 := Lib.hid U2; clear U2))
  go_ret2
  refine ⟨_, rfl, ⟨?_, by simp [Ed.new], by simp [Ed.new], by simp [Ed.new], by simp [Ed.new]⟩, HU2.out.size, ?_⟩
  · exact Whole.new w2 130 (pedRow w2.heap.size q r0 (Ed.new k gen))
  · exact HU2.out.then_alloc _
theorem edNew_no (R : Roo w q p g qs c r0 n s) {k : Int} (h : ¬ (0 ≤ k ∧ k < n)) (gen : Int) :
    Calls Tryz.prog 25 #[.pointer (some ⟨q, 0, none⟩), .int .i64 k, .int .i64 gen] w fun e w' => e = .returned (.tuple #[.pointer none, .int .i64 1]) ∧ w = w' := by
  have HH := Lib.hid (has_no R h)
  clear R h
  go_enter Tryz.func25, Tryz.ntmps25
  go_wp2_with (go_at_call 57; refine HH.out.mono ?_; rintro e w2 ⟨rfl, rfl⟩)
  go_ret2
  exact ⟨rfl, rfl⟩
end
end Go.Proofs.YtalglhgngedjoaaGreat

/-
  The contract of rundalemake.Config: a small configuration by a number.
-/
namespace Go.Proofs.YtalglhgngedjoaaGreat
open Go.RowKit


set_option maxHeartbeats 1000000 in
theorem seqN_any (b g : Nat) (k : Nat) (n x : Int) (w : World) (hk : k < 6) (n0 : 0 < n) (n1 : n < 9223372036854775808)
    (hL : w.cell? ⟨b, 0, none⟩ = some (.slice (some ⟨g, 0, none⟩) 6 6)) (hA : w.cell? ⟨b, 1, none⟩ = some (.int .i64 k)) (hx : w.cell? ⟨g, k, none⟩ = some (.int .i64 x)) (hf : w.frozen? ⟨b, 1, none⟩ = false) :
    Calls Tryz.prog 60 #[.pointer (some ⟨b, 0, none⟩), .int .i64 n] w fun e w' => e = .returned (.int .i64 (x % n)) ∧ w' = (w.setCell ⟨b, 1, none⟩ (.int .i64 (k + 1))).drew.drew := by
  have k0 : (0 : Int) ≤ (k : Int) := Int.natCast_nonneg _
  have k1 : (k : Int) < 6 := by omega
  go_enter Tryz.func60, Tryz.ntmps60
  go_wp2
  refine wp_region_one (by kernel_rfl) (by kernel_rfl) ?_
  repeat (go_big_quiet_step (fail))
  refine wpQuiet_nil ?_
  rintro _ rfl
  go_wp2
  refine wp_region_one (by kernel_rfl) (by kernel_rfl) ?_
  repeat (go_big_quiet_step (fail))
  refine wpQuiet_nil ?_
  rintro _ rfl
  go_wp2_with (go_at_call 8; refine (number_any _ _ _ n0 n1).mono ?_; rintro e w' ⟨rfl, rfl⟩)
  go_ret
  exact ⟨rfl, rfl⟩
theorem seqN_at {b g : Nat} (k : Nat) (i j : Int) {n x r : Int} {w : World} (hi : (k : Int) = i) (hj : i + 1 = j) (hr : x % n = r) (hk : k < 6) (n0 : 0 < n) (n1 : n < 9223372036854775808)
    (hL : w.cell? ⟨b, 0, none⟩ = some (.slice (some ⟨g, 0, none⟩) 6 6)) (hA : w.cell? ⟨b, 1, none⟩ = some (.int .i64 i)) (hx : w.cell? ⟨g, k, none⟩ = some (.int .i64 x)) (hf : w.frozen? ⟨b, 1, none⟩ = false) :
    Calls Tryz.prog 60 #[.pointer (some ⟨b, 0, none⟩), .int .i64 n] w fun e w' => e = .returned (.int .i64 r) ∧ w' = (w.setCell ⟨b, 1, none⟩ (.int .i64 j)).drew.drew := by
  subst hi hj hr
  exact seqN_any b g k n x w hk n0 n1 hL hA hx hf

/-- The memory of Config: the result's variable, the numbers, the sequence that stands at i. -/
def W3 (w : World) (x0 x1 x2 x3 x4 x5 i : Int) : World :=
  ((w.alloc (.cells #[.int .i64 0, .int .i64 0, .int .i64 0, .int .i64 0, .int .i64 0, .int .i64 0] 31)).alloc (.cells #[.int .i64 x0, .int .i64 x1, .int .i64 x2, .int .i64 x3, .int .i64 x4, .int .i64 x5] 3)).alloc
    (.cells #[.slice (some ⟨w.heap.size + 1, 0, none⟩) 6 6, .int .i64 i] 120)
theorem W3_size (w : World) (o p : Obj) : ((w.alloc o).alloc p).heap.size = w.heap.size + 1 + 1 := by simp
theorem W3_set (w : World) (x0 x1 x2 x3 x4 x5 i j : Int) (d : Nat) : ((W3 w x0 x1 x2 x3 x4 x5 i).drewN d).setCell ⟨w.heap.size + 1 + 1, 1, none⟩ (.int .i64 j) = (W3 w x0 x1 x2 x3 x4 x5 j).drewN d := by
  have e : ((W3 w x0 x1 x2 x3 x4 x5 i)).setCell ⟨w.heap.size + 1 + 1, 1, none⟩ (.int .i64 j) = W3 w x0 x1 x2 x3 x4 x5 j := by
    unfold W3
    rw [World.setCell_alloc_at _ _ _ _ _ (W3_size _ _ _).symm]
    simp
  rw [← e]; rfl
theorem seqN_w (w : World) (x0 x1 x2 x3 x4 x5 : Int) (k : Nat) (i j x : Int) {n r : Int} (d : Nat) (hi : (k : Int) = i) (hj : i + 1 = j) (hx : #[Value.int .i64 x0, .int .i64 x1, .int .i64 x2, .int .i64 x3, .int .i64 x4, .int .i64 x5][k]? = some (.int .i64 x)) (hr : x % n = r) (hk : k < 6) (n0 : 0 < n) (n1 : n < 9223372036854775808) :
    Calls Tryz.prog 60 #[.pointer (some ⟨w.heap.size + 1 + 1, 0, none⟩), .int .i64 n] ((W3 w x0 x1 x2 x3 x4 x5 i).drewN d) fun e w' => e = .returned (.int .i64 r) ∧ w' = (W3 w x0 x1 x2 x3 x4 x5 j).drewN (d + 1 + 1) := by
  refine (seqN_at (b := w.heap.size + 1 + 1) (g := w.heap.size + 1) k i j (x := x) hi hj hr hk n0 n1 ?_ ?_ ?_ ?_).mono ?_
  · rw [World.cell?_drewN]; unfold W3
    rw [World.cell?_alloc_at _ _ _ _ (W3_size _ _ _).symm]; rfl
  · rw [World.cell?_drewN]; unfold W3
    rw [World.cell?_alloc_at _ _ _ _ (W3_size _ _ _).symm]; rfl
  · rw [World.cell?_drewN]; unfold W3
    rw [World.cell?_alloc_past _ _ _ (by simp), World.cell?_alloc_at _ _ _ _ (by simp)]
    exact hx
  · rw [World.frozen?_drewN]; unfold W3
    rw [World.frozen?_alloc_at _ _ _ _ (W3_size _ _ _).symm]
  · rintro e w' ⟨rfl, rfl⟩
    rw [W3_set]
    exact ⟨rfl, rfl⟩
theorem seqN_0 (w : World) (x0 x1 x2 x3 x4 x5 : Int) {n r : Int} (hr : x0 % n = r) (n0 : 0 < n) (n1 : n < 9223372036854775808) :
    Calls Tryz.prog 60 #[.pointer (some ⟨w.heap.size + 1 + 1, 0, none⟩), .int .i64 n]
      (((w.alloc (.cells #[.int .i64 0, .int .i64 0, .int .i64 0, .int .i64 0, .int .i64 0, .int .i64 0] 31)).alloc (.cells #[.int .i64 x0, .int .i64 x1, .int .i64 x2, .int .i64 x3, .int .i64 x4, .int .i64 x5] 3)).alloc
        (.cells #[.slice (some ⟨w.heap.size + 1, 0, none⟩) 6 6, .int .i64 0] 120))
      fun e w' => e = .returned (.int .i64 r) ∧ w' = (W3 w x0 x1 x2 x3 x4 x5 1).drewN 2 :=
  seqN_w w x0 x1 x2 x3 x4 x5 0 0 1 x0 0 rfl rfl rfl hr (by decide) n0 n1
theorem seqN_1 (w : World) (x0 x1 x2 x3 x4 x5 : Int) {n r : Int} (hr : x1 % n = r) (n0 : 0 < n) (n1 : n < 9223372036854775808) :
    Calls Tryz.prog 60 #[.pointer (some ⟨w.heap.size + 1 + 1, 0, none⟩), .int .i64 n] ((W3 w x0 x1 x2 x3 x4 x5 1).drewN 2)
      fun e w' => e = .returned (.int .i64 r) ∧ w' = (W3 w x0 x1 x2 x3 x4 x5 2).drewN 4 :=
  seqN_w w x0 x1 x2 x3 x4 x5 1 1 2 x1 2 rfl rfl rfl hr (by decide) n0 n1
theorem seqN_2 (w : World) (x0 x1 x2 x3 x4 x5 : Int) {n r : Int} (hr : x2 % n = r) (n0 : 0 < n) (n1 : n < 9223372036854775808) :
    Calls Tryz.prog 60 #[.pointer (some ⟨w.heap.size + 1 + 1, 0, none⟩), .int .i64 n] ((W3 w x0 x1 x2 x3 x4 x5 2).drewN 4)
      fun e w' => e = .returned (.int .i64 r) ∧ w' = (W3 w x0 x1 x2 x3 x4 x5 3).drewN 6 :=
  seqN_w w x0 x1 x2 x3 x4 x5 2 2 3 x2 4 rfl rfl rfl hr (by decide) n0 n1
theorem seqN_3 (w : World) (x0 x1 x2 x3 x4 x5 : Int) {n r : Int} (hr : x3 % n = r) (n0 : 0 < n) (n1 : n < 9223372036854775808) :
    Calls Tryz.prog 60 #[.pointer (some ⟨w.heap.size + 1 + 1, 0, none⟩), .int .i64 n] ((W3 w x0 x1 x2 x3 x4 x5 3).drewN 6)
      fun e w' => e = .returned (.int .i64 r) ∧ w' = (W3 w x0 x1 x2 x3 x4 x5 4).drewN 8 :=
  seqN_w w x0 x1 x2 x3 x4 x5 3 3 4 x3 6 rfl rfl rfl hr (by decide) n0 n1
theorem seqN_4 (w : World) (x0 x1 x2 x3 x4 x5 : Int) {n r : Int} (hr : x4 % n = r) (n0 : 0 < n) (n1 : n < 9223372036854775808) :
    Calls Tryz.prog 60 #[.pointer (some ⟨w.heap.size + 1 + 1, 0, none⟩), .int .i64 n] ((W3 w x0 x1 x2 x3 x4 x5 4).drewN 8)
      fun e w' => e = .returned (.int .i64 r) ∧ w' = (W3 w x0 x1 x2 x3 x4 x5 5).drewN 10 :=
  seqN_w w x0 x1 x2 x3 x4 x5 4 4 5 x4 8 rfl rfl rfl hr (by decide) n0 n1
theorem seqN_5 (w : World) (x0 x1 x2 x3 x4 x5 : Int) {n r : Int} (hr : x5 % n = r) (n0 : 0 < n) (n1 : n < 9223372036854775808) :
    Calls Tryz.prog 60 #[.pointer (some ⟨w.heap.size + 1 + 1, 0, none⟩), .int .i64 n] ((W3 w x0 x1 x2 x3 x4 x5 5).drewN 10)
      fun e w' => e = .returned (.int .i64 r) ∧ w' = (((w.alloc (.cells #[.int .i64 0, .int .i64 0, .int .i64 0, .int .i64 0, .int .i64 0, .int .i64 0] 31)).alloc (.cells #[.int .i64 x0, .int .i64 x1, .int .i64 x2, .int .i64 x3, .int .i64 x4, .int .i64 x5] 3)).alloc
        (.cells #[.slice (some ⟨w.heap.size + 1, 0, none⟩) 6 6, .int .i64 6] 120)).drewN 12 :=
  seqN_w w x0 x1 x2 x3 x4 x5 5 5 6 x5 10 rfl rfl rfl hr (by decide) n0 n1

/-- A configuration as Config makes them. -/
def Cf.Small (c : Cf) : Prop := (1 ≤ c.wk ∧ c.wk ≤ 4) ∧ (1 ≤ c.ch ∧ c.ch ≤ 8) ∧ (c.wo = 8 ∨ c.wo = 16) ∧ (1 ≤ c.sl ∧ c.sl ≤ 4) ∧ (0 ≤ c.ca ∧ c.ca ≤ 3) ∧ (1 ≤ c.ba ∧ c.ba ≤ 3)
theorem Cf.Small.may {c : Cf} (h : c.Small) : mayB c = true := by
  obtain ⟨_, _, _, _, _, _⟩ := h
  refine mayB_iff.2 ⟨?_, ?_, ?_, ?_, ?_, ?_⟩ <;> omega

set_option maxHeartbeats 2000000 in
theorem config_any (v : Int) (w : World) :
    Calls Tryz.prog 21 #[.int .i64 v] w fun e w' => ∃ c : Cf, e = .returned c.v ∧ c.Small ∧ Up w w' := by
  obtain ⟨x0, f0, g0, l0, u0⟩ := emod_letter v 4 (by decide)
  obtain ⟨x1, f1, g1, l1, u1⟩ := emod_letter (wrap64 (v.tdiv 4)) 8 (by decide)
  obtain ⟨x2, f2, g2, l2, u2⟩ := emod_letter (wrap64 (v.tdiv 32)) 2 (by decide)
  obtain ⟨x3, f3, g3, l3, u3⟩ := emod_letter (wrap64 (v.tdiv 64)) 4 (by decide)
  obtain ⟨x4, f4, g4, l4, u4⟩ := emod_letter (wrap64 (v.tdiv 256)) 4 (by decide)
  obtain ⟨x5, f5, g5, l5, u5⟩ := emod_letter (wrap64 (v.tdiv 1024)) 3 (by decide)
  have F0 := Lib.hid f0
  have F1 := Lib.hid f1
  have F2 := Lib.hid f2
  have F3 := Lib.hid f3
  have F4 := Lib.hid f4
  have F5 := Lib.hid f5
  have G0 := Lib.hid g0
  have G1 := Lib.hid g1
  have G2 := Lib.hid g2
  have G3 := Lib.hid g3
  have G4 := Lib.hid g4
  have G5 := Lib.hid g5
  clear f0 f1 f2 f3 f4 f5 g0 g1 g2 g3 g4 g5
  have sd : ∀ (w : World) (n : Nat) (a : Addr) (v : Value), (w.drewN n).setCell a v = (w.setCell a v).drewN n := fun _ _ _ _ => rfl
  go_enter Tryz.func21, Tryz.ntmps21
  go_wp2_with (first
    | (go_at_call 8; (with_reducible refine (number_is F0.out (by decide) (by decide) _).mono ?_); rintro e w' ⟨rfl, rfl⟩)
    | (go_at_call 8; (with_reducible refine (number_is F1.out (by decide) (by decide) _).mono ?_); rintro e w' ⟨rfl, rfl⟩)
    | (go_at_call 8; (with_reducible refine (number_is F2.out (by decide) (by decide) _).mono ?_); rintro e w' ⟨rfl, rfl⟩)
    | (go_at_call 8; (with_reducible refine (number_is F3.out (by decide) (by decide) _).mono ?_); rintro e w' ⟨rfl, rfl⟩)
    | (go_at_call 8; (with_reducible refine (number_is F4.out (by decide) (by decide) _).mono ?_); rintro e w' ⟨rfl, rfl⟩)
    | (go_at_call 8; (with_reducible refine (number_is F5.out (by decide) (by decide) _).mono ?_); rintro e w' ⟨rfl, rfl⟩)
    | (go_at_call 60; (with_reducible refine (seqN_1 w x0 x1 x2 x3 x4 x5 G1.out (by decide) (by decide)).mono ?_); rintro e w' ⟨rfl, rfl⟩)
    | (go_at_call 60; (with_reducible refine (seqN_2 w x0 x1 x2 x3 x4 x5 G2.out (by decide) (by decide)).mono ?_); rintro e w' ⟨rfl, rfl⟩)
    | (go_at_call 60; (with_reducible refine (seqN_3 w x0 x1 x2 x3 x4 x5 G3.out (by decide) (by decide)).mono ?_); rintro e w' ⟨rfl, rfl⟩)
    | (go_at_call 60; (with_reducible refine (seqN_4 w x0 x1 x2 x3 x4 x5 G4.out (by decide) (by decide)).mono ?_); rintro e w' ⟨rfl, rfl⟩)
    | (go_at_call 60; (with_reducible refine (seqN_5 w x0 x1 x2 x3 x4 x5 G5.out (by decide) (by decide)).mono ?_); rintro e w' ⟨rfl, rfl⟩)
    | (go_at_call 60; (with_reducible refine (seqN_0 w x0 x1 x2 x3 x4 x5 G0.out (by decide) (by decide)).mono ?_); rintro e w' ⟨rfl, rfl⟩))
  refine bodyPost_ret (v := (⟨1 + x0, 1 + x1, 8 + 8 * x2, 1 + x3, x4, 1 + x5⟩ : Cf).v) (by simp [results, Tryz.results21, go_sem]) rfl ⟨⟨1 + x0, 1 + x1, 8 + 8 * x2, 1 + x3, x4, 1 + x5⟩, rfl, ?_, ?_⟩
  · unfold Cf.Small
    dsimp only
    omega
  · exact (((Up.alloc _ _).then_alloc _).then_alloc _).then_drewN _
end Go.Proofs.YtalglhgngedjoaaGreat
