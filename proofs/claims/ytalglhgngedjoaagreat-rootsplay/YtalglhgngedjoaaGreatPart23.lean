/-
  Texts beneath RootsPlay, part 23: RtLaw, RtLook.
-/
import Derived.Test.YtalglhgngedjoaaGreatPart22
/-
  One alone over the slots (Sole): a machine run to its end; the statements' own creates and first.
-/
namespace Go.Proofs.YtalglhgngedjoaaGreat
open Go.RowKit
open W64
set_option maxRecDepth 100000
structure Sole (W w : World) (l : Lie) (n : Nat) (s : St) : Prop where
  roo : Roo w l.q l.p l.g l.qs (cfN n) 4 n s
  up : Up W w
  hp : W.heap.size ≤ l.p
  hg : W.heap.size ≤ l.g
/-- How many accesses there have been behind j Steps. -/
def Cr.cnt (n r0 : Nat) (s : List Int × Cr) (c : Int) : Nat → Int
  | 0 => c
  | k + 1 => if (Cr.run n r0 s k).2.fin = true then Cr.cnt n r0 s c k else wrap64 (Cr.cnt n r0 s c k + 1)
section
variable {W w w' : World} {l : Lie} {n : Nat} {s s' : St} {b rb : Nat} {v : Value} {xs0 : List Int} {cls c0 : Int} {M : World → Prop} {xs : List Int} {own : List Nat}
theorem Twin.sole (T : Twin W w l n s) : Sole W w l n s := ⟨T.roo, T.up, T.hp, T.hg⟩
theorem Sole.ups (T : Sole W w l n s) (u : Up w w') : Sole W w' l n s := ⟨T.roo.up u, T.up.trans u, T.hp, T.hg⟩
theorem Sole.went (T : Sole W w l n s) (H : POut w l.q l.p l.g l.qs (cfN n) 4 n s xs own M w') (ho : ∀ k ∈ own, W.heap.size ≤ k) : ∃ s', s'.c = wrap64 (s.c + 1) ∧ s'.xs = xs ∧ Sole W w' l n s' ∧ M w' := by
  obtain ⟨s', h1, h2, h3, h4, h5⟩ := H
  refine ⟨s', h1, h2, ⟨h3, Else.up_new T.up h5 ?_, T.hp, T.hg⟩, h4⟩
  intro k hk
  simp at hk
  rcases hk with hk | rfl | rfl
  · exact ho k hk
  · exact T.hp
  · exact T.hg
/-- A Create behind j Steps of it alone. -/
structure CrAt (W w : World) (l : Lie) (n : Nat) (xs0 : List Int) (cls c0 : Int) (b rb j : Nat) (s : St) (v : Value) : Prop where
  sole : Sole W w l n s
  xs : s.xs = (Cr.run n 4 (xs0, Cr.new cls) j).1
  cn : s.c = Cr.cnt n 4 (xs0, Cr.new cls) c0 j
  mach : CrM w b rb l.q l.qs n v (Cr.run n 4 (xs0, Cr.new cls) j).2
  hb : W.heap.size ≤ b
  hrb : W.heap.size ≤ rb
  hv : ∀ k, v.ownBlock = some k → W.heap.size ≤ k
  st : (Cr.run n 4 (xs0, Cr.new cls) j).2.steps ≤ j
theorem Cr.go_steps (n r0 : Nat) (xs : List Int) (K : Cr) : (K.go n r0 xs).steps = K.steps + 1 := by
  unfold Cr.go
  split
  · split
    · rfl
    · split <;> rfl
  · split <;> rfl
theorem CrAt.once {j : Nat} (H : CrAt W w l n xs0 cls c0 b rb j s v) (hj : j ≤ 1000) :
    Calls Tryz.prog 29 #[.pointer (some ⟨b, 0, none⟩)] w fun e w' => ∃ y s' v', e = .returned (.bool y) ∧ CrAt W w' l n xs0 cls c0 b rb (j + 1) s' v' := by
  obtain ⟨T, hx, hc, M, hb, hrb, hv, hst⟩ := H
  have er : Cr.run n 4 (xs0, Cr.new cls) (j + 1) = Cr.step n 4 (Cr.run n 4 (xs0, Cr.new cls) j) := rfl
  have ec : Cr.cnt n 4 (xs0, Cr.new cls) c0 (j + 1) = if (Cr.run n 4 (xs0, Cr.new cls) j).2.fin = true then Cr.cnt n 4 (xs0, Cr.new cls) c0 j else wrap64 (Cr.cnt n 4 (xs0, Cr.new cls) c0 j + 1) := rfl
  by_cases hf : (Cr.run n 4 (xs0, Cr.new cls) j).2.fin = true
  · refine (crStep_no M hf).mono ?_
    rintro e w' ⟨rfl, rfl⟩
    have e1 : Cr.run n 4 (xs0, Cr.new cls) (j + 1) = Cr.run n 4 (xs0, Cr.new cls) j := by rw [er]; unfold Cr.step; rw [if_pos hf]
    exact ⟨_, s, v, rfl, ⟨T, by rw [e1]; exact hx, by rw [ec, if_pos hf]; exact hc, by rw [e1]; exact M, hb, hrb, hv, by rw [e1]; omega⟩⟩
  · have hf' : (Cr.run n 4 (xs0, Cr.new cls) j).2.fin = false := by simpa using hf
    refine (crStep T.roo M hf' (by omega)).mono ?_
    rintro e w' ⟨rfl, v', N, H⟩
    obtain ⟨s', h1, h2, h3, h4⟩ := T.went H (by
      intro k hk
      simp at hk
      rcases hk with rfl | rfl | hk
      · exact hb
      · exact hrb
      · exact hv k hk)
    have e1 : Cr.run n 4 (xs0, Cr.new cls) (j + 1) = ((Cr.run n 4 (xs0, Cr.new cls) j).2.xs 4 s.xs, (Cr.run n 4 (xs0, Cr.new cls) j).2.go n 4 s.xs) := by rw [er]; unfold Cr.step; rw [if_neg hf, ← hx]
    refine ⟨_, s', v', rfl, ⟨h3, by rw [e1]; exact h2, by rw [ec, if_neg hf, h1, hc], by rw [e1]; exact h4, hb, hrb, ?_, by rw [e1]; dsimp only; rw [Cr.go_steps]; omega⟩⟩
    intro k hk
    rcases N with e | e | ⟨r, e, hr⟩
    · rw [e] at hk; exact hv k hk
    · rw [e] at hk; cases hk
    · rw [e] at hk; injection hk with hk; subst hk; exact Nat.le_trans T.up.size hr
theorem CrAt.ups {j : Nat} (H : CrAt W w l n xs0 cls c0 b rb j s v) (u : Up w w') : CrAt W w' l n xs0 cls c0 b rb j s v := ⟨H.sole.ups u, H.xs, H.cn, H.mach.up u, H.hb, H.hrb, H.hv, H.st⟩
theorem CrAt.new (T : Sole W w l n s) (M : CrM w b rb l.q l.qs n (.slice none 0 0) (Cr.new cls)) (hb : W.heap.size ≤ b) (hrb : W.heap.size ≤ rb) : CrAt W w l n s.xs cls s.c b rb 0 s (.slice none 0 0) :=
  ⟨T, rfl, rfl, M, hb, hrb, by simp [Value.ownBlock], Nat.le_refl _⟩
def CrRel (W : World) (l : Lie) (n : Nat) (xs0 : List Int) (cls c0 : Int) (b rb J : Nat) (i : Value) (wr : World) : Prop := ∃ j : Nat, j ≤ J ∧ i = .int .i64 j ∧ ∃ s v, CrAt W wr l n xs0 cls c0 b rb j s v
/-- What a Create run to its end leaves. -/
structure Crd (W w' : World) (l : Lie) (n : Nat) (xs' : List Int) : Prop where
  out : ∃ s', s'.xs = xs' ∧ Sole W w' l n s'
set_option maxHeartbeats 4000000 in
theorem creates_any (T : Sole W w l n s) (a : Int) (hc : cutC a = cls) {xs' : List Int} {K' : Cr} (hK : Cr.run n 4 (s.xs, Cr.new cls) 10 = (xs', K')) (hf : K'.fin = true) {sl : Nat} {g cd : Int} {y : Bool} (hs : K'.slot = sl) (hg : pcrGen K' = g) (hcd : K'.code = cd) (hy : (cd == 0) = y) :
    Calls Tryz.prog 14 #[.pointer (some ⟨l.q, 0, none⟩), .int .i64 a] w fun e w' => e = .returned (.tuple #[.int .i64 (sl : Int), .int .i64 g, .bool y]) ∧ Crd W w' l n xs' := by
  have HT := Lib.hid T
  have HC := Lib.hid hc
  have HK := Lib.hid hK
  have HE := Lib.hid (And.intro hf (And.intro hs (And.intro hg hcd)))
  clear T hc hK hf hs hg hcd
  go_enter Tryz.func14, Tryz.ntmps14
  go_wp2_with (first
    | (go_at_call 28; refine (crNew HT.out.roo a).mono ?_; rintro e w1 ⟨b, rb, rfl, M1, b1, b2, U1⟩; rw [HC.out] at M1; have HA := Lib.hid (CrAt.new (HT.out.ups U1) M1 (Nat.le_trans HT.out.up.size b1) (Nat.le_trans HT.out.up.size b2)); clear M1 b1 b2 U1))
  go_loopw [8] (fun i wr => CrRel W l n s.xs cls s.c b rb 10 i wr) (fun i _ => 10 - (intOf i).toNat)
  case atStart => exact ⟨0, by decide, rfl, s, _, HA.out⟩
  case round =>
    obtain ⟨j, hj, rfl, sj, vj, A⟩ := hrel
    have HAj := Lib.hid A
    clear A
    have i0 : (0 : Int) ≤ (j : Int) := Int.natCast_nonneg _
    by_cases hlt : j < 10
    · have i1 : (j : Int) < 10 := by omega
      go_wp2_with (first
        | (go_at_call 29; refine (HAj.out.once (by omega)).mono ?_; rintro e w2 ⟨y2, s2, v2, rfl, A2⟩; have HA2 := Lib.hid A2; clear A2))
      go_roundw
      case rel => exact ⟨j + 1, by omega, by go_num, s2, v2, HA2.out⟩
      case measure => simp [intOf]; omega
    · have i1 : ¬ (j : Int) < 10 := by omega
      have ej : j = 10 := by omega
      subst ej
      have M := HAj.out.mach
      rw [HK.out] at M
      have HM := Lib.hid M
      have HX := Lib.hid (show sj.xs = xs' by rw [HAj.out.xs, HK.out])
      obtain ⟨hf, hs, hg, hcd⟩ := HE.out
      have HF := Lib.hid hf
      clear M hf
      go_wp2_with (first
        | (go_at_call 30; (with_reducible refine (crRegion HM.out HF.out hs hg).mono ?_); rintro e w3 ⟨rfl, U3⟩; have HM3 := Lib.hid (HM.out.up U3); have HS3 := Lib.hid (HAj.out.sole.ups U3); clear U3)
        | (go_at_call 31; (with_reducible refine (crDone HM3.out HF.out).mono ?_); rintro e w4 ⟨rfl, rfl⟩)
        | (go_at_call 32; (with_reducible refine (crCode HM3.out hcd).mono ?_); rintro e w4 ⟨rfl, rfl⟩))
      go_ret3
      exact ⟨rfl, ⟨sj, HX.out, HS3.out⟩⟩
theorem fst_c : Cr.cnt 2 4 ((m0 2).xs, Cr.new 0) (m0 2).c 5 = 5 := by kernel_rfl
theorem fst_k : (Cr.run 2 4 ((m0 2).xs, Cr.new 0) 5).2.fin = true ∧ (Cr.run 2 4 ((m0 2).xs, Cr.new 0) 5).2.slot = 0 ∧ pcrGen (Cr.run 2 4 ((m0 2).xs, Cr.new 0) 5).2 = 1 ∧ (Cr.run 2 4 ((m0 2).xs, Cr.new 0) 5).2.code = 0 ∧ (Cr.run 2 4 ((m0 2).xs, Cr.new 0) 5).2.point = 3 := by
  refine ⟨rfl, rfl, rfl, rfl, rfl⟩
theorem made_two (w : World) : Calls Tryz.prog 7 #[.agg #[.int .i64 1, .int .i64 1, .int .i64 8, .int .i64 2, .int .i64 0, .int .i64 1]] w fun e w' => ∃ l : Lie, e = .returned (.tuple #[.pointer (some ⟨l.p, 0, none⟩), .pointer (some ⟨l.q, 0, none⟩), .pointer (some ⟨l.k, 0, none⟩)]) ∧ Twin w w' l 2 (m0 2) := made_any (n := 2) (by decide) (by decide) w
set_option maxHeartbeats 4000000 in
theorem first11 (w : World) : Calls Tryz.prog 6 #[] w fun e w' => e = .returned (.bool true) ∧ Up w w' := by
  have HE := Lib.hid fst_k
  have HC := Lib.hid fst_c
  go_enter Tryz.func6, Tryz.ntmps6
  go_wp2_with (first
    | (go_at_call 7; refine (made_two _).mono ?_; rintro e w1 ⟨l, rfl, T1⟩; have HT := Lib.hid T1.sole; clear T1)
    | (go_at_call 28; refine (crNew HT.out.roo 0).mono ?_; rintro e w2 ⟨b, rb, rfl, M1, b1, b2, U1⟩; have HA := Lib.hid (CrAt.new (cls := 0) (HT.out.ups U1) M1 (Nat.le_trans HT.out.up.size b1) (Nat.le_trans HT.out.up.size b2)); clear M1 b1 b2 U1))
  go_loopw [5] (fun i wr => CrRel w l 2 (m0 2).xs 0 (m0 2).c b rb 5 i wr) (fun i _ => 5 - (intOf i).toNat)
  case atStart => exact ⟨0, by decide, rfl, _, _, HA.out⟩
  case round =>
    obtain ⟨j, hj, rfl, sj, vj, A⟩ := hrel
    have HAj := Lib.hid A
    clear A
    have i0 : (0 : Int) ≤ (j : Int) := Int.natCast_nonneg _
    by_cases hlt : j < 5
    · have i1 : (j : Int) < 5 := by omega
      go_wp2_with (first
        | (go_at_call 29; refine (HAj.out.once (by omega)).mono ?_; rintro e w2 ⟨y2, s2, v2, rfl, A2⟩; have HA2 := Lib.hid A2; clear A2))
      go_roundw
      case rel => exact ⟨j + 1, by omega, by go_num, s2, v2, HA2.out⟩
      case measure => simp [intOf]; omega
    · have i1 : ¬ (j : Int) < 5 := by omega
      have ej : j = 5 := by omega
      subst ej
      have HM := Lib.hid HAj.out.mach
      obtain ⟨hf, hs, hg, hcd, hpt⟩ := HE.out
      have HF := Lib.hid hf
      have HS := Lib.hid hs
      have HG := Lib.hid hg
      have HD := Lib.hid hcd
      have HPT := Lib.hid hpt
      have HN := Lib.hid (show sj.c = 5 by rw [HAj.out.cn, HC.out])
      clear hf hs hg hcd hpt
      go_wp2_with (first
        | (go_at_call 30; (with_reducible refine (crRegion HM.out HF.out HS.out HG.out).mono ?_); rintro e w3 ⟨rfl, U3⟩; have HM3 := Lib.hid (HM.out.up U3); have HS3 := Lib.hid (HAj.out.sole.ups U3); clear U3)
        | (go_at_call 31; (with_reducible refine (crDone HM3.out HF.out).mono ?_); rintro e w4 ⟨rfl, rfl⟩)
        | (go_at_call 32; (with_reducible refine (crCode HM3.out HD.out).mono ?_); rintro e w4 ⟨rfl, rfl⟩)
        | (go_at_call 33; (with_reducible refine (crPoint HM3.out HPT.out).mono ?_); rintro e w4 ⟨rfl, rfl⟩)
        | (go_at_call 27; (with_reducible refine (count_to HS3.out.roo.env.mem HN.out).mono ?_); rintro e w4 ⟨rfl, rfl⟩))
      go_ret
      exact ⟨rfl, HS3.out.up⟩
end
end Go.Proofs.YtalglhgngedjoaaGreat

/-
  Package roots: a Look, told by plain data (Lk): Step, Done, Code, Off; it begins.
-/
namespace Go.Proofs.YtalglhgngedjoaaGreat
open Go.RowKit
open W64
set_option maxRecDepth 100000
def lkNx (b : Nat) (K : Lk) : Value := if K.fin = true then .nilFunc else meth 58 b
def lkRow (b q r0 : Nat) (K : Lk) : Array Value := #[lkNx b K, .int .i64 (if K.fin = true then 1 else 0), .pointer (some ⟨q, 0, none⟩), .int .i64 ((r0 + K.slot : Nat) : Int), .int .i64 K.gen, .int .i64 K.off, .int .i64 K.code]
structure LkM (w : World) (b q r0 : Nat) (K : Lk) : Prop where
  row : Whole w b 117 (lkRow b q r0 K)
section
variable {w0 w w' : World} {q p g qs r0 n b : Nat} {c : Cf} {s : St} {K : Lk}
theorem LkM.else (L : LkM w b q r0 K) {x : List Nat} (u : Else x w w') (h : b ∉ x) : LkM w' b q r0 K := ⟨u.whole L.row h⟩
theorem LkM.up (L : LkM w b q r0 K) (u : Up w w') : LkM w' b q r0 K := ⟨L.row.up u⟩
theorem LkM.next (L : LkM w b q r0 K) : w.cell? ⟨b, 0, none⟩ = some (lkNx b K) := L.row.cell rfl
set_option maxHeartbeats 2000000 in
theorem look_load {nx : Value} {st a gen off code ro : Int} {lv : Bool} {j : Nat} (O : Ox w0 b q p g 117 #[nx, .int .i64 st, .pointer (some ⟨q, 0, none⟩), .int .i64 a, .int .i64 gen, .int .i64 off, .int .i64 code] (rooRow c p qs) s w) (ha : a = (j : Int)) (hj : j < s.xs.length) (ok : s.Ok)
    (hlv : liveB (rtOf (s.xs.getD j 0)).g (rtOf (s.xs.getD j 0)).m gen = lv) (hro : (rtOf (s.xs.getD j 0)).o = ro) :
    Calls Tryz.prog 58 #[.pointer (some ⟨b, 0, none⟩)] w fun e w' => e = .returned (.tuple #[]) ∧ Ox w0 b q p g 117 #[.nilFunc, .int .i64 st, .pointer (some ⟨q, 0, none⟩), .int .i64 a, .int .i64 gen, .int .i64 (if lv = true then ro else off), .int .i64 (if lv = true then code else 3)] (rooRow c p qs) (s.hit 1 (j : Int) (s.get (j : Int)) true) w' := by
  have hw := ok.words j
  obtain ⟨x, hx⟩ : ∃ x, s.xs.getD j 0 = x := ⟨_, rfl⟩
  rw [hx] at hlv hro hw
  obtain ⟨rg, hrg⟩ : ∃ y, (rtOf x).g = y := ⟨_, rfl⟩
  obtain ⟨rm, hrm⟩ : ∃ y, (rtOf x).m = y := ⟨_, rfl⟩
  obtain ⟨rc, hrc⟩ : ∃ y, (rtOf x).c = y := ⟨_, rfl⟩
  rw [hrg, hrm] at hlv
  have HA := Lib.hid ha
  have HJ := Lib.hid hj
  have HX := Lib.hid hx
  have HW := Lib.hid hw
  have H4 := Lib.hid (And.intro hrg (And.intro hrm (And.intro hrc hro)))
  have H5 := Lib.hid hlv
  have c2 := O.hb.cell (i := 2) rfl
  have c3 := O.hb.cell (i := 3) rfl
  have k0 := O.hq.cell (i := 0) (v := .pointer (some ⟨p, 0, none⟩)) rfl
  have HO := Lib.hid O
  clear O ha hj hx hw hrg hrm hrc hro hlv ok
  go_enter Tryz.func58, Tryz.ntmps58
  go_upto_region 0 with fail
  go_region_held3 (fun w' => w'.cell? ⟨b, 2, none⟩ = some (.pointer (some ⟨q, 0, none⟩)) ∧ w'.cell? ⟨b, 3, none⟩ = some (.int .i64 a) ∧ w'.cell? ⟨q, 0, none⟩ = some (.pointer (some ⟨p, 0, none⟩)))
    ((first | exact ⟨HO2.out.hb.cell rfl, HO2.out.hb.cell rfl, HO2.out.hq.cell rfl⟩ | exact ⟨c2, c3, k0⟩))
    (first
      | (go_at_call 100; refine (loadj_to HA.out (HO.out.up (up_drew w)).hm HJ.out HX.out).mono ?_; rintro e w2 ⟨rfl, M2, E2⟩; have HO2 := Lib.hid ((HO.out.up (up_drew w)).turn M2 E2); clear M2 E2))
  clear c2 c3 k0
  go_upto_region 2 with (first
    | (go_at_call 55; refine (getRoot_to HW.out.1 HW.out.2 H4.out.1 H4.out.2.1 H4.out.2.2.1 H4.out.2.2.2 _).mono ?_; rintro e w3 ⟨rfl, U3⟩; have HO3 := Lib.hid (HO2.out.up U3); clear U3))
  have HO4 := Lib.hid (HO3.out.up (Up.alloc w3 (.cells #[.int .i64 rg, .int .i64 rm, .int .i64 rc, .int .i64 ro] 67)))
  have HV4 := Lib.hid (Whole.new w3 67 #[.int .i64 rg, .int .i64 rm, .int .i64 rc, .int .i64 ro])
  obtain ⟨d, hd⟩ : ∃ d, w3.heap.size = d := ⟨_, rfl⟩
  rw [hd] at HV4 ⊢
  clear hd
  generalize w3.alloc (.cells #[.int .i64 rg, .int .i64 rm, .int .i64 rc, .int .i64 ro] 67) = w4 at *
  have v0 := cell_class (HV4.out.cell (i := 0) rfl)
  have v1 := cell_class (HV4.out.cell (i := 1) rfl)
  have v2 := cell_class (HV4.out.cell (i := 2) rfl)
  have v3 := cell_class (HV4.out.cell (i := 3) rfl)
  have c4 := cell_class (HO4.out.hb.cell (i := 4) rfl)
  refine wp_region_up (Up.refl w4) (by kernel_rfl) (by kernel_rfl) ?_
  repeat (go_big_quiet_step (first
    | (go_at_call 101; (with_reducible exact up_class (live_to H5.out _)))))
  refine wpQuiet_nil ?_
  rintro _ ⟨y5, rfl⟩
  have HO5 := Lib.hid (HO4.out.up y5.up)
  have HV5 := Lib.hid (HV4.out.up y5.up)
  clear v0 v1 v2 v3 c4
  generalize y5.w = w5 at *
  have v3 := HV5.out.cell (i := 3) rfl
  have q0 := HO5.out.hb.cell (i := 0) rfl
  have q5 := HO5.out.hb.cell (i := 5) rfl
  have q6 := HO5.out.hb.cell (i := 6) rfl
  have h0 := HO5.out.hb.frozen 0
  have h5 := HO5.out.hb.frozen 5
  have h6 := HO5.out.hb.frozen 6
  cases lv
  · go_wp2_with fail
    go_end0
    exact ⟨rfl, (HO5.out.put 6 (.int .i64 3)).put 0 .nilFunc⟩
  · go_wp2_with fail
    go_end0
    exact ⟨rfl, (HO5.out.put 5 (.int .i64 ro)).put 0 .nilFunc⟩
theorem lkStep (R : Roo w q p g qs c r0 n s) (L : LkM w b q r0 K) (hs : K.slot < n) (hf : K.fin = false) :
    Calls Tryz.prog 18 #[.pointer (some ⟨b, 0, none⟩)] w fun e w' => e = .returned (.bool true) ∧ POut w q p g qs c r0 n s s.xs [b] (fun w' => LkM w' b q r0 (K.go r0 s.xs)) w' := by
  obtain ⟨slot, gen, off, code, fin⟩ := K
  dsimp only at hf hs
  subst hf
  have hq := L.row.ne_type R.env.stk (by decide)
  have O := R.ox L.row (by decide) (by decide) (by decide)
  unfold lkRow lkNx at O
  simp only [Bool.false_eq_true, if_false] at O
  have c0 := O.hb.cell (i := 0) rfl
  have c1 := O.hb.cell (i := 1) rfl
  have hj := (R.at hs).2
  refine (step_look_loadRoot c0 c1 (O.hb.frozen 1) (by decide) (by decide) (look_load (O.put 1 (.int .i64 (0 + 1))) rfl hj R.env.ok rfl rfl)).mono ?_
  rintro e w' ⟨rfl, O2⟩
  refine ⟨rfl, ?_⟩
  have H := O2.out (M := fun w' => LkM w' b q r0 (Lk.go r0 s.xs ⟨slot, gen, off, code, false⟩)) R hq rfl (R.env.ok.hit _ _ _ (R.env.ok _).1 (R.env.ok _).2) (hit_len _ _ _ _ _) ?_
  · rw [read_xs] at H; exact H
  · refine ⟨?_⟩
    have hb := O2.hb
    unfold lkRow lkNx Lk.go Lk.live
    dsimp only
    split
    · rename_i h
      rw [if_pos h, if_pos h] at hb
      exact hb
    · rename_i h
      rw [if_neg h, if_neg h] at hb
      exact hb
theorem lkDone (L : LkM w b q r0 K) {y : Bool} (h : K.fin = y) : Calls Tryz.prog 19 #[.pointer (some ⟨b, 0, none⟩)] w fun e w' => e = .returned (.bool y) ∧ w = w' := by
  have c0 := L.next
  unfold lkNx at c0
  subst h
  cases hf : K.fin
  · rw [hf, if_neg (by decide)] at c0; exact lookDone_no c0
  · rw [hf, if_pos rfl] at c0; exact lookDone_yes c0
theorem lkCode (L : LkM w b q r0 K) {y : Int} (h : K.code = y) : Calls Tryz.prog 20 #[.pointer (some ⟨b, 0, none⟩)] w fun e w' => e = .returned (.int .i64 y) ∧ w = w' := by
  have c6 := L.row.cell (i := 6) (v := .int .i64 K.code) rfl
  rw [h] at c6
  clear L
  go_enter Tryz.func20, Tryz.ntmps20
  go_wp2_with fail
  go_ret
  exact ⟨rfl, rfl⟩
theorem lkOff (L : LkM w b q r0 K) {y : Int} (h : K.off = y) : Calls Tryz.prog 45 #[.pointer (some ⟨b, 0, none⟩)] w fun e w' => e = .returned (.int .i64 y) ∧ w = w' := by
  have c6 := L.row.cell (i := 5) (v := .int .i64 K.off) rfl
  rw [h] at c6
  clear L
  go_enter Tryz.func45, Tryz.ntmps45
  go_wp2_with fail
  go_ret
  exact ⟨rfl, rfl⟩
set_option maxHeartbeats 1000000 in
theorem lkNew (R : Roo w q p g qs c r0 n s) {k : Nat} (h : k < n) (gen : Int) :
    Calls Tryz.prog 17 #[.pointer (some ⟨q, 0, none⟩), .int .i64 (k : Int), .int .i64 gen] w fun e w' => ∃ b, e = .returned (.tuple #[.pointer (some ⟨b, 0, none⟩), .int .i64 0]) ∧ LkM w' b q r0 (Lk.new k gen) ∧ w.heap.size ≤ b ∧ Up w w' := by
  have HH := Lib.hid (has_yes R (k := (k : Int)) (by omega) (by omega))
  have k1 := R.obj.cell (i := 1) (v := .int .i64 c.wk) rfl
  have k2 := R.obj.cell (i := 2) (v := .int .i64 c.ch) rfl
  have k3 := R.obj.cell (i := 3) (v := .int .i64 c.wo) rfl
  have k4 := R.obj.cell (i := 4) (v := .int .i64 c.sl) rfl
  have k5 := R.obj.cell (i := 5) (v := .int .i64 c.ca) rfl
  have k6 := R.obj.cell (i := 6) (v := .int .i64 c.ba) rfl
  have HR := Lib.hid (R.at h).1
  have hf := run_func
  clear R
  go_enter Tryz.func17, Tryz.ntmps17
  go_wp2_with (first
    | (go_at_call 57; refine HH.out.mono ?_; rintro e w2 ⟨rfl, rfl⟩)
    | (go_at_call 56; refine (root_is HR.out _).mono ?_; rintro e w2 ⟨rfl, U2⟩; have HU2 := Lib.hid U2; clear U2))
  go_ret2
  refine ⟨_, rfl, ⟨?_⟩, HU2.out.size, ?_⟩
  · exact Whole.new w2 117 (lkRow w2.heap.size q r0 (Lk.new k gen))
  · exact HU2.out.then_alloc _
theorem lkNew_no (R : Roo w q p g qs c r0 n s) {k : Int} (h : ¬ (0 ≤ k ∧ k < n)) (gen : Int) :
    Calls Tryz.prog 17 #[.pointer (some ⟨q, 0, none⟩), .int .i64 k, .int .i64 gen] w fun e w' => e = .returned (.tuple #[.pointer none, .int .i64 1]) ∧ w = w' := by
  have HH := Lib.hid (has_no R h)
  clear R h
  go_enter Tryz.func17, Tryz.ntmps17
  go_wp2_with (go_at_call 57; refine HH.out.mono ?_; rintro e w2 ⟨rfl, rfl⟩)
  go_ret2
  exact ⟨rfl, rfl⟩
end
end Go.Proofs.YtalglhgngedjoaaGreat
