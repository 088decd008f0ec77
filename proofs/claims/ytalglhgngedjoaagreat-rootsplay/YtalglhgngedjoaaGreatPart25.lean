/-
  Texts beneath RootsPlay, part 25: RtRun, Updates.
-/
import Derived.Test.YtalglhgngedjoaaGreatPart24
/-
  One alone over the slots, run to the end, told against the world at the call (nothing but the memory has turned): the statements' own creates and ends.
-/
namespace Go.Proofs.YtalglhgngedjoaaGreat
open Go.RowKit
open W64
set_option maxRecDepth 100000
section
variable {w0 w w' : World} {q p g qs r0 n b rb : Nat} {c : Cf} {s s' : St} {v : Value} {xs0 xs : List Int} {cls gen : Int} {own : List Nat} {M : World → Prop} {K : Ed} {U : Pu} {k j : Nat}
/-- New blocks are nobody's. -/
theorem Else.shed {t own : List Nat} {a : World} (h : Else t a w) (u : Else (own ++ t) w w') (ho : ∀ k ∈ own, a.heap.size ≤ k) : Else t a w' :=
  ⟨u.os.trans h.os, u.tape.trans h.tape, u.output.trans h.output, Nat.le_trans h.size u.size, fun k hk hs => (u.block k (Nat.lt_of_lt_of_le hk h.size) (fun hm => by
    rcases List.mem_append.1 hm with hm | hm
    · have := ho k hm; omega
    · exact hs hm)).trans (h.block k hk hs)⟩
/-- The slots, and that nothing but the memory has turned since w0. -/
structure Ov (w0 w : World) (q p g qs : Nat) (c : Cf) (r0 n : Nat) (s : St) : Prop where
  roo : Roo w q p g qs c r0 n s
  el : Else [p, g] w0 w
theorem Ov.new (R : Roo w q p g qs c r0 n s) : Ov w w q p g qs c r0 n s := ⟨R, Else.refl _ _⟩
theorem Ov.ups (T : Ov w0 w q p g qs c r0 n s) (u : Up w w') : Ov w0 w' q p g qs c r0 n s := ⟨T.roo.up u, T.el.up u⟩
theorem Ov.went (T : Ov w0 w q p g qs c r0 n s) (H : POut w q p g qs c r0 n s xs own M w') (ho : ∀ k ∈ own, w0.heap.size ≤ k) : ∃ s', s'.xs = xs ∧ Ov w0 w' q p g qs c r0 n s' ∧ M w' := by
  obtain ⟨s', _, h2, h3, h4, h5⟩ := H
  exact ⟨s', h2, ⟨h3, T.el.shed h5 ho⟩, h4⟩
/-! ### Create -/
structure CrOv (w0 w : World) (q p g qs : Nat) (c : Cf) (r0 n : Nat) (xs0 : List Int) (cls : Int) (b rb j : Nat) (s : St) (v : Value) : Prop where
  ov : Ov w0 w q p g qs c r0 n s
  xs : s.xs = (Cr.run n r0 (xs0, Cr.new cls) j).1
  mach : CrM w b rb q qs n v (Cr.run n r0 (xs0, Cr.new cls) j).2
  hb : w0.heap.size ≤ b
  hrb : w0.heap.size ≤ rb
  hv : ∀ k, v.ownBlock = some k → w0.heap.size ≤ k
  st : (Cr.run n r0 (xs0, Cr.new cls) j).2.steps ≤ j
theorem CrOv.once (H : CrOv w0 w q p g qs c r0 n xs0 cls b rb j s v) (hj : j ≤ 1000) :
    Calls Tryz.prog 29 #[.pointer (some ⟨b, 0, none⟩)] w fun e w' => ∃ y s' v', e = .returned (.bool y) ∧ CrOv w0 w' q p g qs c r0 n xs0 cls b rb (j + 1) s' v' := by
  obtain ⟨T, hx, M, hb, hrb, hv, hst⟩ := H
  have er : Cr.run n r0 (xs0, Cr.new cls) (j + 1) = Cr.step n r0 (Cr.run n r0 (xs0, Cr.new cls) j) := rfl
  by_cases hf : (Cr.run n r0 (xs0, Cr.new cls) j).2.fin = true
  · refine (crStep_no M hf).mono ?_
    rintro e w' ⟨rfl, rfl⟩
    have e1 : Cr.run n r0 (xs0, Cr.new cls) (j + 1) = Cr.run n r0 (xs0, Cr.new cls) j := by rw [er]; unfold Cr.step; rw [if_pos hf]
    exact ⟨_, s, v, rfl, ⟨T, by rw [e1]; exact hx, by rw [e1]; exact M, hb, hrb, hv, by rw [e1]; omega⟩⟩
  · have hf' : (Cr.run n r0 (xs0, Cr.new cls) j).2.fin = false := by simpa using hf
    refine (crStep T.roo M hf' (by omega)).mono ?_
    rintro e w' ⟨rfl, v', N, H⟩
    obtain ⟨s', h2, h3, h4⟩ := T.went H (by
      intro k hk
      simp at hk
      rcases hk with rfl | rfl | hk
      · exact hb
      · exact hrb
      · exact hv k hk)
    have e1 : Cr.run n r0 (xs0, Cr.new cls) (j + 1) = ((Cr.run n r0 (xs0, Cr.new cls) j).2.xs r0 s.xs, (Cr.run n r0 (xs0, Cr.new cls) j).2.go n r0 s.xs) := by rw [er]; unfold Cr.step; rw [if_neg hf, ← hx]
    refine ⟨_, s', v', rfl, ⟨h3, by rw [e1]; exact h2, by rw [e1]; exact h4, hb, hrb, ?_, by rw [e1]; dsimp only; rw [Cr.go_steps]; omega⟩⟩
    intro k hk
    rcases N with e | e | ⟨r, e, hr⟩
    · rw [e] at hk; exact hv k hk
    · rw [e] at hk; cases hk
    · rw [e] at hk; injection hk with hk; subst hk; exact Nat.le_trans T.el.size hr
theorem CrOv.new (T : Ov w0 w q p g qs c r0 n s) (M : CrM w b rb q qs n (.slice none 0 0) (Cr.new cls)) (hb : w0.heap.size ≤ b) (hrb : w0.heap.size ≤ rb) : CrOv w0 w q p g qs c r0 n s.xs cls b rb 0 s (.slice none 0 0) :=
  ⟨T, rfl, M, hb, hrb, by simp [Value.ownBlock], Nat.le_refl _⟩
def CrvRel (w0 : World) (q p g qs : Nat) (c : Cf) (r0 n : Nat) (xs0 : List Int) (cls : Int) (b rb J : Nat) (i : Value) (wr : World) : Prop := ∃ j : Nat, j ≤ J ∧ i = .int .i64 j ∧ ∃ s v, CrOv w0 wr q p g qs c r0 n xs0 cls b rb j s v
/-- What is left: cells xs'. -/
structure Lft (w0 w' : World) (q p g qs : Nat) (c : Cf) (r0 n : Nat) (xs' : List Int) : Prop where
  out : ∃ s', s'.xs = xs' ∧ Ov w0 w' q p g qs c r0 n s'
set_option maxHeartbeats 4000000 in
theorem creates_ov (R : Roo w q p g qs c r0 n s) (a : Int) (hc : cutC a = cls) {xs' : List Int} {K' : Cr} (hK : Cr.run n r0 (s.xs, Cr.new cls) 10 = (xs', K')) (hf : K'.fin = true) {sl : Nat} {gg cd : Int} {y : Bool} (hs : K'.slot = sl) (hg : pcrGen K' = gg) (hcd : K'.code = cd) (hy : (cd == 0) = y) :
    Calls Tryz.prog 14 #[.pointer (some ⟨q, 0, none⟩), .int .i64 a] w fun e w' => e = .returned (.tuple #[.int .i64 (sl : Int), .int .i64 gg, .bool y]) ∧ Lft w w' q p g qs c r0 n xs' := by
  have HT := Lib.hid (Ov.new R)
  have HC := Lib.hid hc
  have HK := Lib.hid hK
  have HE := Lib.hid (And.intro hf (And.intro hs (And.intro hg hcd)))
  clear R hc hK hf hs hg hcd
  go_enter Tryz.func14, Tryz.ntmps14
  go_wp2_with (first
    | (go_at_call 28; refine (crNew HT.out.roo a).mono ?_; rintro e w1 ⟨b, rb, rfl, M1, b1, b2, U1⟩; rw [HC.out] at M1; have HA := Lib.hid (CrOv.new (HT.out.ups U1) M1 b1 b2); clear M1 b1 b2 U1))
  go_loopw [8] (fun i wr => CrvRel w q p g qs c r0 n s.xs cls b rb 10 i wr) (fun i _ => 10 - (intOf i).toNat)
  case atStart => exact ⟨0, by decide, rfl, s, _, HA.out⟩
  case round =>
    obtain ⟨j, hj, rfl, sj, vj, A⟩ := hrel
    have HAj := Lib.hid A
    clear A
    have i0 : (0 : Int) ≤ (j : Int) := Int.natCast_nonneg _
    by_cases hlt : j < 10
    · have i1 : (j : Int) < 10 := by omega
      go_wp2_with (first
        | (go_at_call 29; refine (HAj.out.once (by omega)).mono ?_; rintro e w2 ⟨y2, s2, v2, rfl, A2⟩; have HA2 := Lib.hid A2; clear A2))
      go_roundw
      case rel => exact ⟨j + 1, by omega, by go_num, s2, v2, HA2.out⟩
      case measure => simp [intOf]; omega
    · have i1 : ¬ (j : Int) < 10 := by omega
      have ej : j = 10 := by omega
      subst ej
      have M := HAj.out.mach
      rw [HK.out] at M
      have HM := Lib.hid M
      have HX := Lib.hid (show sj.xs = xs' by rw [HAj.out.xs, HK.out])
      obtain ⟨hf, hs, hg, hcd⟩ := HE.out
      have HF := Lib.hid hf
      clear M hf
      go_wp2_with (first
        | (go_at_call 30; (with_reducible refine (crRegion HM.out HF.out hs hg).mono ?_); rintro e w3 ⟨rfl, U3⟩; have HM3 := Lib.hid (HM.out.up U3); have HS3 := Lib.hid (HAj.out.ov.ups U3); clear U3)
        | (go_at_call 31; (with_reducible refine (crDone HM3.out HF.out).mono ?_); rintro e w4 ⟨rfl, rfl⟩)
        | (go_at_call 32; (with_reducible refine (crCode HM3.out hcd).mono ?_); rintro e w4 ⟨rfl, rfl⟩))
      go_ret3
      exact ⟨rfl, ⟨sj, HX.out, HS3.out⟩⟩
/-! ### End, Push -/
theorem Ed.go_steps (r0 : Nat) (xs : List Int) (K : Ed) : (K.go r0 xs).steps = K.steps + 1 := by
  unfold Ed.go
  repeat (first | rfl | split)
theorem Ed.go_slot (r0 : Nat) (xs : List Int) (K : Ed) : (K.go r0 xs).slot = K.slot := by
  unfold Ed.go
  repeat (first | rfl | split)
structure EdOv (w0 w : World) (q p g qs : Nat) (c : Cf) (r0 n : Nat) (xs0 : List Int) (k : Nat) (gen : Int) (b j : Nat) (s : St) : Prop where
  ov : Ov w0 w q p g qs c r0 n s
  xs : s.xs = (Ed.run r0 (xs0, Ed.new k gen) j).1
  mach : EdM w b q r0 (Ed.run r0 (xs0, Ed.new k gen) j).2
  hb : w0.heap.size ≤ b
  hk : (Ed.run r0 (xs0, Ed.new k gen) j).2.slot < n
  st : (Ed.run r0 (xs0, Ed.new k gen) j).2.steps ≤ j
theorem EdOv.once (H : EdOv w0 w q p g qs c r0 n xs0 k gen b j s) (hj : j ≤ 1000) :
    Calls Tryz.prog 38 #[.pointer (some ⟨b, 0, none⟩)] w fun e w' => ∃ y s', e = .returned (.bool y) ∧ EdOv w0 w' q p g qs c r0 n xs0 k gen b (j + 1) s' := by
  obtain ⟨T, hx, M, hb, hk, hst⟩ := H
  have er : Ed.run r0 (xs0, Ed.new k gen) (j + 1) = Ed.step r0 (Ed.run r0 (xs0, Ed.new k gen) j) := rfl
  by_cases hf : (Ed.run r0 (xs0, Ed.new k gen) j).2.fin = true
  · refine (edStep_no M hf).mono ?_
    rintro e w' ⟨rfl, rfl⟩
    have e1 : Ed.run r0 (xs0, Ed.new k gen) (j + 1) = Ed.run r0 (xs0, Ed.new k gen) j := by rw [er]; unfold Ed.step; rw [if_pos hf]
    exact ⟨_, s, rfl, ⟨T, by rw [e1]; exact hx, by rw [e1]; exact M, hb, by rw [e1]; exact hk, by rw [e1]; omega⟩⟩
  · have hf' : (Ed.run r0 (xs0, Ed.new k gen) j).2.fin = false := by simpa using hf
    refine (edStep T.roo M hk hf' (by omega)).mono ?_
    rintro e w' ⟨rfl, H⟩
    obtain ⟨s', h2, h3, h4⟩ := T.went H (by
      intro k hk
      simp at hk
      subst hk; exact hb)
    have e1 : Ed.run r0 (xs0, Ed.new k gen) (j + 1) = ((Ed.run r0 (xs0, Ed.new k gen) j).2.xs r0 s.xs, (Ed.run r0 (xs0, Ed.new k gen) j).2.go r0 s.xs) := by rw [er]; unfold Ed.step; rw [if_neg hf, ← hx]
    exact ⟨_, s', rfl, ⟨h3, by rw [e1]; exact h2, by rw [e1]; exact h4, hb, by rw [e1]; dsimp only; rw [Ed.go_slot]; exact hk, by rw [e1]; dsimp only; rw [Ed.go_steps]; omega⟩⟩
theorem PuM.off (E : PuM w b qs n v U) {t : TypeId} {cs : Array Value} {d : Nat} (B : Whole w d t cs) (h1 : 151 ≠ t) (h2 : 3 ≠ t) : b ≠ d ∧ v.ownBlock ≠ some d :=
  ⟨E.at_.top.ne_type B h1, E.at_.row.nb B h2⟩
theorem PuM.apart (E : PuM w b qs n v U) (R : Roo w q p g qs c r0 n s) : Apart b p g qs v := by
  obtain ⟨a1, a2⟩ := E.off R.env.mem.top (by decide) (by decide)
  obtain ⟨b1, b2⟩ := E.off R.env.mem.row (by decide) (by decide)
  obtain ⟨c1, c2⟩ := E.off R.env.stk (by decide) (by decide)
  exact ⟨a1, b1, c1, a2, b2, c2⟩
/-- A Step of a Push of slots. -/
theorem rtPush (R : Roo w q p g qs c r0 n s) (E : PuM w b qs n v U) (hf : U.fin = false) :
    Calls Tryz.prog 46 #[.pointer (some ⟨b, 0, none⟩)] w fun e w' => e = .returned (.bool true) ∧ POut w q p g qs c r0 n s (U.xs n 1 (r0 + n) s.xs) (b :: v.ownBlock.toList) (fun w' => PuM w' b qs n v (U.go 1 s.xs)) w' := by
  refine (puStep R.env (E.apart R) E hf).mono ?_
  rintro e w' ⟨rfl, s', hc, hx, E2, M2, U2⟩
  obtain ⟨d1, d2⟩ := E.off R.obj (by decide) (by decide)
  refine ⟨rfl, s', hc, hx, ⟨U2.whole R.obj ?_, E2, R.may, R.hr, R.hn⟩, M2, U2⟩
  simp [R.qp, R.qg, d1.symm]; exact d2
structure PuOv (w0 w : World) (q p g qs : Nat) (c : Cf) (r0 n : Nat) (xs0 : List Int) (U0 : Pu) (b j : Nat) (v : Value) (s : St) : Prop where
  ov : Ov w0 w q p g qs c r0 n s
  xs : s.xs = (Pu.run n 1 (r0 + n) (xs0, U0) j).1
  mach : PuM w b qs n v (Pu.run n 1 (r0 + n) (xs0, U0) j).2
  hb : w0.heap.size ≤ b
  hv : ∀ k, v.ownBlock = some k → w0.heap.size ≤ k
theorem PuOv.once {U0 : Pu} (H : PuOv w0 w q p g qs c r0 n xs0 U0 b j v s) :
    Calls Tryz.prog 46 #[.pointer (some ⟨b, 0, none⟩)] w fun e w' => ∃ y s', e = .returned (.bool y) ∧ PuOv w0 w' q p g qs c r0 n xs0 U0 b (j + 1) v s' := by
  obtain ⟨T, hx, M, hb, hv⟩ := H
  have er : Pu.run n 1 (r0 + n) (xs0, U0) (j + 1) = Pu.step n 1 (r0 + n) (Pu.run n 1 (r0 + n) (xs0, U0) j) := rfl
  by_cases hf : (Pu.run n 1 (r0 + n) (xs0, U0) j).2.fin = true
  · refine (pushStep_no M hf).mono ?_
    rintro e w' ⟨rfl, rfl⟩
    have e1 : Pu.run n 1 (r0 + n) (xs0, U0) (j + 1) = Pu.run n 1 (r0 + n) (xs0, U0) j := by rw [er]; unfold Pu.step; rw [if_pos hf]
    exact ⟨_, s, rfl, ⟨T, by rw [e1]; exact hx, by rw [e1]; exact M, hb, hv⟩⟩
  · have hf' : (Pu.run n 1 (r0 + n) (xs0, U0) j).2.fin = false := by simpa using hf
    refine (rtPush T.roo M hf').mono ?_
    rintro e w' ⟨rfl, H⟩
    obtain ⟨s', h2, h3, h4⟩ := T.went H (by
      intro k hk
      simp at hk
      rcases hk with rfl | hk
      · exact hb
      · exact hv k hk)
    have e1 : Pu.run n 1 (r0 + n) (xs0, U0) (j + 1) = ((Pu.run n 1 (r0 + n) (xs0, U0) j).2.xs n 1 (r0 + n) s.xs, (Pu.run n 1 (r0 + n) (xs0, U0) j).2.go 1 s.xs) := by rw [er]; unfold Pu.step; rw [if_neg hf, ← hx]
    exact ⟨_, s', rfl, ⟨h3, by rw [e1]; exact h2, by rw [e1]; exact h4, hb, hv⟩⟩
def EdvRel (w0 : World) (q p g qs : Nat) (c : Cf) (r0 n : Nat) (xs0 : List Int) (k : Nat) (gen : Int) (b : Nat) (i : Value) (wr : World) : Prop := ∃ j : Nat, j ≤ 5 ∧ i = .int .i64 j ∧ ∃ s, EdOv w0 wr q p g qs c r0 n xs0 k gen b j s
def PuvRel (w0 : World) (q p g qs : Nat) (c : Cf) (r0 n : Nat) (xs0 : List Int) (U0 : Pu) (b : Nat) (v : Value) (i : Value) (wr : World) : Prop := ∃ j : Nat, j ≤ 5 ∧ i = .int .i64 j ∧ ∃ s, PuOv w0 wr q p g qs c r0 n xs0 U0 b j v s
set_option maxHeartbeats 4000000 in
theorem ends_stale (R : Roo w q p g qs c r0 n s) (hk : k < n) {K' : Ed} {xs' : List Int} (hK : Ed.run r0 (s.xs, Ed.new k gen) 5 = (xs', K')) (hf : K'.fin = true) (hcd : K'.code = 3) :
    Calls Tryz.prog 16 #[.pointer (some ⟨q, 0, none⟩), .int .i64 (k : Int), .int .i64 gen] w fun e w' => e = .returned (.bool false) ∧ Lft w w' q p g qs c r0 n xs' := by
  have HT := Lib.hid (Ov.new R)
  have HKN := Lib.hid hk
  have HK := Lib.hid hK
  have HE := Lib.hid (And.intro hf hcd)
  clear R hK hf hcd hk
  go_enter Tryz.func16, Tryz.ntmps16
  go_wp2_with (first
    | (go_at_call 25; refine (edNew HT.out.roo HKN.out gen).mono ?_; rintro e w1 ⟨b, rfl, M1, b1, U1⟩; have HA := Lib.hid (show EdOv w w1 q p g qs c r0 n s.xs k gen b 0 s from ⟨HT.out.ups U1, rfl, M1, b1, HKN.out, Nat.le_refl _⟩); clear M1 b1 U1))
  go_loopw [9] (fun i wr => EdvRel w q p g qs c r0 n s.xs k gen b i wr) (fun i _ => 5 - (intOf i).toNat)
  case atStart => exact ⟨0, by decide, rfl, s, HA.out⟩
  case round =>
    obtain ⟨j, hj, rfl, sj, A⟩ := hrel
    have HAj := Lib.hid A
    clear A
    have i0 : (0 : Int) ≤ (j : Int) := Int.natCast_nonneg _
    by_cases hlt : j < 5
    · have i1 : (j : Int) < 5 := by omega
      go_wp2_with (first
        | (go_at_call 38; refine (HAj.out.once (by omega)).mono ?_; rintro e w2 ⟨y2, s2, rfl, A2⟩; have HA2 := Lib.hid A2; clear A2))
      go_roundw
      case rel => exact ⟨j + 1, by omega, by go_num, s2, HA2.out⟩
      case measure => simp [intOf]; omega
    · have i1 : ¬ (j : Int) < 5 := by omega
      have ej : j = 5 := by omega
      subst ej
      have M := HAj.out.mach
      rw [HK.out] at M
      have HM := Lib.hid M
      have HX := Lib.hid (show sj.xs = xs' by rw [HAj.out.xs, HK.out])
      clear M
      go_wp2_with (first
        | (go_at_call 40; (with_reducible refine (edDone HM.out HE.out.1).mono ?_); rintro e w4 ⟨rfl, rfl⟩)
        | (go_at_call 43; (with_reducible refine (edCode HM.out HE.out.2).mono ?_); rintro e w4 ⟨rfl, rfl⟩))
      go_ret
      exact ⟨rfl, ⟨sj, HX.out, HAj.out.ov⟩⟩
set_option maxHeartbeats 4000000 in
theorem ends_fine (R : Roo w q p g qs c r0 n s) (hk : k < n) {K' : Ed} {xs' xs2 : List Int} {U' : Pu} (hK : Ed.run r0 (s.xs, Ed.new k gen) 5 = (xs', K')) (hf : K'.fin = true) (hcd : K'.code = 0) (hU : Pu.run n 1 (r0 + n) (xs', Pu.new [k]) 5 = (xs2, U')) (hu : U'.fin = true) :
    Calls Tryz.prog 16 #[.pointer (some ⟨q, 0, none⟩), .int .i64 (k : Int), .int .i64 gen] w fun e w' => e = .returned (.bool true) ∧ Lft w w' q p g qs c r0 n xs2 := by
  have HT := Lib.hid (Ov.new R)
  have HKN := Lib.hid hk
  have HK := Lib.hid hK
  have HE := Lib.hid (And.intro hf hcd)
  have HU := Lib.hid (And.intro hU hu)
  clear R hK hf hcd hk hU hu
  go_enter Tryz.func16, Tryz.ntmps16
  go_wp2_with (first
    | (go_at_call 25; refine (edNew HT.out.roo HKN.out gen).mono ?_; rintro e w1 ⟨b, rfl, M1, b1, U1⟩; have HA := Lib.hid (show EdOv w w1 q p g qs c r0 n s.xs k gen b 0 s from ⟨HT.out.ups U1, rfl, M1, b1, HKN.out, Nat.le_refl _⟩); clear M1 b1 U1))
  go_loopw [9] (fun i wr => EdvRel w q p g qs c r0 n s.xs k gen b i wr) (fun i _ => 5 - (intOf i).toNat)
  case atStart => exact ⟨0, by decide, rfl, s, HA.out⟩
  case round =>
    obtain ⟨j, hj, rfl, sj, A⟩ := hrel
    have HAj := Lib.hid A
    clear A
    have i0 : (0 : Int) ≤ (j : Int) := Int.natCast_nonneg _
    by_cases hlt : j < 5
    · have i1 : (j : Int) < 5 := by omega
      go_wp2_with (first
        | (go_at_call 38; refine (HAj.out.once (by omega)).mono ?_; rintro e w2 ⟨y2, s2, rfl, A2⟩; have HA2 := Lib.hid A2; clear A2))
      go_roundw
      case rel => exact ⟨j + 1, by omega, by go_num, s2, HA2.out⟩
      case measure => simp [intOf]; omega
    · have i1 : ¬ (j : Int) < 5 := by omega
      have ej : j = 5 := by omega
      subst ej
      have M := HAj.out.mach
      rw [HK.out] at M
      have HM := Lib.hid M
      have HX := Lib.hid (show sj.xs = xs' by rw [HAj.out.xs, HK.out])
      clear M
      go_wp2_with (first
        | (go_at_call 40; (with_reducible refine (edDone HM.out HE.out.1).mono ?_); rintro e w4 ⟨rfl, rfl⟩)
        | (go_at_call 43; (with_reducible refine (edCode HM.out HE.out.2).mono ?_); rintro e w4 ⟨rfl, rfl⟩)
        | (go_at_call 26; (with_reducible refine (rtBack HAj.out.ov.roo HKN.out).mono ?_); rintro e w5 ⟨b5, r5, cap5, rfl, M5, b51, b52, U5⟩; have HP := Lib.hid (show PuOv w w5 q p g qs c r0 n xs' (Pu.new [k]) b5 0 (.slice (some ⟨r5, 0, none⟩) 1 cap5) sj from ⟨HAj.out.ov.ups U5, HX.out, M5, Nat.le_trans HAj.out.ov.el.size b51, fun j hj => by simp [Value.ownBlock] at hj; subst hj; exact Nat.le_trans HAj.out.ov.el.size b52⟩); clear M5 b51 b52 U5))
      go_loopw [12] (fun i wr => PuvRel w q p g qs c r0 n xs' (Pu.new [k]) b5 (.slice (some ⟨r5, 0, none⟩) 1 cap5) i wr) (fun i _ => 5 - (intOf i).toNat)
      case atStart => exact ⟨0, by decide, rfl, sj, HP.out⟩
      case round =>
        obtain ⟨t, ht, rfl, st, A⟩ := hrel
        have HAt := Lib.hid A
        clear A
        have t0 : (0 : Int) ≤ (t : Int) := Int.natCast_nonneg _
        by_cases hlt2 : t < 5
        · have t1 : (t : Int) < 5 := by omega
          go_wp2_with (first
            | (go_at_call 46; refine (HAt.out.once).mono ?_; rintro e w2 ⟨y2, s2, rfl, A2⟩; have HA2 := Lib.hid A2; clear A2))
          go_roundw
          case rel => exact ⟨t + 1, by omega, by go_num, s2, HA2.out⟩
          case measure => simp [intOf]; omega
        · have t1 : ¬ (t : Int) < 5 := by omega
          have et : t = 5 := by omega
          subst et
          have M := HAt.out.mach
          rw [HU.out.1] at M
          have HM2 := Lib.hid M
          have HX2 := Lib.hid (show st.xs = xs2 by rw [HAt.out.xs, HU.out.1])
          clear M
          go_wp2_with (first
            | (go_at_call 48; (with_reducible refine (pushDone_to HM2.out HU.out.2).mono ?_); rintro e w4 ⟨rfl, rfl⟩))
          go_ret
          exact ⟨rfl, ⟨st, HX2.out, HAt.out.ov⟩⟩
end
end Go.Proofs.YtalglhgngedjoaaGreat

/-
  A function turned at one place; a sum over the first k. No program is named here.
-/
namespace Go.Proofs.YtalglhgngedjoaaGreat
open Go.RowKit
set_option maxRecDepth 100000
/-- A function turned at one place. -/
def updA {α : Type} (f : Nat → α) (i : Nat) (v : α) : Nat → α := fun j => if j = i then v else f j
theorem updA_same {α : Type} (f : Nat → α) (i : Nat) (v : α) : updA f i v i = v := by simp [updA]
theorem updA_ne {α : Type} (f : Nat → α) {i j : Nat} (v : α) (h : j ≠ i) : updA f i v j = f j := by simp [updA, h]
theorem updA_id {α : Type} (f : Nat → α) (i : Nat) : updA f i (f i) = f := by
  funext j; unfold updA; split
  · subst_vars; rfl
  · rfl
/-- A sum over the first k. -/
def sumA (f : Nat → Int) : Nat → Int
  | 0 => 0
  | k + 1 => sumA f k + f k
theorem sumA_more {f f' : Nat → Int} {u : Nat} (h : ∀ i, i ≠ u → f' i = f i) : ∀ k, u < k → sumA f' k = sumA f k + (f' u - f u)
  | 0, hk => absurd hk (Nat.not_lt_zero _)
  | k + 1, hk => by
    show sumA f' k + f' k = sumA f k + f k + (f' u - f u)
    by_cases e : u = k
    · subst e
      have : ∀ j, j ≤ u → sumA f' j = sumA f j := by
        intro j
        induction j with
        | zero => intro _; rfl
        | succ j ih => intro hj; show sumA f' j + f' j = sumA f j + f j; rw [ih (by omega), h j (by omega)]
      rw [this u (Nat.le_refl _)]; omega
    · rw [sumA_more h k (by omega), h k (fun e' => e e'.symm)]; omega
theorem sumA_same {f f' : Nat → Int} {k : Nat} (h : ∀ i, i < k → f' i = f i) : sumA f' k = sumA f k := by
  induction k with
  | zero => rfl
  | succ k ih => show sumA f' k + f' k = sumA f k + f k; rw [ih (fun i hi => h i (by omega)), h k (by omega)]
theorem sumA_const (f : Nat → Int) (c : Int) {k : Nat} (h : ∀ i, i < k → f i = c) : sumA f k = c * k := by
  induction k with
  | zero => simp [sumA]
  | succ k ih =>
    show sumA f k + f k = c * ((k + 1 : Nat) : Int)
    rw [ih (fun i hi => h i (by omega)), h k (by omega)]
    have : ((k + 1 : Nat) : Int) = (k : Int) + 1 := by omega
    rw [this, Int.mul_add, Int.mul_one]
theorem lt_of_get {α : Type} {l : List α} {i : Nat} {a : α} (h : l[i]? = some a) : i < l.length := by
  rcases Nat.lt_or_ge i l.length with h1 | h1
  · exact h1
  · rw [List.getElem?_eq_none h1] at h; cases h
theorem Else.of_grow {w w' : World} {row : Option Nat} (h : w.grownBy w' row) : Else row.toList w w' :=
  ⟨h.os, h.tape, h.output, h.size, fun k hk hs => h.block k hk (fun e => hs (by simp [← e]))⟩
end Go.Proofs.YtalglhgngedjoaaGreat
