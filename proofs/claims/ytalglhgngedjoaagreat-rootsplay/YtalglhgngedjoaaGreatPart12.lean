/-
  Texts beneath RootsPlay, part 12: RtNew.
-/
import Derived.Test.YtalglhgngedjoaaGreatPart11
/-
  Package roots: New, Fill, Root, Back.
-/
namespace Go.Proofs.YtalglhgngedjoaaGreat
open Go.RowKit
open W64
set_option maxRecDepth 100000
/-- The first k roots are laid. -/
def rootK (s : St) (r0 : Nat) : Nat → St
  | 0 => s
  | k + 1 => (rootK s r0 k).lay ((r0 + k : Nat) : Int) 0
/-- The slots filled. -/
def fillT (s : St) (r0 n : Nat) : St := rootK (fillS s 1 (r0 + n) n) r0 n
section
variable {w w' : World} {q p g qs r0 n b0 : Nat} {c : Cf} {s s' : St}
theorem rootK_len (s : St) (r0 : Nat) : ∀ k, (rootK s r0 k).xs.length = s.xs.length
  | 0 => rfl
  | k + 1 => by unfold rootK; rw [lay_len, rootK_len s r0 k]
theorem rootK_c (s : St) (r0 : Nat) : ∀ k, (rootK s r0 k).c = s.c
  | 0 => rfl
  | k + 1 => rootK_c s r0 k
theorem rootK_ok {s : St} (h : s.Ok) (r0 : Nat) : ∀ k, (rootK s r0 k).Ok
  | 0 => h
  | k + 1 => (rootK_ok h r0 k).lay _ (by decide) (by decide)
theorem fillS_len (s : St) (hd ln n : Nat) : (fillS s hd ln n).xs.length = s.xs.length := by unfold fillS; rw [lay_len, lay_len, fillK_len]
theorem fillS_c (s : St) (hd ln n : Nat) : (fillS s hd ln n).c = s.c := fillK_c s ln (n - 1)
theorem fillS_ok {s : St} (h : s.Ok) (hd ln n : Nat) (hn : n ≤ 4096) : (fillS s hd ln n).Ok :=
  ((fillK_ok h ln (n - 1) (by omega)).lay _ (by decide) (by decide)).lay _ (by decide) (by decide)
theorem fillT_len (s : St) (r0 n : Nat) : (fillT s r0 n).xs.length = s.xs.length := by unfold fillT; rw [rootK_len, fillS_len]
theorem fillT_c (s : St) (r0 n : Nat) : (fillT s r0 n).c = s.c := by unfold fillT; rw [rootK_c, fillS_c]
theorem fillT_ok {s : St} (h : s.Ok) (r0 n : Nat) (hn : n ≤ 4096) : (fillT s r0 n).Ok := rootK_ok (fillS_ok h _ _ _ hn) _ _
theorem box_cells {W : World} (B : Whole W b0 31 #[.int .i64 c.wk, .int .i64 c.ch, .int .i64 c.wo, .int .i64 c.sl, .int .i64 c.ca, .int .i64 c.ba]) (u : Up W w') : w'.cell? ⟨b0, 0, none⟩ = some (.int .i64 c.wk) ∧ w'.cell? ⟨b0, 1, none⟩ = some (.int .i64 c.ch) ∧ w'.cell? ⟨b0, 2, none⟩ = some (.int .i64 c.wo) ∧ w'.cell? ⟨b0, 3, none⟩ = some (.int .i64 c.sl) ∧ w'.cell? ⟨b0, 4, none⟩ = some (.int .i64 c.ca) ∧ w'.cell? ⟨b0, 5, none⟩ = some (.int .i64 c.ba) :=
  ⟨u.kept (B.cell rfl), u.kept (B.cell rfl), u.kept (B.cell rfl), u.kept (B.cell rfl), u.kept (B.cell rfl), u.kept (B.cell rfl)⟩
theorem rt_nums {c : Cf} {r0 n L : Nat} (hm : mayB c = true) (hr : (r0 : Int) = 3 + c.wk) (hn : (n : Int) = c.sl) (hl : lenN c ≤ (L : Int)) :
    lslotN c 0 = ((r0 + n : Nat) : Int) ∧ 1 ≤ n ∧ n ≤ 4096 ∧ r0 + 2 * n < L ∧ 4 ≤ r0 := by
  obtain ⟨h1, h2, h3, h4, h5, h6⟩ := may_small hm
  have h8 := lenN_is hm
  unfold fwN at h8
  refine ⟨?_, by omega, by omega, by omega, by omega⟩
  unfold lslotN; rw [atN_is hm (by omega) (by omega)]; omega
set_option maxHeartbeats 4000000 in
theorem rtNew (m : Mem w p g s) (ok : s.Ok) (ht : s.xs.length ≤ 8388608) (hm : mayB c = true) (hr : (r0 : Int) = 3 + c.wk) (hn : (n : Int) = c.sl) (hl : lenN c ≤ (s.xs.length : Int)) :
    Calls Tryz.prog 24 #[.pointer (some ⟨p, 0, none⟩), c.v] w fun e w' => ∃ q qs, e = .returned (.tuple #[.pointer (some ⟨q, 0, none⟩), .int .i64 0]) ∧ Roo w' q p g qs c r0 n s ∧ w.heap.size ≤ q ∧ w.heap.size ≤ qs ∧ Up w w' := by
  obtain ⟨n1, n2, n3, n4, n5⟩ := rt_nums hm hr hn hl
  have HN := Lib.hid (show newB s ((1 : Nat) : Int) ((r0 + n : Nat) : Int) c.sl from ⟨by omega, by omega, ⟨by omega, by omega⟩, ⟨by omega, by omega⟩, ⟨by omega, by omega⟩, by omega⟩)
  obtain ⟨L, hL⟩ : ∃ L : Int, lenN c = L := ⟨_, rfl⟩
  obtain ⟨N, hN⟩ : ∃ N : Int, (s.xs.length : Int) = N := ⟨_, rfl⟩
  have i1 : ¬ N < L := by omega
  have H1 := Lib.hid hm
  have H2 := Lib.hid hL
  have H3 := Lib.hid hN
  have H4 := Lib.hid n1
  have HT := Lib.hid ht
  have HM := Lib.hid m
  have HR := Lib.hid (And.intro hm (And.intro hr hn))
  have HOK := Lib.hid (And.intro ok (And.intro n2 (And.intro n3 (And.intro n4 n5))))
  clear m ok ht hm hr hn hl hL hN n1 n2 n3 n4 n5
  obtain ⟨b0, hb0⟩ : ∃ b0, w.heap.size = b0 := ⟨_, rfl⟩
  have HB0 := Lib.hid (Whole.new w 31 #[.int .i64 c.wk, .int .i64 c.ch, .int .i64 c.wo, .int .i64 c.sl, .int .i64 c.ca, .int .i64 c.ba])
  rw [hb0] at HB0
  have HU0 := Lib.hid (Up.alloc w (.cells #[.int .i64 c.wk, .int .i64 c.ch, .int .i64 c.wo, .int .i64 c.sl, .int .i64 c.ca, .int .i64 c.ba] 31))
  go_enter Tryz.func24, Tryz.ntmps24
  go_upto_region 1 with fail
  clear hb0
  generalize w.alloc (.cells #[.int .i64 c.wk, .int .i64 c.ch, .int .i64 c.wo, .int .i64 c.sl, .int .i64 c.ca, .int .i64 c.ba] 31) = w1 at *
  have HM1 := Lib.hid (HM.out.up HU0.out)
  have e0 := cell_class (HB0.out.cell (i := 0) rfl)
  have e1 := cell_class (HB0.out.cell (i := 1) rfl)
  have e2 := cell_class (HB0.out.cell (i := 2) rfl)
  have e3 := cell_class (HB0.out.cell (i := 3) rfl)
  have e4 := cell_class (HB0.out.cell (i := 4) rfl)
  have e5 := cell_class (HB0.out.cell (i := 5) rfl)
  refine wp_region_up (Up.refl w1) (by kernel_rfl) (by kernel_rfl) ?_
  repeat (go_big_quiet_step (first
    | (go_at_call 61; (with_reducible exact up_class (may_is H1.out _)))
    | (go_at_call 51; (with_reducible exact same_class (len_to (HM1.out.up (UpOf.up _)) H3.out)))
    | (go_at_call 22; (with_reducible exact up_class (len_is H2.out _)))))
  refine wpQuiet_nil ?_
  rintro _ ⟨y, rfl⟩
  have HB2 := Lib.hid (HB0.out.up y.up)
  have HM2 := Lib.hid (HM1.out.up y.up)
  have HU2 := Lib.hid (HU0.out.trans y.up)
  clear e0 e1 e2 e3 e4 e5
  generalize y.w = w2 at *
  go_upto_region 3 with fail
  have HC0 := Lib.hid (show w2.drew.cell? ⟨b0, 0, none⟩ = some (.int .i64 c.wk) ∧ w2.drew.cell? ⟨b0, 1, none⟩ = some (.int .i64 c.ch) ∧ w2.drew.cell? ⟨b0, 2, none⟩ = some (.int .i64 c.wo) ∧ w2.drew.cell? ⟨b0, 3, none⟩ = some (.int .i64 c.sl) ∧ w2.drew.cell? ⟨b0, 4, none⟩ = some (.int .i64 c.ca) ∧ w2.drew.cell? ⟨b0, 5, none⟩ = some (.int .i64 c.ba) from box_cells HB2.out (up_drew w2))
  go_region_held3 (fun w' => w'.cell? ⟨b0, 0, none⟩ = some (.int .i64 c.wk) ∧ w'.cell? ⟨b0, 1, none⟩ = some (.int .i64 c.ch) ∧ w'.cell? ⟨b0, 2, none⟩ = some (.int .i64 c.wo) ∧ w'.cell? ⟨b0, 3, none⟩ = some (.int .i64 c.sl) ∧ w'.cell? ⟨b0, 4, none⟩ = some (.int .i64 c.ca) ∧ w'.cell? ⟨b0, 5, none⟩ = some (.int .i64 c.ba))
    ((first | with_reducible exact HC4.out | with_reducible exact HC3.out | with_reducible exact HC0.out))
    (first
      | (go_at_call 64; refine (slot_is H4.out _).mono ?_; rintro e w3 ⟨rfl, U3⟩; have HU3 := Lib.hid ((up_drew w2).trans U3); have HC3 := Lib.hid (show w3.cell? ⟨b0, 0, none⟩ = some (.int .i64 c.wk) ∧ w3.cell? ⟨b0, 1, none⟩ = some (.int .i64 c.ch) ∧ w3.cell? ⟨b0, 2, none⟩ = some (.int .i64 c.wo) ∧ w3.cell? ⟨b0, 3, none⟩ = some (.int .i64 c.sl) ∧ w3.cell? ⟨b0, 4, none⟩ = some (.int .i64 c.ca) ∧ w3.cell? ⟨b0, 5, none⟩ = some (.int .i64 c.ba) from box_cells HB2.out HU3.out); clear U3)
      | (go_at_call 63; refine (snew_yes (HM2.out.up HU3.out) HT.out HN.out).mono ?_; rintro e w4 ⟨rfl, U4, S4⟩; have HU4 := Lib.hid (HU3.out.trans U4); have HS4 := Lib.hid S4; have HC4 := Lib.hid (show w4.cell? ⟨b0, 0, none⟩ = some (.int .i64 c.wk) ∧ w4.cell? ⟨b0, 1, none⟩ = some (.int .i64 c.ch) ∧ w4.cell? ⟨b0, 2, none⟩ = some (.int .i64 c.wo) ∧ w4.cell? ⟨b0, 3, none⟩ = some (.int .i64 c.sl) ∧ w4.cell? ⟨b0, 4, none⟩ = some (.int .i64 c.ca) ∧ w4.cell? ⟨b0, 5, none⟩ = some (.int .i64 c.ba) from box_cells HB2.out HU4.out); clear U4 S4))
  have HQ := Lib.hid (show w.heap.size ≤ w3.heap.size from (HU2.out.trans HU3.out).size)
  obtain ⟨qs, hqs⟩ : ∃ qs, w3.heap.size = qs := ⟨_, rfl⟩
  rw [hqs] at HS4 HQ ⊢
  clear hqs
  obtain ⟨d0, d1, d2, d3, d4, d5⟩ := HC4.out
  go_wp2_with fail
  go_ret2
  obtain ⟨hm, hr, hn⟩ := HR.out
  obtain ⟨ok, n2, n3, n4, n5⟩ := HOK.out
  have M4 := (HM2.out.up HU4.out).up (Up.alloc w4 (.cells (rooRow c p qs) 108))
  have S5 := HS4.out.up (Up.alloc w4 (.cells (rooRow c p qs) 108))
  rw [← hn] at S5
  refine ⟨_, qs, rfl, ⟨Whole.new w4 108 (rooRow c p qs), ⟨M4, S5, ok, S5.ne_type M4.top (by decide), S5.ne_type M4.row (by decide), n2, n3, by omega, by omega, HT.out, .inl (by omega)⟩, hm, hr, hn⟩, (HU2.out.trans HU4.out).size, HQ.out, (HU2.out.trans HU4.out).then_alloc _⟩
set_option maxHeartbeats 4000000 in
theorem rtNew_small (m : Mem w p g s) (hm : mayB c = true) (hl : (s.xs.length : Int) < lenN c) :
    Calls Tryz.prog 24 #[.pointer (some ⟨p, 0, none⟩), c.v] w fun e w' => e = .returned (.tuple #[.pointer none, .int .i64 1]) ∧ Up w w' := by
  obtain ⟨L, hL⟩ : ∃ L : Int, lenN c = L := ⟨_, rfl⟩
  obtain ⟨N, hN⟩ : ∃ N : Int, (s.xs.length : Int) = N := ⟨_, rfl⟩
  have i1 : N < L := by omega
  have H1 := Lib.hid hm
  have H2 := Lib.hid hL
  have H3 := Lib.hid hN
  have HM := Lib.hid m
  clear m hm hl hL hN
  obtain ⟨b0, hb0⟩ : ∃ b0, w.heap.size = b0 := ⟨_, rfl⟩
  have HB0 := Lib.hid (Whole.new w 31 #[.int .i64 c.wk, .int .i64 c.ch, .int .i64 c.wo, .int .i64 c.sl, .int .i64 c.ca, .int .i64 c.ba])
  rw [hb0] at HB0
  have HU0 := Lib.hid (Up.alloc w (.cells #[.int .i64 c.wk, .int .i64 c.ch, .int .i64 c.wo, .int .i64 c.sl, .int .i64 c.ca, .int .i64 c.ba] 31))
  go_enter Tryz.func24, Tryz.ntmps24
  go_upto_region 1 with fail
  clear hb0
  generalize w.alloc (.cells #[.int .i64 c.wk, .int .i64 c.ch, .int .i64 c.wo, .int .i64 c.sl, .int .i64 c.ca, .int .i64 c.ba] 31) = w1 at *
  have HM1 := Lib.hid (HM.out.up HU0.out)
  have e0 := cell_class (HB0.out.cell (i := 0) rfl)
  have e1 := cell_class (HB0.out.cell (i := 1) rfl)
  have e2 := cell_class (HB0.out.cell (i := 2) rfl)
  have e3 := cell_class (HB0.out.cell (i := 3) rfl)
  have e4 := cell_class (HB0.out.cell (i := 4) rfl)
  have e5 := cell_class (HB0.out.cell (i := 5) rfl)
  refine wp_region_up (Up.refl w1) (by kernel_rfl) (by kernel_rfl) ?_
  repeat (go_big_quiet_step (first
    | (go_at_call 61; (with_reducible exact up_class (may_is H1.out _)))
    | (go_at_call 51; (with_reducible exact same_class (len_to (HM1.out.up (UpOf.up _)) H3.out)))
    | (go_at_call 22; (with_reducible exact up_class (len_is H2.out _)))))
  refine wpQuiet_nil ?_
  rintro _ ⟨y, rfl⟩
  go_wp2_with fail
  go_ret2
  exact ⟨rfl, HU0.out.trans y.up⟩
set_option maxHeartbeats 4000000 in
theorem rtNew_bad (hm : mayB c = false) (w : World) (v : Value) :
    Calls Tryz.prog 24 #[v, c.v] w fun e w' => e = .returned (.tuple #[.pointer none, .int .i64 1]) ∧ Up w w' := by
  have H1 := Lib.hid hm
  clear hm
  obtain ⟨b0, hb0⟩ : ∃ b0, w.heap.size = b0 := ⟨_, rfl⟩
  have HB0 := Lib.hid (Whole.new w 31 #[.int .i64 c.wk, .int .i64 c.ch, .int .i64 c.wo, .int .i64 c.sl, .int .i64 c.ca, .int .i64 c.ba])
  rw [hb0] at HB0
  have HU0 := Lib.hid (Up.alloc w (.cells #[.int .i64 c.wk, .int .i64 c.ch, .int .i64 c.wo, .int .i64 c.sl, .int .i64 c.ca, .int .i64 c.ba] 31))
  go_enter Tryz.func24, Tryz.ntmps24
  go_upto_region 1 with fail
  clear hb0
  generalize w.alloc (.cells #[.int .i64 c.wk, .int .i64 c.ch, .int .i64 c.wo, .int .i64 c.sl, .int .i64 c.ca, .int .i64 c.ba] 31) = w1 at *
  have e0 := cell_class (HB0.out.cell (i := 0) rfl)
  have e1 := cell_class (HB0.out.cell (i := 1) rfl)
  have e2 := cell_class (HB0.out.cell (i := 2) rfl)
  have e3 := cell_class (HB0.out.cell (i := 3) rfl)
  have e4 := cell_class (HB0.out.cell (i := 4) rfl)
  have e5 := cell_class (HB0.out.cell (i := 5) rfl)
  refine wp_region_up (Up.refl w1) (by kernel_rfl) (by kernel_rfl) ?_
  repeat (go_big_quiet_step (first
    | (go_at_call 61; (with_reducible exact up_class (may_is H1.out _)))))
  refine wpQuiet_nil ?_
  rintro _ ⟨y, rfl⟩
  go_wp2_with fail
  go_ret2
  exact ⟨rfl, HU0.out.trans y.up⟩
theorem Roo.cells (R : Roo w q p g qs c r0 n s) (u : Up w w') : w'.cell? ⟨q, 0, none⟩ = some (.pointer (some ⟨p, 0, none⟩)) ∧ w'.cell? ⟨q, 1, none⟩ = some (.int .i64 c.wk) ∧ w'.cell? ⟨q, 2, none⟩ = some (.int .i64 c.ch) ∧ w'.cell? ⟨q, 3, none⟩ = some (.int .i64 c.wo) ∧ w'.cell? ⟨q, 4, none⟩ = some (.int .i64 c.sl) ∧ w'.cell? ⟨q, 5, none⟩ = some (.int .i64 c.ca) ∧ w'.cell? ⟨q, 6, none⟩ = some (.int .i64 c.ba) :=
  ⟨u.kept (R.obj.cell rfl), u.kept (R.obj.cell rfl), u.kept (R.obj.cell rfl), u.kept (R.obj.cell rfl), u.kept (R.obj.cell rfl), u.kept (R.obj.cell rfl), u.kept (R.obj.cell rfl)⟩
def FillRt (w : World) (q p g qs : Nat) (c : Cf) (r0 n : Nat) (s : St) (i : Value) (wr : World) : Prop := ∃ k : Nat, k ≤ n ∧ i = .int .i64 k ∧ Roo wr q p g qs c r0 n (rootK (fillS s 1 (r0 + n) n) r0 k) ∧ Else [p, g] w wr
set_option maxHeartbeats 4000000 in
theorem rtFill (R : Roo w q p g qs c r0 n s) :
    Calls Tryz.prog 34 #[.pointer (some ⟨q, 0, none⟩)] w fun e w' => e = .returned (.tuple #[]) ∧ Roo w' q p g qs c r0 n (fillT s r0 n) ∧ Else [p, g] w w' := by
  have c7 := R.obj.cell (i := 7) (v := .pointer (some ⟨qs, 0, none⟩)) rfl
  have HR := Lib.hid R
  have HQ := Lib.hid (show q ∉ [p, g] ∧ qs ∉ [p, g] by simp [R.qp, R.qg, R.env.np, R.env.ng])
  have hn := R.hn
  have hsl : c.sl = (n : Int) := hn.symm
  have hn1 := R.n4
  have HSL := Lib.hid hsl
  clear R hn
  go_enter Tryz.func34, Tryz.ntmps34
  go_upto_region 1 with (first
    | (go_at_call 69; refine (fill_in HR.out.env).mono ?_; rintro e w1 ⟨rfl, M1, E1⟩; have HR1 := Lib.hid (HR.out.turn M1 E1 HQ.out.1 HQ.out.2 (fillS_ok HR.out.env.ok _ _ _ hn1.2.2) (fillS_len _ _ _ _)); have HE1 := Lib.hid E1; clear M1 E1))
  clear c7
  have c4 := HR1.out.obj.cell (i := 4) (v := .int .i64 c.sl) rfl
  rw [hsl] at c4
  clear hsl
  go_wp2_with fail
  clear c4
  go_loopw [13] (fun i wr => FillRt w q p g qs c r0 n s i wr) (fun i _ => n - (intOf i).toNat)
  case atStart => exact ⟨0, Nat.zero_le _, rfl, HR1.out, HE1.out⟩
  case round =>
    obtain ⟨k, hk, rfl, Rk, Ek⟩ := hrel
    have HRk := Lib.hid Rk
    have HEk := Lib.hid Ek
    clear Rk Ek
    have i0 : (0 : Int) ≤ (k : Int) := Int.natCast_nonneg _
    by_cases hlt : k < n
    · have i1 : (k : Int) < (n : Int) := by omega
      have HA := Lib.hid (HRk.out.at hlt)
      have HC0 := Lib.hid (show wr.drew.cell? ⟨q, 0, none⟩ = some (.pointer (some ⟨p, 0, none⟩)) ∧ wr.drew.cell? ⟨q, 1, none⟩ = some (.int .i64 c.wk) ∧ wr.drew.cell? ⟨q, 2, none⟩ = some (.int .i64 c.ch) ∧ wr.drew.cell? ⟨q, 3, none⟩ = some (.int .i64 c.wo) ∧ wr.drew.cell? ⟨q, 4, none⟩ = some (.int .i64 c.sl) ∧ wr.drew.cell? ⟨q, 5, none⟩ = some (.int .i64 c.ca) ∧ wr.drew.cell? ⟨q, 6, none⟩ = some (.int .i64 c.ba) from HRk.out.cells (up_drew wr))
      go_upto_region 4 with fail
      go_region_held3 (fun w' => w'.cell? ⟨q, 0, none⟩ = some (.pointer (some ⟨p, 0, none⟩)) ∧ w'.cell? ⟨q, 1, none⟩ = some (.int .i64 c.wk) ∧ w'.cell? ⟨q, 2, none⟩ = some (.int .i64 c.ch) ∧ w'.cell? ⟨q, 3, none⟩ = some (.int .i64 c.wo) ∧ w'.cell? ⟨q, 4, none⟩ = some (.int .i64 c.sl) ∧ w'.cell? ⟨q, 5, none⟩ = some (.int .i64 c.ca) ∧ w'.cell? ⟨q, 6, none⟩ = some (.int .i64 c.ba))
        ((first | with_reducible exact HC3.out | with_reducible exact HC2.out | with_reducible exact HC0.out))
        (first
          | (go_at_call 56; refine (root_is HA.out.1 _).mono ?_; rintro e w2 ⟨rfl, U2⟩; have HU2 := Lib.hid ((up_drew wr).trans U2); have HR2 := Lib.hid (HRk.out.up HU2.out); have HC2 := Lib.hid (show w2.cell? ⟨q, 0, none⟩ = some (.pointer (some ⟨p, 0, none⟩)) ∧ w2.cell? ⟨q, 1, none⟩ = some (.int .i64 c.wk) ∧ w2.cell? ⟨q, 2, none⟩ = some (.int .i64 c.ch) ∧ w2.cell? ⟨q, 3, none⟩ = some (.int .i64 c.wo) ∧ w2.cell? ⟨q, 4, none⟩ = some (.int .i64 c.sl) ∧ w2.cell? ⟨q, 5, none⟩ = some (.int .i64 c.ca) ∧ w2.cell? ⟨q, 6, none⟩ = some (.int .i64 c.ba) from HRk.out.cells HU2.out); clear U2)
          | (go_at_call 70; refine (lay_in 0 HR2.out.env.mem ⟨by omega, by have := HA.out.2; omega⟩).mono ?_; rintro e w3 ⟨rfl, M3, E3⟩; have HR3 := Lib.hid (HR2.out.turn M3 E3 HQ.out.1 HQ.out.2 (HR2.out.env.ok.lay _ (by decide) (by decide)) (lay_len _ _ _)); have HE3 := Lib.hid ((HEk.out.up HU2.out).trans E3); have HC3 := Lib.hid (show w3.cell? ⟨q, 0, none⟩ = some (.pointer (some ⟨p, 0, none⟩)) ∧ w3.cell? ⟨q, 1, none⟩ = some (.int .i64 c.wk) ∧ w3.cell? ⟨q, 2, none⟩ = some (.int .i64 c.ch) ∧ w3.cell? ⟨q, 3, none⟩ = some (.int .i64 c.wo) ∧ w3.cell? ⟨q, 4, none⟩ = some (.int .i64 c.sl) ∧ w3.cell? ⟨q, 5, none⟩ = some (.int .i64 c.ca) ∧ w3.cell? ⟨q, 6, none⟩ = some (.int .i64 c.ba) from HR3.out.cells (Up.refl _)); clear M3 E3))
      go_wp2_with fail
      go_roundw
      case rel => exact ⟨k + 1, by omega, by go_num, HR3.out, HE3.out⟩
      case measure => simp [intOf]; omega
    · have i1 : ¬ (k : Int) < (n : Int) := by omega
      have ek : k = n := by omega
      subst ek
      go_wp2_with fail
      go_end0
      exact ⟨rfl, HRk.out, HEk.out⟩
set_option maxHeartbeats 4000000 in
theorem rtRoot (R : Roo w q p g qs c r0 n s) {k : Nat} (hk : k < n) {x rg rm rc ro : Int} (hx : s.xs.getD (r0 + k) 0 = x) (hrg : (rtOf x).g = rg) (hrm : (rtOf x).m = rm) (hrc : (rtOf x).c = rc) (hro : (rtOf x).o = ro) :
    Calls Tryz.prog 15 #[.pointer (some ⟨q, 0, none⟩), .int .i64 (k : Int)] w fun e w' => e = .returned (.agg #[.int .i64 rg, .int .i64 rm, .int .i64 rc, .int .i64 ro]) ∧ Up w w' := by
  obtain ⟨hra, hrl⟩ := R.at hk
  have hw := R.env.ok.words (r0 + k)
  rw [hx] at hw
  have HA := Lib.hid hra
  have H3 := Lib.hid hw
  have H4 := Lib.hid (And.intro hrg (And.intro hrm (And.intro hrc hro)))
  have HHS := Lib.hid (show s.has ((r0 + k : Nat) : Int) from ⟨by omega, by omega⟩)
  have HX := Lib.hid (show s.get ((r0 + k : Nat) : Int) = x by rw [get_at]; exact hx)
  clear hra hrl hw hx hrg hrm hrc hro hk
  have HR := Lib.hid R
  obtain ⟨d, hd⟩ : ∃ d, w.heap.size = d := ⟨_, rfl⟩
  have HD := Lib.hid hd
  have HV0 := Lib.hid (Whole.new w 67 #[.int .i64 0, .int .i64 0, .int .i64 0, .int .i64 0])
  rw [hd] at HV0
  have HU0 := Lib.hid (Up.alloc w (.cells #[.int .i64 0, .int .i64 0, .int .i64 0, .int .i64 0] 67))
  clear R
  go_enter Tryz.func15, Tryz.ntmps15
  go_upto_region 1 with fail
  clear hd
  generalize w.alloc (.cells #[.int .i64 0, .int .i64 0, .int .i64 0, .int .i64 0] 67) = w1 at *
  have HC0 := Lib.hid (show w1.drew.cell? ⟨q, 0, none⟩ = some (.pointer (some ⟨p, 0, none⟩)) ∧ w1.drew.cell? ⟨q, 1, none⟩ = some (.int .i64 c.wk) ∧ w1.drew.cell? ⟨q, 2, none⟩ = some (.int .i64 c.ch) ∧ w1.drew.cell? ⟨q, 3, none⟩ = some (.int .i64 c.wo) ∧ w1.drew.cell? ⟨q, 4, none⟩ = some (.int .i64 c.sl) ∧ w1.drew.cell? ⟨q, 5, none⟩ = some (.int .i64 c.ca) ∧ w1.drew.cell? ⟨q, 6, none⟩ = some (.int .i64 c.ba) from HR.out.cells (HU0.out.trans (up_drew w1)))
  go_region_held3 (fun w' => w'.cell? ⟨q, 0, none⟩ = some (.pointer (some ⟨p, 0, none⟩)) ∧ w'.cell? ⟨q, 1, none⟩ = some (.int .i64 c.wk) ∧ w'.cell? ⟨q, 2, none⟩ = some (.int .i64 c.ch) ∧ w'.cell? ⟨q, 3, none⟩ = some (.int .i64 c.wo) ∧ w'.cell? ⟨q, 4, none⟩ = some (.int .i64 c.sl) ∧ w'.cell? ⟨q, 5, none⟩ = some (.int .i64 c.ca) ∧ w'.cell? ⟨q, 6, none⟩ = some (.int .i64 c.ba))
    ((first | with_reducible exact HC5.out | with_reducible exact HC4.out | with_reducible exact HC2.out | with_reducible exact HC0.out))
    (first
      | (go_at_call 56; refine (root_is HA.out _).mono ?_; rintro e w2 ⟨rfl, U2⟩; have HU2 := Lib.hid ((HU0.out.trans (up_drew w1)).trans U2); have HV2 := Lib.hid (show Whole w2 d _ _ from Whole.up (w := w1.drew) HV0.out U2); have HR2 := Lib.hid (HR.out.up HU2.out); have HC2 := Lib.hid (show w2.cell? ⟨q, 0, none⟩ = some (.pointer (some ⟨p, 0, none⟩)) ∧ w2.cell? ⟨q, 1, none⟩ = some (.int .i64 c.wk) ∧ w2.cell? ⟨q, 2, none⟩ = some (.int .i64 c.ch) ∧ w2.cell? ⟨q, 3, none⟩ = some (.int .i64 c.wo) ∧ w2.cell? ⟨q, 4, none⟩ = some (.int .i64 c.sl) ∧ w2.cell? ⟨q, 5, none⟩ = some (.int .i64 c.ca) ∧ w2.cell? ⟨q, 6, none⟩ = some (.int .i64 c.ba) from HR.out.cells HU2.out); clear U2)
      | (go_at_call 50; refine (peek_to HR2.out.env.mem HHS.out HX.out).mono ?_; rintro e w9 ⟨rfl, rfl⟩)
      | (go_at_call 55; refine (getRoot_to H3.out.1 H3.out.2 H4.out.1 H4.out.2.1 H4.out.2.2.1 H4.out.2.2.2 _).mono ?_; rintro e w4 ⟨rfl, U4⟩; have HU4 := Lib.hid (HU2.out.trans U4); have HV4 := Lib.hid (HV2.out.up U4); have HC4 := Lib.hid (show w4.cell? ⟨q, 0, none⟩ = some (.pointer (some ⟨p, 0, none⟩)) ∧ w4.cell? ⟨q, 1, none⟩ = some (.int .i64 c.wk) ∧ w4.cell? ⟨q, 2, none⟩ = some (.int .i64 c.ch) ∧ w4.cell? ⟨q, 3, none⟩ = some (.int .i64 c.wo) ∧ w4.cell? ⟨q, 4, none⟩ = some (.int .i64 c.sl) ∧ w4.cell? ⟨q, 5, none⟩ = some (.int .i64 c.ca) ∧ w4.cell? ⟨q, 6, none⟩ = some (.int .i64 c.ba) from HR.out.cells HU4.out); have HU5 := Lib.hid ((((HU4.out.set (g := d) (i := 0) (Nat.le_of_eq HD.out) (.int .i64 rg)).set (g := d) (i := 1) (Nat.le_of_eq HD.out) (.int .i64 rm)).set (g := d) (i := 2) (Nat.le_of_eq HD.out) (.int .i64 rc)).set (g := d) (i := 3) (Nat.le_of_eq HD.out) (.int .i64 ro)); have HV5 := Lib.hid ((((HV4.out.set 0 (.int .i64 rg)).set 1 (.int .i64 rm)).set 2 (.int .i64 rc)).set 3 (.int .i64 ro)); have HC5 := Lib.hid (show ((((w4.setCell ⟨d, 0, none⟩ (.int .i64 rg)).setCell ⟨d, 1, none⟩ (.int .i64 rm)).setCell ⟨d, 2, none⟩ (.int .i64 rc)).setCell ⟨d, 3, none⟩ (.int .i64 ro)).cell? ⟨q, 0, none⟩ = some (.pointer (some ⟨p, 0, none⟩)) ∧ ((((w4.setCell ⟨d, 0, none⟩ (.int .i64 rg)).setCell ⟨d, 1, none⟩ (.int .i64 rm)).setCell ⟨d, 2, none⟩ (.int .i64 rc)).setCell ⟨d, 3, none⟩ (.int .i64 ro)).cell? ⟨q, 1, none⟩ = some (.int .i64 c.wk) ∧ ((((w4.setCell ⟨d, 0, none⟩ (.int .i64 rg)).setCell ⟨d, 1, none⟩ (.int .i64 rm)).setCell ⟨d, 2, none⟩ (.int .i64 rc)).setCell ⟨d, 3, none⟩ (.int .i64 ro)).cell? ⟨q, 2, none⟩ = some (.int .i64 c.ch) ∧ ((((w4.setCell ⟨d, 0, none⟩ (.int .i64 rg)).setCell ⟨d, 1, none⟩ (.int .i64 rm)).setCell ⟨d, 2, none⟩ (.int .i64 rc)).setCell ⟨d, 3, none⟩ (.int .i64 ro)).cell? ⟨q, 3, none⟩ = some (.int .i64 c.wo) ∧ ((((w4.setCell ⟨d, 0, none⟩ (.int .i64 rg)).setCell ⟨d, 1, none⟩ (.int .i64 rm)).setCell ⟨d, 2, none⟩ (.int .i64 rc)).setCell ⟨d, 3, none⟩ (.int .i64 ro)).cell? ⟨q, 4, none⟩ = some (.int .i64 c.sl) ∧ ((((w4.setCell ⟨d, 0, none⟩ (.int .i64 rg)).setCell ⟨d, 1, none⟩ (.int .i64 rm)).setCell ⟨d, 2, none⟩ (.int .i64 rc)).setCell ⟨d, 3, none⟩ (.int .i64 ro)).cell? ⟨q, 5, none⟩ = some (.int .i64 c.ca) ∧ ((((w4.setCell ⟨d, 0, none⟩ (.int .i64 rg)).setCell ⟨d, 1, none⟩ (.int .i64 rm)).setCell ⟨d, 2, none⟩ (.int .i64 rc)).setCell ⟨d, 3, none⟩ (.int .i64 ro)).cell? ⟨q, 6, none⟩ = some (.int .i64 c.ba) from HR.out.cells HU5.out); have q0 := HV4.out.cell (i := 0) rfl; have q1 := HV4.out.cell (i := 1) rfl; have q2 := HV4.out.cell (i := 2) rfl; have q3 := HV4.out.cell (i := 3) rfl; have h0 := HV4.out.frozen 0; have h1 := HV4.out.frozen 1; have h2 := HV4.out.frozen 2; have h3 := HV4.out.frozen 3; clear U4))
  clear q0 q1 q2 q3 h0 h1 h2 h3
  generalize ((((w4.setCell ⟨d, 0, none⟩ (.int .i64 rg)).setCell ⟨d, 1, none⟩ (.int .i64 rm)).setCell ⟨d, 2, none⟩ (.int .i64 rc)).setCell ⟨d, 3, none⟩ (.int .i64 ro)) = w5 at *
  have q0 := HV5.out.cell (i := 0) rfl
  have q1 := HV5.out.cell (i := 1) rfl
  have q2 := HV5.out.cell (i := 2) rfl
  have q3 := HV5.out.cell (i := 3) rfl
  go_wp2_with fail
  exact bodyPost_ret (v := .agg #[.int .i64 rg, .int .i64 rm, .int .i64 rc, .int .i64 ro]) (by simp [results, Tryz.results15, go_sem, q0, q1, q2, q3]) rfl ⟨rfl, HU5.out⟩
set_option maxHeartbeats 4000000 in
theorem rtRoot_no (R : Roo w q p g qs c r0 n s) {k : Int} (hk : ¬ (0 ≤ k ∧ k < n)) :
    Calls Tryz.prog 15 #[.pointer (some ⟨q, 0, none⟩), .int .i64 k] w fun e w' => e = .returned (.agg #[.int .i64 0, .int .i64 0, .int .i64 0, .int .i64 0]) ∧ Up w w' := by
  have hra : lrootN c k = -1 := by
    unfold lrootN
    exact atN_no (.inr (by have := R.hn; omega))
  have HA := Lib.hid hra
  have H3 := Lib.hid (show (0 : Int) ≤ 0 ∧ (0 : Int) < 18446744073709551616 by decide)
  have H4 := Lib.hid (show (rtOf 0).g = 0 ∧ (rtOf 0).m = 0 ∧ (rtOf 0).c = 0 ∧ (rtOf 0).o = 0 by decide)
  clear hra hk
  have HR := Lib.hid R
  obtain ⟨d, hd⟩ : ∃ d, w.heap.size = d := ⟨_, rfl⟩
  have HD := Lib.hid hd
  have HV0 := Lib.hid (Whole.new w 67 #[.int .i64 0, .int .i64 0, .int .i64 0, .int .i64 0])
  rw [hd] at HV0
  have HU0 := Lib.hid (Up.alloc w (.cells #[.int .i64 0, .int .i64 0, .int .i64 0, .int .i64 0] 67))
  clear R
  go_enter Tryz.func15, Tryz.ntmps15
  go_upto_region 1 with fail
  clear hd
  generalize w.alloc (.cells #[.int .i64 0, .int .i64 0, .int .i64 0, .int .i64 0] 67) = w1 at *
  have HC0 := Lib.hid (show w1.drew.cell? ⟨q, 0, none⟩ = some (.pointer (some ⟨p, 0, none⟩)) ∧ w1.drew.cell? ⟨q, 1, none⟩ = some (.int .i64 c.wk) ∧ w1.drew.cell? ⟨q, 2, none⟩ = some (.int .i64 c.ch) ∧ w1.drew.cell? ⟨q, 3, none⟩ = some (.int .i64 c.wo) ∧ w1.drew.cell? ⟨q, 4, none⟩ = some (.int .i64 c.sl) ∧ w1.drew.cell? ⟨q, 5, none⟩ = some (.int .i64 c.ca) ∧ w1.drew.cell? ⟨q, 6, none⟩ = some (.int .i64 c.ba) from HR.out.cells (HU0.out.trans (up_drew w1)))
  go_region_held3 (fun w' => w'.cell? ⟨q, 0, none⟩ = some (.pointer (some ⟨p, 0, none⟩)) ∧ w'.cell? ⟨q, 1, none⟩ = some (.int .i64 c.wk) ∧ w'.cell? ⟨q, 2, none⟩ = some (.int .i64 c.ch) ∧ w'.cell? ⟨q, 3, none⟩ = some (.int .i64 c.wo) ∧ w'.cell? ⟨q, 4, none⟩ = some (.int .i64 c.sl) ∧ w'.cell? ⟨q, 5, none⟩ = some (.int .i64 c.ca) ∧ w'.cell? ⟨q, 6, none⟩ = some (.int .i64 c.ba))
    ((first | with_reducible exact HC5.out | with_reducible exact HC4.out | with_reducible exact HC2.out | with_reducible exact HC0.out))
    (first
      | (go_at_call 56; refine (root_is HA.out _).mono ?_; rintro e w2 ⟨rfl, U2⟩; have HU2 := Lib.hid ((HU0.out.trans (up_drew w1)).trans U2); have HV2 := Lib.hid (show Whole w2 d _ _ from Whole.up (w := w1.drew) HV0.out U2); have HR2 := Lib.hid (HR.out.up HU2.out); have HC2 := Lib.hid (show w2.cell? ⟨q, 0, none⟩ = some (.pointer (some ⟨p, 0, none⟩)) ∧ w2.cell? ⟨q, 1, none⟩ = some (.int .i64 c.wk) ∧ w2.cell? ⟨q, 2, none⟩ = some (.int .i64 c.ch) ∧ w2.cell? ⟨q, 3, none⟩ = some (.int .i64 c.wo) ∧ w2.cell? ⟨q, 4, none⟩ = some (.int .i64 c.sl) ∧ w2.cell? ⟨q, 5, none⟩ = some (.int .i64 c.ca) ∧ w2.cell? ⟨q, 6, none⟩ = some (.int .i64 c.ba) from HR.out.cells HU2.out); clear U2)
      | (go_at_call 50; refine (peek_out HR2.out.env.mem (fun h => absurd h.1 (by decide))).mono ?_; rintro e w9 ⟨rfl, rfl⟩)
      | (go_at_call 55; refine (getRoot_to H3.out.1 H3.out.2 H4.out.1 H4.out.2.1 H4.out.2.2.1 H4.out.2.2.2 _).mono ?_; rintro e w4 ⟨rfl, U4⟩; have HU4 := Lib.hid (HU2.out.trans U4); have HV4 := Lib.hid (HV2.out.up U4); have HC4 := Lib.hid (show w4.cell? ⟨q, 0, none⟩ = some (.pointer (some ⟨p, 0, none⟩)) ∧ w4.cell? ⟨q, 1, none⟩ = some (.int .i64 c.wk) ∧ w4.cell? ⟨q, 2, none⟩ = some (.int .i64 c.ch) ∧ w4.cell? ⟨q, 3, none⟩ = some (.int .i64 c.wo) ∧ w4.cell? ⟨q, 4, none⟩ = some (.int .i64 c.sl) ∧ w4.cell? ⟨q, 5, none⟩ = some (.int .i64 c.ca) ∧ w4.cell? ⟨q, 6, none⟩ = some (.int .i64 c.ba) from HR.out.cells HU4.out); have HU5 := Lib.hid ((((HU4.out.set (g := d) (i := 0) (Nat.le_of_eq HD.out) (.int .i64 0)).set (g := d) (i := 1) (Nat.le_of_eq HD.out) (.int .i64 0)).set (g := d) (i := 2) (Nat.le_of_eq HD.out) (.int .i64 0)).set (g := d) (i := 3) (Nat.le_of_eq HD.out) (.int .i64 0)); have HV5 := Lib.hid ((((HV4.out.set 0 (.int .i64 0)).set 1 (.int .i64 0)).set 2 (.int .i64 0)).set 3 (.int .i64 0)); have HC5 := Lib.hid (show ((((w4.setCell ⟨d, 0, none⟩ (.int .i64 0)).setCell ⟨d, 1, none⟩ (.int .i64 0)).setCell ⟨d, 2, none⟩ (.int .i64 0)).setCell ⟨d, 3, none⟩ (.int .i64 0)).cell? ⟨q, 0, none⟩ = some (.pointer (some ⟨p, 0, none⟩)) ∧ ((((w4.setCell ⟨d, 0, none⟩ (.int .i64 0)).setCell ⟨d, 1, none⟩ (.int .i64 0)).setCell ⟨d, 2, none⟩ (.int .i64 0)).setCell ⟨d, 3, none⟩ (.int .i64 0)).cell? ⟨q, 1, none⟩ = some (.int .i64 c.wk) ∧ ((((w4.setCell ⟨d, 0, none⟩ (.int .i64 0)).setCell ⟨d, 1, none⟩ (.int .i64 0)).setCell ⟨d, 2, none⟩ (.int .i64 0)).setCell ⟨d, 3, none⟩ (.int .i64 0)).cell? ⟨q, 2, none⟩ = some (.int .i64 c.ch) ∧ ((((w4.setCell ⟨d, 0, none⟩ (.int .i64 0)).setCell ⟨d, 1, none⟩ (.int .i64 0)).setCell ⟨d, 2, none⟩ (.int .i64 0)).setCell ⟨d, 3, none⟩ (.int .i64 0)).cell? ⟨q, 3, none⟩ = some (.int .i64 c.wo) ∧ ((((w4.setCell ⟨d, 0, none⟩ (.int .i64 0)).setCell ⟨d, 1, none⟩ (.int .i64 0)).setCell ⟨d, 2, none⟩ (.int .i64 0)).setCell ⟨d, 3, none⟩ (.int .i64 0)).cell? ⟨q, 4, none⟩ = some (.int .i64 c.sl) ∧ ((((w4.setCell ⟨d, 0, none⟩ (.int .i64 0)).setCell ⟨d, 1, none⟩ (.int .i64 0)).setCell ⟨d, 2, none⟩ (.int .i64 0)).setCell ⟨d, 3, none⟩ (.int .i64 0)).cell? ⟨q, 5, none⟩ = some (.int .i64 c.ca) ∧ ((((w4.setCell ⟨d, 0, none⟩ (.int .i64 0)).setCell ⟨d, 1, none⟩ (.int .i64 0)).setCell ⟨d, 2, none⟩ (.int .i64 0)).setCell ⟨d, 3, none⟩ (.int .i64 0)).cell? ⟨q, 6, none⟩ = some (.int .i64 c.ba) from HR.out.cells HU5.out); have q0 := HV4.out.cell (i := 0) rfl; have q1 := HV4.out.cell (i := 1) rfl; have q2 := HV4.out.cell (i := 2) rfl; have q3 := HV4.out.cell (i := 3) rfl; have h0 := HV4.out.frozen 0; have h1 := HV4.out.frozen 1; have h2 := HV4.out.frozen 2; have h3 := HV4.out.frozen 3; clear U4))
  clear q0 q1 q2 q3 h0 h1 h2 h3
  generalize ((((w4.setCell ⟨d, 0, none⟩ (.int .i64 0)).setCell ⟨d, 1, none⟩ (.int .i64 0)).setCell ⟨d, 2, none⟩ (.int .i64 0)).setCell ⟨d, 3, none⟩ (.int .i64 0)) = w5 at *
  have q0 := HV5.out.cell (i := 0) rfl
  have q1 := HV5.out.cell (i := 1) rfl
  have q2 := HV5.out.cell (i := 2) rfl
  have q3 := HV5.out.cell (i := 3) rfl
  go_wp2_with fail
  exact bodyPost_ret (v := .agg #[.int .i64 0, .int .i64 0, .int .i64 0, .int .i64 0]) (by simp [results, Tryz.results15, go_sem, q0, q1, q2, q3]) rfl ⟨rfl, HU5.out⟩
/-! ### Back -/
theorem good_one {k : Nat} (h : k < n) : Good n (I [k]) := by
  refine ⟨fun x hx => ?_, by simp [I]⟩
  simp [I] at hx; omega
set_option maxHeartbeats 1000000 in
theorem rtBack (R : Roo w q p g qs c r0 n s) {k : Nat} (h : k < n) :
    Calls Tryz.prog 26 #[.pointer (some ⟨q, 0, none⟩), .int .i64 (k : Int)] w fun e w' => ∃ b r cap, e = .returned (.tuple #[.pointer (some ⟨b, 0, none⟩), .int .i64 0]) ∧ PuM w' b qs n (.slice (some ⟨r, 0, none⟩) 1 cap) (Pu.new [k]) ∧ w.heap.size ≤ b ∧ w.heap.size ≤ r ∧ Up w w' := by
  have c7 := R.obj.cell (i := 7) (v := .pointer (some ⟨qs, 0, none⟩)) rfl
  have HR := Lib.hid (R.up (Up.alloc w (.cells #[.int .i64 (k : Int)] 3)))
  have HG := Lib.hid (good_one h)
  have HRD := Lib.hid (rd_one w (k : Int))
  clear R h
  go_enter Tryz.func26, Tryz.ntmps26
  go_wp2_with (first
    | (go_at_call 66; refine (puNew HR.out.env (l := [k]) HRD.out (by simp) HG.out (by simp)).mono ?_; rintro e w2 ⟨b, r, cap, rfl, P2, hb, hr, U2⟩; have HP2 := Lib.hid P2; have HU2 := Lib.hid U2; have HB := Lib.hid (And.intro hb hr); clear P2 U2 hb hr))
  go_ret2
  have h1 : (w.alloc (.cells #[.int .i64 (k : Int)] 3)).heap.size = w.heap.size + 1 := by simp
  exact ⟨b, r, cap, rfl, HP2.out, by have := HB.out.1; omega, by have := HB.out.2; omega, (Up.alloc _ _).trans HU2.out⟩
set_option maxHeartbeats 1000000 in
theorem rtBack_no (R : Roo w q p g qs c r0 n s) {k : Int} (h : ¬ (0 ≤ k ∧ k < n)) :
    Calls Tryz.prog 26 #[.pointer (some ⟨q, 0, none⟩), .int .i64 k] w fun e w' => e = .returned (.tuple #[.pointer none, .int .i64 1]) ∧ Up w w' := by
  have c7 := R.obj.cell (i := 7) (v := .pointer (some ⟨qs, 0, none⟩)) rfl
  have HR := Lib.hid (R.up (Up.alloc w (.cells #[.int .i64 k] 3)))
  have HG := Lib.hid (show ¬ Good n [k] from fun hg => h (hg.1 k (by simp)))
  have HRD := Lib.hid (rd_one w k)
  clear R h
  go_enter Tryz.func26, Tryz.ntmps26
  go_wp2_with (first
    | (go_at_call 66; refine (spush_no HR.out.env HRD.out HG.out).mono ?_; rintro e w2 ⟨rfl, U2⟩; have HU2 := Lib.hid U2; clear U2))
  go_ret2
  exact ⟨rfl, (Up.alloc _ _).trans HU2.out⟩
end
end Go.Proofs.YtalglhgngedjoaaGreat
