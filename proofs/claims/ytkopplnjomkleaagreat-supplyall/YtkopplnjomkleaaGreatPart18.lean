/-
  Texts beneath SupplyAll, part 18: ChNew, SupNew, PtrRow.
-/
import Derived.Test.YtkopplnjomkleaaGreatPart17
/-
  Package chain: New, and where it refuses.
-/
namespace Go.Proofs.YtkopplnjomkleaaGreat
open Go.RowKit
open W64
set_option maxRecDepth 100000
section
variable {w w' : World} {q p g qs lk n b0 : Nat} {c : Cf} {s s' : St}
theorem box_cells {W : World} (B : Whole W b0 25 #[.int .i64 c.wk, .int .i64 c.ch, .int .i64 c.wo, .int .i64 c.sl, .int .i64 c.ca, .int .i64 c.ba]) (u : Up W w') : w'.cell? ⟨b0, 0, none⟩ = some (.int .i64 c.wk) ∧ w'.cell? ⟨b0, 1, none⟩ = some (.int .i64 c.ch) ∧ w'.cell? ⟨b0, 2, none⟩ = some (.int .i64 c.wo) ∧ w'.cell? ⟨b0, 3, none⟩ = some (.int .i64 c.sl) ∧ w'.cell? ⟨b0, 4, none⟩ = some (.int .i64 c.ca) ∧ w'.cell? ⟨b0, 5, none⟩ = some (.int .i64 c.ba) :=
  ⟨u.kept (B.cell rfl), u.kept (B.cell rfl), u.kept (B.cell rfl), u.kept (B.cell rfl), u.kept (B.cell rfl), u.kept (B.cell rfl)⟩
theorem ch_nums {c : Cf} {lk n L : Nat} (hm : mayB c = true) (hk : (lk : Int) = 3 + c.wk + 2 * c.sl) (hn : (n : Int) = c.ch) (hl : lenN c ≤ (L : Int)) :
    llinkN c 0 = (lk : Int) ∧ 1 ≤ n ∧ n ≤ 4096 ∧ lk + n < L ∧ 6 ≤ lk := by
  obtain ⟨h1, h2, h3, h4, h5, h6⟩ := may_small hm
  have h8 := lenN_is hm
  unfold fwN at h8
  refine ⟨?_, by omega, by omega, by omega, by omega⟩
  unfold llinkN; rw [atN_is hm (by omega) (by omega)]; omega
set_option maxHeartbeats 4000000 in
theorem chNew (m : Mem w p g s) (ok : s.Ok) (ht : s.xs.length ≤ 8388608) (hm : mayB c = true) (hr : (lk : Int) = 3 + c.wk + 2 * c.sl) (hn : (n : Int) = c.ch) (hl : lenN c ≤ (s.xs.length : Int)) :
    Calls Tryz.prog 30 #[.pointer (some ⟨p, 0, none⟩), c.v] w fun e w' => ∃ q qs, e = .returned (.tuple #[.pointer (some ⟨q, 0, none⟩), .int .i64 0]) ∧ Cha w' q p g qs c lk n s ∧ w.heap.size ≤ q ∧ w.heap.size ≤ qs ∧ Up w w' := by
  obtain ⟨n1, n2, n3, n4, n5⟩ := ch_nums hm hr hn hl
  have HN := Lib.hid (show newB s ((0 : Nat) : Int) ((lk : Nat) : Int) c.ch from ⟨by omega, by omega, ⟨by omega, by omega⟩, ⟨by omega, by omega⟩, ⟨by omega, by omega⟩, by omega⟩)
  obtain ⟨L, hL⟩ : ∃ L : Int, lenN c = L := ⟨_, rfl⟩
  obtain ⟨N, hN⟩ : ∃ N : Int, (s.xs.length : Int) = N := ⟨_, rfl⟩
  have i1 : ¬ N < L := by omega
  have H1 := Lib.hid hm
  have H2 := Lib.hid hL
  have H3 := Lib.hid hN
  have H4 := Lib.hid n1
  have HT := Lib.hid ht
  have HM := Lib.hid m
  have HR := Lib.hid (And.intro hm (And.intro hr hn))
  have HOK := Lib.hid (And.intro ok (And.intro n2 (And.intro n3 (And.intro n4 n5))))
  clear m ok ht hm hr hn hl hL hN n1 n2 n3 n4 n5
  obtain ⟨b0, hb0⟩ : ∃ b0, w.heap.size = b0 := ⟨_, rfl⟩
  have HB0 := Lib.hid (Whole.new w 25 #[.int .i64 c.wk, .int .i64 c.ch, .int .i64 c.wo, .int .i64 c.sl, .int .i64 c.ca, .int .i64 c.ba])
  rw [hb0] at HB0
  have HU0 := Lib.hid (Up.alloc w (.cells #[.int .i64 c.wk, .int .i64 c.ch, .int .i64 c.wo, .int .i64 c.sl, .int .i64 c.ca, .int .i64 c.ba] 25))
  go_enter Tryz.func30, Tryz.ntmps30
  go_upto_region 1 with fail
  clear hb0
  generalize w.alloc (.cells #[.int .i64 c.wk, .int .i64 c.ch, .int .i64 c.wo, .int .i64 c.sl, .int .i64 c.ca, .int .i64 c.ba] 25) = w1 at *
  have HM1 := Lib.hid (HM.out.up HU0.out)
  have e0 := cell_class (HB0.out.cell (i := 0) rfl)
  have e1 := cell_class (HB0.out.cell (i := 1) rfl)
  have e2 := cell_class (HB0.out.cell (i := 2) rfl)
  have e3 := cell_class (HB0.out.cell (i := 3) rfl)
  have e4 := cell_class (HB0.out.cell (i := 4) rfl)
  have e5 := cell_class (HB0.out.cell (i := 5) rfl)
  refine wp_region_up (Up.refl w1) (by kernel_rfl) (by kernel_rfl) ?_
  repeat (go_big_quiet_step (first
    | (go_at_call 70; (with_reducible exact up_class (may_is H1.out _)))
    | (go_at_call 72; (with_reducible exact same_class (len_to (HM1.out.up (UpOf.up _)) H3.out)))
    | (go_at_call 29; (with_reducible exact up_class (len_is H2.out _)))))
  refine wpQuiet_nil ?_
  rintro _ ⟨y, rfl⟩
  have HB2 := Lib.hid (HB0.out.up y.up)
  have HM2 := Lib.hid (HM1.out.up y.up)
  have HU2 := Lib.hid (HU0.out.trans y.up)
  clear e0 e1 e2 e3 e4 e5
  generalize y.w = w2 at *
  go_upto_region 3 with fail
  have HC0 := Lib.hid (show w2.drew.cell? ⟨b0, 0, none⟩ = some (.int .i64 c.wk) ∧ w2.drew.cell? ⟨b0, 1, none⟩ = some (.int .i64 c.ch) ∧ w2.drew.cell? ⟨b0, 2, none⟩ = some (.int .i64 c.wo) ∧ w2.drew.cell? ⟨b0, 3, none⟩ = some (.int .i64 c.sl) ∧ w2.drew.cell? ⟨b0, 4, none⟩ = some (.int .i64 c.ca) ∧ w2.drew.cell? ⟨b0, 5, none⟩ = some (.int .i64 c.ba) from box_cells HB2.out (up_drew w2))
  go_region_held3 (fun w' => w'.cell? ⟨b0, 0, none⟩ = some (.int .i64 c.wk) ∧ w'.cell? ⟨b0, 1, none⟩ = some (.int .i64 c.ch) ∧ w'.cell? ⟨b0, 2, none⟩ = some (.int .i64 c.wo) ∧ w'.cell? ⟨b0, 3, none⟩ = some (.int .i64 c.sl) ∧ w'.cell? ⟨b0, 4, none⟩ = some (.int .i64 c.ca) ∧ w'.cell? ⟨b0, 5, none⟩ = some (.int .i64 c.ba))
    ((first | with_reducible exact HC4.out | with_reducible exact HC3.out | with_reducible exact HC0.out))
    (first
      | (go_at_call 74; refine (link_is H4.out _).mono ?_; rintro e w3 ⟨rfl, U3⟩; have HU3 := Lib.hid ((up_drew w2).trans U3); have HC3 := Lib.hid (show w3.cell? ⟨b0, 0, none⟩ = some (.int .i64 c.wk) ∧ w3.cell? ⟨b0, 1, none⟩ = some (.int .i64 c.ch) ∧ w3.cell? ⟨b0, 2, none⟩ = some (.int .i64 c.wo) ∧ w3.cell? ⟨b0, 3, none⟩ = some (.int .i64 c.sl) ∧ w3.cell? ⟨b0, 4, none⟩ = some (.int .i64 c.ca) ∧ w3.cell? ⟨b0, 5, none⟩ = some (.int .i64 c.ba) from box_cells HB2.out HU3.out); clear U3)
      | (go_at_call 73; refine (snew_yes (HM2.out.up HU3.out) HT.out HN.out).mono ?_; rintro e w4 ⟨rfl, U4, S4⟩; have HU4 := Lib.hid (HU3.out.trans U4); have HS4 := Lib.hid S4; have HC4 := Lib.hid (show w4.cell? ⟨b0, 0, none⟩ = some (.int .i64 c.wk) ∧ w4.cell? ⟨b0, 1, none⟩ = some (.int .i64 c.ch) ∧ w4.cell? ⟨b0, 2, none⟩ = some (.int .i64 c.wo) ∧ w4.cell? ⟨b0, 3, none⟩ = some (.int .i64 c.sl) ∧ w4.cell? ⟨b0, 4, none⟩ = some (.int .i64 c.ca) ∧ w4.cell? ⟨b0, 5, none⟩ = some (.int .i64 c.ba) from box_cells HB2.out HU4.out); clear U4 S4))
  have HQ := Lib.hid (show w.heap.size ≤ w3.heap.size from (HU2.out.trans HU3.out).size)
  obtain ⟨qs, hqs⟩ : ∃ qs, w3.heap.size = qs := ⟨_, rfl⟩
  rw [hqs] at HS4 HQ ⊢
  clear hqs
  obtain ⟨d0, d1, d2, d3, d4, d5⟩ := HC4.out
  go_wp2_with fail
  go_ret2
  obtain ⟨hm, hr, hn⟩ := HR.out
  obtain ⟨ok, n2, n3, n4, n5⟩ := HOK.out
  have M4 := (HM2.out.up HU4.out).up (Up.alloc w4 (.cells (rooRow c p qs) 132))
  have S5 := HS4.out.up (Up.alloc w4 (.cells (rooRow c p qs) 132))
  rw [← hn] at S5
  refine ⟨_, qs, rfl, ⟨Whole.new w4 132 (rooRow c p qs), ⟨M4, S5, ok, S5.ne_type M4.top (by decide), S5.ne_type M4.row (by decide), n2, n3, by omega, by omega, HT.out, .inl (by omega)⟩, hm, hr, hn⟩, (HU2.out.trans HU4.out).size, HQ.out, (HU2.out.trans HU4.out).then_alloc _⟩
set_option maxHeartbeats 4000000 in
theorem chNew_small (m : Mem w p g s) (hm : mayB c = true) (hl : (s.xs.length : Int) < lenN c) :
    Calls Tryz.prog 30 #[.pointer (some ⟨p, 0, none⟩), c.v] w fun e w' => e = .returned (.tuple #[.pointer none, .int .i64 1]) ∧ Up w w' := by
  obtain ⟨L, hL⟩ : ∃ L : Int, lenN c = L := ⟨_, rfl⟩
  obtain ⟨N, hN⟩ : ∃ N : Int, (s.xs.length : Int) = N := ⟨_, rfl⟩
  have i1 : N < L := by omega
  have H1 := Lib.hid hm
  have H2 := Lib.hid hL
  have H3 := Lib.hid hN
  have HM := Lib.hid m
  clear m hm hl hL hN
  obtain ⟨b0, hb0⟩ : ∃ b0, w.heap.size = b0 := ⟨_, rfl⟩
  have HB0 := Lib.hid (Whole.new w 25 #[.int .i64 c.wk, .int .i64 c.ch, .int .i64 c.wo, .int .i64 c.sl, .int .i64 c.ca, .int .i64 c.ba])
  rw [hb0] at HB0
  have HU0 := Lib.hid (Up.alloc w (.cells #[.int .i64 c.wk, .int .i64 c.ch, .int .i64 c.wo, .int .i64 c.sl, .int .i64 c.ca, .int .i64 c.ba] 25))
  go_enter Tryz.func30, Tryz.ntmps30
  go_upto_region 1 with fail
  clear hb0
  generalize w.alloc (.cells #[.int .i64 c.wk, .int .i64 c.ch, .int .i64 c.wo, .int .i64 c.sl, .int .i64 c.ca, .int .i64 c.ba] 25) = w1 at *
  have HM1 := Lib.hid (HM.out.up HU0.out)
  have e0 := cell_class (HB0.out.cell (i := 0) rfl)
  have e1 := cell_class (HB0.out.cell (i := 1) rfl)
  have e2 := cell_class (HB0.out.cell (i := 2) rfl)
  have e3 := cell_class (HB0.out.cell (i := 3) rfl)
  have e4 := cell_class (HB0.out.cell (i := 4) rfl)
  have e5 := cell_class (HB0.out.cell (i := 5) rfl)
  refine wp_region_up (Up.refl w1) (by kernel_rfl) (by kernel_rfl) ?_
  repeat (go_big_quiet_step (first
    | (go_at_call 70; (with_reducible exact up_class (may_is H1.out _)))
    | (go_at_call 72; (with_reducible exact same_class (len_to (HM1.out.up (UpOf.up _)) H3.out)))
    | (go_at_call 29; (with_reducible exact up_class (len_is H2.out _)))))
  refine wpQuiet_nil ?_
  rintro _ ⟨y, rfl⟩
  go_wp2_with fail
  go_ret2
  exact ⟨rfl, HU0.out.trans y.up⟩
set_option maxHeartbeats 4000000 in
theorem chNew_bad (hm : mayB c = false) (w : World) (v : Value) :
    Calls Tryz.prog 30 #[v, c.v] w fun e w' => e = .returned (.tuple #[.pointer none, .int .i64 1]) ∧ Up w w' := by
  have H1 := Lib.hid hm
  clear hm
  obtain ⟨b0, hb0⟩ : ∃ b0, w.heap.size = b0 := ⟨_, rfl⟩
  have HB0 := Lib.hid (Whole.new w 25 #[.int .i64 c.wk, .int .i64 c.ch, .int .i64 c.wo, .int .i64 c.sl, .int .i64 c.ca, .int .i64 c.ba])
  rw [hb0] at HB0
  have HU0 := Lib.hid (Up.alloc w (.cells #[.int .i64 c.wk, .int .i64 c.ch, .int .i64 c.wo, .int .i64 c.sl, .int .i64 c.ca, .int .i64 c.ba] 25))
  go_enter Tryz.func30, Tryz.ntmps30
  go_upto_region 1 with fail
  clear hb0
  generalize w.alloc (.cells #[.int .i64 c.wk, .int .i64 c.ch, .int .i64 c.wo, .int .i64 c.sl, .int .i64 c.ca, .int .i64 c.ba] 25) = w1 at *
  have e0 := cell_class (HB0.out.cell (i := 0) rfl)
  have e1 := cell_class (HB0.out.cell (i := 1) rfl)
  have e2 := cell_class (HB0.out.cell (i := 2) rfl)
  have e3 := cell_class (HB0.out.cell (i := 3) rfl)
  have e4 := cell_class (HB0.out.cell (i := 4) rfl)
  have e5 := cell_class (HB0.out.cell (i := 5) rfl)
  refine wp_region_up (Up.refl w1) (by kernel_rfl) (by kernel_rfl) ?_
  repeat (go_big_quiet_step (first
    | (go_at_call 70; (with_reducible exact up_class (may_is H1.out _)))))
  refine wpQuiet_nil ?_
  rintro _ ⟨y, rfl⟩
  go_wp2_with fail
  go_ret2
  exact ⟨rfl, HU0.out.trans y.up⟩
end
end Go.Proofs.YtkopplnjomkleaaGreat

/-
  Package supply: New, and where it refuses.
-/
namespace Go.Proofs.YtkopplnjomkleaaGreat
open Go.RowKit
open W64
set_option maxRecDepth 100000
set_option linter.unusedSimpArgs false
abbrev cfRow (c : Cf) : Array Value := #[.int .i64 c.wk, .int .i64 c.ch, .int .i64 c.wo, .int .i64 c.sl, .int .i64 c.ca, .int .i64 c.ba]
/-- While a supply is made: the configuration's box, the chains. -/
structure UNew (w w' : World) (b0 q p g qp : Nat) (c : Cf) (lk n : Nat) (s : St) : Prop where
  box : Whole w' b0 25 (cfRow c)
  cha : Cha w' q p g qp c lk n s
  up : Up w w'
section
variable {w w1 w' : World} {b0 q p g qp lk n : Nat} {c : Cf} {s : St} {m : Int}
theorem UNew.ups (Z : UNew w w1 b0 q p g qp c lk n s) (u : Up w1 w') : UNew w w' b0 q p g qp c lk n s := ⟨Z.box.up u, Z.cha.up u, Z.up.trans u⟩
theorem UNew.cells (Z : UNew w w1 b0 q p g qp c lk n s) (u : Up w1 w') : w'.cell? ⟨b0, 4, none⟩ = some (.int .i64 c.ca) ∧ w'.cell? ⟨b0, 5, none⟩ = some (.int .i64 c.ba) := ⟨u.kept (Z.box.cell rfl), u.kept (Z.box.cell rfl)⟩
theorem snew_new (w : World) (a : Int) {m : Int} (h : cutM a = m) : Calls Tryz.prog 63 #[.int .i64 a] w fun e w' => ∃ q, e = .returned (.pointer (some ⟨q, 0, none⟩)) ∧ Sta 167 w' q [q] m [] ∧ w.heap.size ≤ q ∧ Up w w' := h ▸ snew_any w a
theorem lnew_new (w : World) : Calls Tryz.prog 64 #[] w fun e w' => ∃ q, e = .returned (.pointer (some ⟨q, 0, none⟩)) ∧ Lim w' q [q] Lb.zero ∧ w.heap.size ≤ q ∧ Up w w' :=
  (lnew_any w).mono fun _ _ ⟨he, L, U⟩ => ⟨_, he, L, Nat.le_refl _, U⟩
theorem psu_new {w4 : World} {ql qs q0 : Nat} (S : Sta 167 w4 qs [qs] m []) (L : Lim w4 ql [ql] Lb.zero) (hs : w.heap.size ≤ qs) (hl : w.heap.size ≤ ql) (hne : qs ≠ ql) (u : Up w w4) :
    PSu (w4.alloc (.cells (suRow p q0 c.ba qs ql) 115)) w4.heap.size (suRow p q0 c.ba qs ql) qs ql [w4.heap.size, qs, ql] m [] Lb.zero ∧ ∀ x ∈ [w4.heap.size, qs, ql], w.heap.size ≤ x := by
  have h1 := S.lt qs (by simp)
  have h2 := L.lt ql (by simp)
  have h3 := u.size
  exact ⟨⟨[qs], [ql], Whole.new _ _ _, S.up (Up.alloc _ _), L.up (Up.alloc _ _), by simp, by simp, fun x hx => by simp at hx ⊢; omega, by simp; omega, by simp; omega, by simp, fun x hx => by simp at hx ⊢; omega⟩, fun x hx => by simp at hx; omega⟩
set_option maxHeartbeats 8000000 in
theorem suNew (m0 : Mem w p g s) (ok : s.Ok) (ht : s.xs.length ≤ 8388608) (hm : mayB c = true) (hr : (lk : Int) = 3 + c.wk + 2 * c.sl) (hn : (n : Int) = c.ch) (hl : lenN c ≤ (s.xs.length : Int)) (hc : cutM c.ca = m) :
    Calls Tryz.prog 21 #[.pointer (some ⟨p, 0, none⟩), c.v] w fun e w' => ∃ b q qs ql F, e = .returned (.tuple #[.pointer (some ⟨b, 0, none⟩), .int .i64 0]) ∧ PSu w' b (suRow p q c.ba qs ql) qs ql F m [] Lb.zero ∧ (∀ x ∈ F, w.heap.size ≤ x) ∧ Env w' p g q 0 lk n s ∧ w.heap.size ≤ q ∧ q ∉ F ∧ Up w w' := by
  obtain ⟨b0, hb0⟩ : ∃ b0, w.heap.size = b0 := ⟨_, rfl⟩
  have HB0 := Lib.hid (Whole.new w 25 #[.int .i64 c.wk, .int .i64 c.ch, .int .i64 c.wo, .int .i64 c.sl, .int .i64 c.ca, .int .i64 c.ba])
  rw [hb0] at HB0
  have HU0 := Lib.hid (Up.alloc w (.cells #[.int .i64 c.wk, .int .i64 c.ch, .int .i64 c.wo, .int .i64 c.sl, .int .i64 c.ca, .int .i64 c.ba] 25))
  have HN := Lib.hid (chNew (m0.up HU0.out) ok ht hm hr hn hl)
  have HC := Lib.hid hc
  have HBB := Lib.hid hb0
  clear m0 ok ht hm hr hn hl hc
  go_enter Tryz.func21, Tryz.ntmps21
  go_upto_region 1 with fail
  clear hb0
  generalize w.alloc (.cells #[.int .i64 c.wk, .int .i64 c.ch, .int .i64 c.wo, .int .i64 c.sl, .int .i64 c.ca, .int .i64 c.ba] 25) = w1 at *
  have e0 := HB0.out.cell (i := 0) rfl
  have e1 := HB0.out.cell (i := 1) rfl
  have e2 := HB0.out.cell (i := 2) rfl
  have e3 := HB0.out.cell (i := 3) rfl
  have e4 := HB0.out.cell (i := 4) rfl
  have e5 := HB0.out.cell (i := 5) rfl
  go_upto_region 4 with (go_at_call 30; refine HN.out.mono ?_; rintro e w2 ⟨q, qp, rfl, C2, b2, b3, U2⟩; have HZ := Lib.hid (show UNew w w2 b0 q p g qp c _ _ _ from ⟨HB0.out.up U2, C2, HU0.out.trans U2⟩); have HQP := Lib.hid (Nat.le_trans HU0.out.size b3); clear C2 b2 b3 U2)
  clear e0 e1 e2 e3 e4 e5
  have HC0 := Lib.hid (HZ.out.cells (up_drew w2))
  replace HZ := Lib.hid (HZ.out.ups (up_drew w2))
  go_region_held3 (fun w' => w'.cell? ⟨b0, 4, none⟩ = some (.int .i64 c.ca) ∧ w'.cell? ⟨b0, 5, none⟩ = some (.int .i64 c.ba))
    ((first | with_reducible exact HCB.out.1 | with_reducible exact HCB.out.2 _ | with_reducible exact HCA.out.1 | with_reducible exact HCA.out.2 _ | with_reducible exact HC0.out))
    (first
      | (go_at_call 31; (with_reducible refine (chPool HZ.out.cha).mono ?_); rintro e w3 ⟨rfl, rfl⟩)
      | (go_at_call 63; (with_reducible refine (snew_new _ c.ca HC.out).mono ?_); rintro e w3 ⟨qs, rfl, S3, b3, U3⟩; (first | (have HAB := Lib.hid (show qs ≠ ql by have := HL.out.1.lt ql (by simp); omega); replace HL := Lib.hid (show Lim w3 ql [ql] Lb.zero ∧ w.heap.size ≤ ql ∧ qp < ql from ⟨HL.out.1.up U3, HL.out.2⟩); have HCB := Lib.hid (And.intro (HZ.out.cells U3) (fun o : Obj => HZ.out.cells (U3.then_alloc o)))) | have HCA := Lib.hid (And.intro (HZ.out.cells U3) (fun o : Obj => HZ.out.cells (U3.then_alloc o)))); have HS := Lib.hid (And.intro S3 (And.intro (Nat.le_trans HZ.out.up.size b3) (Nat.lt_of_lt_of_le HZ.out.cha.env.stk.lt b3))); replace HZ := Lib.hid (HZ.out.ups U3); clear S3 b3 U3)
      | (go_at_call 64; (with_reducible refine (lnew_new _).mono ?_); rintro e w4 ⟨ql, rfl, L4, b4, U4⟩; (first | (have HAB := Lib.hid (show qs ≠ ql by have := HS.out.1.lt qs (by simp); omega); replace HS := Lib.hid (show Sta 167 w4 qs [qs] m [] ∧ w.heap.size ≤ qs ∧ qp < qs from ⟨HS.out.1.up U4, HS.out.2⟩); have HCB := Lib.hid (And.intro (HZ.out.cells U4) (fun o : Obj => HZ.out.cells (U4.then_alloc o)))) | have HCA := Lib.hid (And.intro (HZ.out.cells U4) (fun o : Obj => HZ.out.cells (U4.then_alloc o)))); have HL := Lib.hid (And.intro L4 (And.intro (Nat.le_trans HZ.out.up.size b4) (Nat.lt_of_lt_of_le HZ.out.cha.env.stk.lt b4))); replace HZ := Lib.hid (HZ.out.ups U4); clear L4 b4 U4))
  all_goals go_wp2_with fail
  all_goals go_ret2
  all_goals have hP := psu_new (p := p) (q0 := qp) (c := c) HS.out.1 HL.out.1 HS.out.2.1 HL.out.2.1 HAB.out HZ.out.up
  all_goals have h1 := HZ.out.cha.env.stk.lt
  all_goals have h2 := HS.out.2.2
  all_goals have h3 := HL.out.2.2
  all_goals exact ⟨_, qp, qs, ql, _, rfl, hP.1, hP.2, (HZ.out.cha.env).up (Up.alloc _ _), HQP.out, by simp; omega, HZ.out.up.then_alloc _⟩
set_option maxHeartbeats 4000000 in
theorem suNew_none (v : Value) (w : World) (hN : ∀ w0, Up w w0 → Calls Tryz.prog 30 #[v, c.v] w0 fun e w' => e = .returned (.tuple #[.pointer none, .int .i64 1]) ∧ Up w0 w') :
    Calls Tryz.prog 21 #[v, c.v] w fun e w' => e = .returned (.tuple #[.pointer none, .int .i64 1]) ∧ Up w w' := by
  obtain ⟨b0, hb0⟩ : ∃ b0, w.heap.size = b0 := ⟨_, rfl⟩
  have HB0 := Lib.hid (Whole.new w 25 #[.int .i64 c.wk, .int .i64 c.ch, .int .i64 c.wo, .int .i64 c.sl, .int .i64 c.ca, .int .i64 c.ba])
  rw [hb0] at HB0
  have HU0 := Lib.hid (Up.alloc w (.cells #[.int .i64 c.wk, .int .i64 c.ch, .int .i64 c.wo, .int .i64 c.sl, .int .i64 c.ca, .int .i64 c.ba] 25))
  have HN := Lib.hid (hN _ HU0.out)
  clear hN
  go_enter Tryz.func21, Tryz.ntmps21
  go_upto_region 1 with fail
  clear hb0
  generalize w.alloc (.cells #[.int .i64 c.wk, .int .i64 c.ch, .int .i64 c.wo, .int .i64 c.sl, .int .i64 c.ca, .int .i64 c.ba] 25) = w1 at *
  have e0 := HB0.out.cell (i := 0) rfl
  have e1 := HB0.out.cell (i := 1) rfl
  have e2 := HB0.out.cell (i := 2) rfl
  have e3 := HB0.out.cell (i := 3) rfl
  have e4 := HB0.out.cell (i := 4) rfl
  have e5 := HB0.out.cell (i := 5) rfl
  go_wp2_with (go_at_call 30; refine HN.out.mono ?_; rintro e w2 ⟨rfl, U2⟩; have HU2 := Lib.hid U2; clear U2)
  go_ret2
  exact ⟨rfl, HU0.out.trans HU2.out⟩
theorem suNew_small (m0 : Mem w p g s) (hm : mayB c = true) (hl : (s.xs.length : Int) < lenN c) :
    Calls Tryz.prog 21 #[.pointer (some ⟨p, 0, none⟩), c.v] w fun e w' => e = .returned (.tuple #[.pointer none, .int .i64 1]) ∧ Up w w' :=
  suNew_none _ w (fun _ u => chNew_small (m0.up u) hm hl)
theorem suNew_bad (hm : mayB c = false) (w : World) (v : Value) :
    Calls Tryz.prog 21 #[v, c.v] w fun e w' => e = .returned (.tuple #[.pointer none, .int .i64 1]) ∧ Up w w' :=
  suNew_none _ w (fun w0 _ => chNew_bad hm w0 v)
end
end Go.Proofs.YtkopplnjomkleaaGreat

/-
  Slices of pointers to supplies, the program's (PtrsU) and the document's (PtrsR): append of one, as a step of a list and of a region that draws.
-/
namespace Go.Proofs.YtkopplnjomkleaaGreat
open Go.RowKit
set_option maxRecDepth 100000
def PtrsU (w : World) (v : Value) (bs : List Nat) : Prop := w.ownsRow 0 59 1 v bs.length (bs.map fun b => .pointer (some ⟨b, 0, none⟩))
section
variable {w w' : World} {v : Value} {bs : List Nat} {b x : Nat}
theorem PtrsU.nil (w : World) : PtrsU w (.slice none 0 0) [] := ⟨rfl, .inl ⟨rfl, rfl⟩⟩
theorem PtrsU.up (h : PtrsU w v bs) (u : Up w w') : PtrsU w' v bs := own_up h u
theorem PtrsU.else {l : List Nat} (h : PtrsU w v bs) (u : Else l w w') (a : ∀ k, v.ownBlock = some k → k ∉ l) : PtrsU w' v bs := by
  refine ⟨h.1, ?_⟩
  rcases h.2 with h | ⟨g, cap, cur, rfl, hb, hh, r⟩
  · exact .inl h
  · exact .inr ⟨g, cap, cur, rfl, hb, u.heap hh (a _ rfl), r⟩
theorem PtrsU.nb (h : PtrsU w v bs) {t : TypeId} {cs : Array Value} (B : Whole w b t cs) (ht : 59 ≠ t) : v.ownBlock ≠ some b := by
  rcases h.2 with ⟨rfl, _⟩ | ⟨a, cap, cur, rfl, _, hh, _⟩
  · simp [Value.ownBlock]
  · intro e
    simp [Value.ownBlock] at e
    exact (show Whole w a 59 cur from hh).ne_type B ht e
theorem PtrsU.lt (h : PtrsU w v bs) {k : Nat} (hk : v.ownBlock = some k) : k < w.heap.size := by
  rcases h.2 with ⟨rfl, _⟩ | ⟨g, cap, cur, rfl, _, hh, _⟩
  · simp [Value.ownBlock] at hk
  · simp [Value.ownBlock] at hk; subst hk; exact some_lt hh
theorem PtrsU.slice (h : PtrsU w v bs) : ∃ A cap, v = .slice A bs.length cap := own_slice h
theorem PtrsU.get (h : PtrsU w v bs) {u : Nat} (hu : u < bs.length) : ∃ r cap b, v = .slice (some ⟨r, 0, none⟩) bs.length cap ∧ bs[u]? = some b ∧ w.cell? ⟨r, u, none⟩ = some (.pointer (some ⟨b, 0, none⟩)) := by
  obtain ⟨A, cap, rfl⟩ := own_slice h
  obtain ⟨r, rfl, hc⟩ := own_cell h hu
  refine ⟨r, cap, bs[u], rfl, by simp [hu], ?_⟩
  rw [hc]; simp [hu]
theorem info_ptrU : (Tryz.prog.info? 59).map (fun i => (i.zero, i.size, i.bytes)) = some (some (.pointer none), 1, 8) := by kernel_rfl
theorem info_ptrsU : ∃ i9, Tryz.prog.info? 59 = some i9 ∧ i9.zero = some (.pointer none) ∧ i9.size = 1 ∧ i9.bytes = 8 := by
  have h := info_ptrU
  cases hi : Tryz.prog.info? 59 with
  | none => rw [hi] at h; simp at h
  | some i =>
    rw [hi] at h
    simp at h
    exact ⟨i, rfl, h.1, h.2.1, h.2.2⟩
theorem run_ptrU (ty : TypeId) (J : PtrsU w v bs) (hx : w.cell? ⟨x, 0, none⟩ = some (.pointer (some ⟨b, 0, none⟩))) (hl : bs.length ≤ 100) :
    ∃ v' w', (Builtin.append_ #[47, 47] ty #[v, .slice (some ⟨x, 0, none⟩) 1 1]).run Tryz.prog w = .ok v' w' ∧ PtrsU w' v' (bs ++ [b]) ∧ w.grownBy w' v.ownBlock ∧ (v'.ownBlock = v.ownBlock ∨ v'.ownBlock = some w.heap.size) := by
  obtain ⟨i9, hi, hz0, hz1, hz2⟩ := info_ptrsU
  have news : ∀ (j : Nat) (u : Value), [Value.pointer (some ⟨b, 0, none⟩)][j]? = some u → w.cell? ((⟨x, 0, none⟩ : Addr).add j) = some u := by
    intro j u hj
    match j, hj with
    | 0, hj => simp at hj; subst hj; simpa [Addr.add] using hx
    | j + 1, hj => simp at hj
  obtain ⟨g, c, w', hr, h2, h3, h4, h5⟩ := run_append_lies (P := Tryz.prog) w 47 ty 0 59 i9 (.pointer none) 1 8 Tryz.underlying47 hi hz0 hz1 hz2 rfl (by decide) v bs.length (bs.map fun b => .pointer (some ⟨b, 0, none⟩)) J ⟨x, 0, none⟩ 1 1 [.pointer (some ⟨b, 0, none⟩)] (by simp) news (by simp [Value.oneCell']) (by decide) (by unfold maxLen; omega) (by omega) (Nat.zero_le _) _ rfl
  refine ⟨_, w', hr, ⟨?_, ?_⟩, h3, ?_⟩
  · simp
  · have := h2.2
    simpa using this
  · rcases h4 with h | h
    · exact .inl h.symm
    · exact .inr (by rw [h]; rfl)
theorem wp_ptrU {o : Oper} {a : Act} {K : Act → World → Prop} {Q : Exit → Act → World → Prop} (s y : Operand)
    (ho : o.op = .call { callee := .builtin .append, args := #[s, y], argTypes := #[47, 47] }) (hs : a.eval s = v) (hx : a.eval y = .slice (some ⟨x, 0, none⟩) 1 1) (J : PtrsU w v bs) (hc : w.cell? ⟨x, 0, none⟩ = some (.pointer (some ⟨b, 0, none⟩))) (hl : bs.length ≤ 100)
    (h : ∀ v' w', PtrsU w' v' (bs ++ [b]) → w.grownBy w' v.ownBlock → (v'.ownBlock = v.ownBlock ∨ v'.ownBlock = some w.heap.size) → K (a.put o.dst v') w') : o.wp Tryz.prog a w K Q := by
  obtain ⟨v', w', hr, h2, h3, h4⟩ := run_ptrU o.type J hc hl
  unfold Oper.wp execOp
  simp only [ho, resolve, invoke, builtin, Sem.run_bind, Sem.run_pure, Result.andThen_ok, List.map_toArray, List.map_cons, List.map_nil, hs, hx, hr]
  exact h v' w' h2 h3 h4
theorem wpList_ptrU {ops : Array Oper} {rest : List Oper} {o : Oper} {a : Act} {Q : Exit → Act → World → Prop} (hgd : o.guard = none) (s y : Operand)
    (ho : o.op = .call { callee := .builtin .append, args := #[s, y], argTypes := #[47, 47] }) (hs : a.eval s = v) (hx : a.eval y = .slice (some ⟨x, 0, none⟩) 1 1) (J : PtrsU w v bs) (hc : w.cell? ⟨x, 0, none⟩ = some (.pointer (some ⟨b, 0, none⟩))) (hl : bs.length ≤ 100)
    (h : ∀ v' w', PtrsU w' v' (bs ++ [b]) → w.grownBy w' v.ownBlock → (v'.ownBlock = v.ownBlock ∨ v'.ownBlock = some w.heap.size) → wpList Tryz.prog ops Q rest (a.put o.dst v') w') : wpList Tryz.prog ops Q (o :: rest) a w :=
  wpList_plain hgd fun _ hK => wp_ptrU s y ho hs hx J hc hl fun v' w' h2 h3 h4 => hK _ _ (h v' w' h2 h3 h4)
theorem step_ptrU {ops : Array Oper} {o : Oper} {a : Act} {K : Act → World → Prop} {Q : Exit → Act → World → Prop} {E : Prop} (hgd : o.guard = none) (s y : Operand)
    (ho : o.op = .call { callee := .builtin .append, args := #[s, y], argTypes := #[47, 47] }) (hs : a.eval s = v) (hx : a.eval y = .slice (some ⟨x, 0, none⟩) 1 1) (J : PtrsU w v bs) (hc : w.cell? ⟨x, 0, none⟩ = some (.pointer (some ⟨b, 0, none⟩))) (hl : bs.length ≤ 100)
    (h : ∀ v' w', PtrsU w' v' (bs ++ [b]) → w.grownBy w' v.ownBlock → (v'.ownBlock = v.ownBlock ∨ v'.ownBlock = some w.heap.size) → K (a.put o.dst v') w') : if Region.wanted o (yielded ops a.tmps) = true then Oper.wp Tryz.prog o a w K Q else E := by
  have hw : Region.wanted o (yielded ops a.tmps) = true := by simp [Region.wanted, hgd]
  rw [if_pos hw]
  exact wp_ptrU s y ho hs hx J hc hl h
end
def PtrsR (w : World) (v : Value) (bs : List Nat) : Prop := w.ownsRow 0 86 1 v bs.length (bs.map fun b => .pointer (some ⟨b, 0, none⟩))
section
variable {w w' : World} {v : Value} {bs : List Nat} {b x : Nat}
theorem PtrsR.nil (w : World) : PtrsR w (.slice none 0 0) [] := ⟨rfl, .inl ⟨rfl, rfl⟩⟩
theorem PtrsR.up (h : PtrsR w v bs) (u : Up w w') : PtrsR w' v bs := own_up h u
theorem PtrsR.else {l : List Nat} (h : PtrsR w v bs) (u : Else l w w') (a : ∀ k, v.ownBlock = some k → k ∉ l) : PtrsR w' v bs := by
  refine ⟨h.1, ?_⟩
  rcases h.2 with h | ⟨g, cap, cur, rfl, hb, hh, r⟩
  · exact .inl h
  · exact .inr ⟨g, cap, cur, rfl, hb, u.heap hh (a _ rfl), r⟩
theorem PtrsR.nb (h : PtrsR w v bs) {t : TypeId} {cs : Array Value} (B : Whole w b t cs) (ht : 86 ≠ t) : v.ownBlock ≠ some b := by
  rcases h.2 with ⟨rfl, _⟩ | ⟨a, cap, cur, rfl, _, hh, _⟩
  · simp [Value.ownBlock]
  · intro e
    simp [Value.ownBlock] at e
    exact (show Whole w a 86 cur from hh).ne_type B ht e
theorem PtrsR.lt (h : PtrsR w v bs) {k : Nat} (hk : v.ownBlock = some k) : k < w.heap.size := by
  rcases h.2 with ⟨rfl, _⟩ | ⟨g, cap, cur, rfl, _, hh, _⟩
  · simp [Value.ownBlock] at hk
  · simp [Value.ownBlock] at hk; subst hk; exact some_lt hh
theorem PtrsR.slice (h : PtrsR w v bs) : ∃ A cap, v = .slice A bs.length cap := own_slice h
theorem PtrsR.get (h : PtrsR w v bs) {u : Nat} (hu : u < bs.length) : ∃ r cap b, v = .slice (some ⟨r, 0, none⟩) bs.length cap ∧ bs[u]? = some b ∧ w.cell? ⟨r, u, none⟩ = some (.pointer (some ⟨b, 0, none⟩)) := by
  obtain ⟨A, cap, rfl⟩ := own_slice h
  obtain ⟨r, rfl, hc⟩ := own_cell h hu
  refine ⟨r, cap, bs[u], rfl, by simp [hu], ?_⟩
  rw [hc]; simp [hu]
theorem info_ptrR : (Tryz.prog.info? 86).map (fun i => (i.zero, i.size, i.bytes)) = some (some (.pointer none), 1, 8) := by kernel_rfl
theorem info_ptrsR : ∃ i9, Tryz.prog.info? 86 = some i9 ∧ i9.zero = some (.pointer none) ∧ i9.size = 1 ∧ i9.bytes = 8 := by
  have h := info_ptrR
  cases hi : Tryz.prog.info? 86 with
  | none => rw [hi] at h; simp at h
  | some i =>
    rw [hi] at h
    simp at h
    exact ⟨i, rfl, h.1, h.2.1, h.2.2⟩
theorem run_ptrR (ty : TypeId) (J : PtrsR w v bs) (hx : w.cell? ⟨x, 0, none⟩ = some (.pointer (some ⟨b, 0, none⟩))) (hl : bs.length ≤ 100) :
    ∃ v' w', (Builtin.append_ #[49, 49] ty #[v, .slice (some ⟨x, 0, none⟩) 1 1]).run Tryz.prog w = .ok v' w' ∧ PtrsR w' v' (bs ++ [b]) ∧ w.grownBy w' v.ownBlock ∧ (v'.ownBlock = v.ownBlock ∨ v'.ownBlock = some w.heap.size) := by
  obtain ⟨i9, hi, hz0, hz1, hz2⟩ := info_ptrsR
  have news : ∀ (j : Nat) (u : Value), [Value.pointer (some ⟨b, 0, none⟩)][j]? = some u → w.cell? ((⟨x, 0, none⟩ : Addr).add j) = some u := by
    intro j u hj
    match j, hj with
    | 0, hj => simp at hj; subst hj; simpa [Addr.add] using hx
    | j + 1, hj => simp at hj
  obtain ⟨g, c, w', hr, h2, h3, h4, h5⟩ := run_append_lies (P := Tryz.prog) w 49 ty 0 86 i9 (.pointer none) 1 8 Tryz.underlying49 hi hz0 hz1 hz2 rfl (by decide) v bs.length (bs.map fun b => .pointer (some ⟨b, 0, none⟩)) J ⟨x, 0, none⟩ 1 1 [.pointer (some ⟨b, 0, none⟩)] (by simp) news (by simp [Value.oneCell']) (by decide) (by unfold maxLen; omega) (by omega) (Nat.zero_le _) _ rfl
  refine ⟨_, w', hr, ⟨?_, ?_⟩, h3, ?_⟩
  · simp
  · have := h2.2
    simpa using this
  · rcases h4 with h | h
    · exact .inl h.symm
    · exact .inr (by rw [h]; rfl)
theorem wp_ptrR {o : Oper} {a : Act} {K : Act → World → Prop} {Q : Exit → Act → World → Prop} (s y : Operand)
    (ho : o.op = .call { callee := .builtin .append, args := #[s, y], argTypes := #[49, 49] }) (hs : a.eval s = v) (hx : a.eval y = .slice (some ⟨x, 0, none⟩) 1 1) (J : PtrsR w v bs) (hc : w.cell? ⟨x, 0, none⟩ = some (.pointer (some ⟨b, 0, none⟩))) (hl : bs.length ≤ 100)
    (h : ∀ v' w', PtrsR w' v' (bs ++ [b]) → w.grownBy w' v.ownBlock → (v'.ownBlock = v.ownBlock ∨ v'.ownBlock = some w.heap.size) → K (a.put o.dst v') w') : o.wp Tryz.prog a w K Q := by
  obtain ⟨v', w', hr, h2, h3, h4⟩ := run_ptrR o.type J hc hl
  unfold Oper.wp execOp
  simp only [ho, resolve, invoke, builtin, Sem.run_bind, Sem.run_pure, Result.andThen_ok, List.map_toArray, List.map_cons, List.map_nil, hs, hx, hr]
  exact h v' w' h2 h3 h4
theorem wpList_ptrR {ops : Array Oper} {rest : List Oper} {o : Oper} {a : Act} {Q : Exit → Act → World → Prop} (hgd : o.guard = none) (s y : Operand)
    (ho : o.op = .call { callee := .builtin .append, args := #[s, y], argTypes := #[49, 49] }) (hs : a.eval s = v) (hx : a.eval y = .slice (some ⟨x, 0, none⟩) 1 1) (J : PtrsR w v bs) (hc : w.cell? ⟨x, 0, none⟩ = some (.pointer (some ⟨b, 0, none⟩))) (hl : bs.length ≤ 100)
    (h : ∀ v' w', PtrsR w' v' (bs ++ [b]) → w.grownBy w' v.ownBlock → (v'.ownBlock = v.ownBlock ∨ v'.ownBlock = some w.heap.size) → wpList Tryz.prog ops Q rest (a.put o.dst v') w') : wpList Tryz.prog ops Q (o :: rest) a w :=
  wpList_plain hgd fun _ hK => wp_ptrR s y ho hs hx J hc hl fun v' w' h2 h3 h4 => hK _ _ (h v' w' h2 h3 h4)
theorem step_ptrR {ops : Array Oper} {o : Oper} {a : Act} {K : Act → World → Prop} {Q : Exit → Act → World → Prop} {E : Prop} (hgd : o.guard = none) (s y : Operand)
    (ho : o.op = .call { callee := .builtin .append, args := #[s, y], argTypes := #[49, 49] }) (hs : a.eval s = v) (hx : a.eval y = .slice (some ⟨x, 0, none⟩) 1 1) (J : PtrsR w v bs) (hc : w.cell? ⟨x, 0, none⟩ = some (.pointer (some ⟨b, 0, none⟩))) (hl : bs.length ≤ 100)
    (h : ∀ v' w', PtrsR w' v' (bs ++ [b]) → w.grownBy w' v.ownBlock → (v'.ownBlock = v.ownBlock ∨ v'.ownBlock = some w.heap.size) → K (a.put o.dst v') w') : if Region.wanted o (yielded ops a.tmps) = true then Oper.wp Tryz.prog o a w K Q else E := by
  have hw : Region.wanted o (yielded ops a.tmps) = true := by simp [Region.wanted, hgd]
  rw [if_pos hw]
  exact wp_ptrR s y ho hs hx J hc hl h
end
end Go.Proofs.YtkopplnjomkleaaGreat
