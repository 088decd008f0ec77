/-
  Texts beneath SupplyAll, part 21: RefMade, SupZero.
-/
import Derived.Test.YtkopplnjomkleaaGreatPart20
/-
  The reference's W is made (New): both stacks filled, and the epoch's object, all told (rnewP).
-/
namespace Go.Proofs.YtkopplnjomkleaaGreat
open Go.RowKit
open W64
set_option maxRecDepth 100000
/-- While W is made: the configuration at b0, W at k with the three objects v1 v2 v3, the memory at p, g. -/
structure NW (W0 w : World) (b0 k p g : Nat) (c : Cf) (v1 v2 v3 : Value) (xs : List Int) : Prop where
  cf : Whole w b0 25 #[.int .i64 c.wk, .int .i64 c.ch, .int .i64 c.wo, .int .i64 c.sl, .int .i64 c.ca, .int .i64 c.ba]
  obj : Whole w k 57 #[.int .i64 c.wk, .int .i64 c.ch, .int .i64 c.wo, .int .i64 c.sl, .int .i64 c.ca, .int .i64 c.ba, .pointer (some ⟨p, 0, none⟩), v1, v2, v3]
  ref : Ref w p g xs 0
  up : Up W0 w
  kn : W0.heap.size ≤ k
  pn : W0.heap.size ≤ p
  gn : W0.heap.size ≤ g
section
variable {W0 w w' : World} {k p g qp qs qe r0 n b0 : Nat} {c : Cf} {xs xs' : List Int} {cnt cnt' : Int} {v1 v2 v3 : Value}
theorem NW.then (N : NW W0 w b0 k p g c v1 v2 v3 xs) (u : Up w w') : NW W0 w' b0 k p g c v1 v2 v3 xs := ⟨N.cf.up u, N.obj.up u, N.ref.up u, N.up.trans u, N.kn, N.pn, N.gn⟩
theorem NW.cells (N : NW W0 w b0 k p g c v1 v2 v3 xs) : w.cell? ⟨b0, 0, none⟩ = some (.int .i64 c.wk) ∧ w.cell? ⟨b0, 1, none⟩ = some (.int .i64 c.ch) ∧ w.cell? ⟨b0, 2, none⟩ = some (.int .i64 c.wo) ∧ w.cell? ⟨b0, 3, none⟩ = some (.int .i64 c.sl) ∧ w.cell? ⟨b0, 4, none⟩ = some (.int .i64 c.ca) ∧ w.cell? ⟨b0, 5, none⟩ = some (.int .i64 c.ba) := ⟨N.cf.cell rfl, N.cf.cell rfl, N.cf.cell rfl, N.cf.cell rfl, N.cf.cell rfl, N.cf.cell rfl⟩
theorem NW.put1 (N : NW W0 w b0 k p g c v1 v2 v3 xs) (v : Value) : NW W0 (w.setCell ⟨k, 7, none⟩ v) b0 k p g c v v2 v3 xs := by
  have u : Else [k] w (w.setCell ⟨k, 7, none⟩ v) := (Else.refl [k] w).set (.inl (by simp)) _
  have h1 := N.obj.ne_type N.cf (by decide)
  have h2 := N.obj.ne_type N.ref.top (by decide)
  have h3 := N.obj.ne_type N.ref.row (by decide)
  exact ⟨u.whole N.cf (by simp [h1.symm]), N.obj.set 7 v, N.ref.else u (by simp [h2.symm]) (by simp [h3.symm]), N.up.set N.kn v, N.kn, N.pn, N.gn⟩
theorem NW.put2 (N : NW W0 w b0 k p g c v1 v2 v3 xs) (v : Value) : NW W0 (w.setCell ⟨k, 8, none⟩ v) b0 k p g c v1 v v3 xs := by
  have u : Else [k] w (w.setCell ⟨k, 8, none⟩ v) := (Else.refl [k] w).set (.inl (by simp)) _
  have h1 := N.obj.ne_type N.cf (by decide)
  have h2 := N.obj.ne_type N.ref.top (by decide)
  have h3 := N.obj.ne_type N.ref.row (by decide)
  exact ⟨u.whole N.cf (by simp [h1.symm]), N.obj.set 8 v, N.ref.else u (by simp [h2.symm]) (by simp [h3.symm]), N.up.set N.kn v, N.kn, N.pn, N.gn⟩
theorem NW.put3 (N : NW W0 w b0 k p g c v1 v2 v3 xs) (v : Value) : NW W0 (w.setCell ⟨k, 9, none⟩ v) b0 k p g c v1 v2 v xs := by
  have u : Else [k] w (w.setCell ⟨k, 9, none⟩ v) := (Else.refl [k] w).set (.inl (by simp)) _
  have h1 := N.obj.ne_type N.cf (by decide)
  have h2 := N.obj.ne_type N.ref.top (by decide)
  have h3 := N.obj.ne_type N.ref.row (by decide)
  exact ⟨u.whole N.cf (by simp [h1.symm]), N.obj.set 9 v, N.ref.else u (by simp [h2.symm]) (by simp [h3.symm]), N.up.set N.kn v, N.kn, N.pn, N.gn⟩
theorem NW.turn (N : NW W0 w b0 k p g c v1 v2 v3 xs) (m : Ref w' p g xs' 0) (u : Else [p, g] w w') : NW W0 w' b0 k p g c v1 v2 v3 xs' := by
  have h1 := N.cf.ne_type N.ref.top (by decide)
  have h2 := N.cf.ne_type N.ref.row (by decide)
  have h3 := N.obj.ne_type N.ref.top (by decide)
  have h4 := N.obj.ne_type N.ref.row (by decide)
  refine ⟨u.whole N.cf (by simp [h1, h2]), u.whole N.obj (by simp [h3, h4]), m, Else.up_new N.up u ?_, N.kn, N.pn, N.gn⟩
  intro j hj
  simp at hj
  rcases hj with rfl | rfl
  · exact N.pn
  · exact N.gn
theorem rlinkat_to (c : Cf) {i y : Int} (h : llinkN c i = y) (w : World) : Calls Tryz.prog 78 #[cfV c, .int .i64 i] w fun e w' => e = .returned (.int .i64 y) ∧ Up w w' := h ▸ rlink_any c i w
theorem rslotat_to (c : Cf) {i y : Int} (h : lslotN c i = y) (w : World) : Calls Tryz.prog 35 #[cfV c, .int .i64 i] w fun e w' => e = .returned (.int .i64 y) ∧ Up w w' := h ▸ rslot_any c i w
theorem rpinat_to (c : Cf) {i y : Int} (h : lpinN c i = y) (w : World) : Calls Tryz.prog 79 #[cfV c, .int .i64 i] w fun e w' => e = .returned (.int .i64 y) ∧ Up w w' := h ▸ rpin_any c i w
theorem rlenat_to (c : Cf) {y : Int} (h : lenN c = y) (w : World) : Calls Tryz.prog 77 #[cfV c] w fun e w' => e = .returned (.int .i64 y) ∧ Up w w' := h ▸ rlen_any c w
theorem nw_nums {c : Cf} (hm : mayB c = true) (hr : (r0 : Int) = 3 + c.wk) (hn : (n : Int) = c.sl) {ch L : Nat} (hc : (ch : Int) = c.ch) (hL : (L : Int) = lenN c) :
    llinkN c 0 = ((r0 + 2 * n : Nat) : Int) ∧ lslotN c 0 = ((r0 + n : Nat) : Int) ∧ 1 ≤ ch ∧ ch ≤ 4096 ∧ 1 ≤ n ∧ n ≤ 4096 ∧ r0 + 2 * n + ch ≤ L ∧ L ≤ 8388608 ∧ 4 ≤ r0 ∧ 0 ≤ c.wk ∧ c.wk ≤ 64 := by
  obtain ⟨h1, h2, h3, h4, h5, h6⟩ := may_small hm
  have h7 := lenN_small hm
  have h8 := lenN_is hm
  unfold fwN at h8
  refine ⟨?_, ?_, by omega, by omega, by omega, by omega, by omega, by omega, by omega, by omega, by omega⟩
  · unfold llinkN; rw [atN_is hm (by omega) (by omega)]; omega
  · unfold lslotN; rw [atN_is hm (by omega) (by omega)]; omega
theorem rep_ok (L : Nat) : ∀ i, 0 ≤ (List.replicate L (0 : Int)).getD i 0 ∧ (List.replicate L (0 : Int)).getD i 0 < 18446744073709551616 := by
  intro i
  have : (List.replicate L (0 : Int)).getD i 0 = 0 := by
    rw [List.getD_eq_getElem?_getD, List.getElem?_replicate]
    split <;> rfl
  rw [this]; decide
def newXs (L r0 n ch : Nat) : List Int := fillR ((fillR ((List.replicate L 0).set 0 1) (r0 + 2 * n) ch ch).set 1 1) (r0 + n) n n
set_option maxHeartbeats 8000000 in
theorem rnewP (c : Cf) (hm : mayB c = true) (hr : (r0 : Int) = 3 + c.wk) (hn : (n : Int) = c.sl) {ch L : Nat} (hc : (ch : Int) = c.ch) (hL : (L : Int) = lenN c) (w : World) :
    Calls Tryz.prog 33 #[cfV c] w fun e w' => ∃ k p g qp qs qe, e = .returned (.pointer (some ⟨k, 0, none⟩)) ∧ RW w' k p g qp qs qe c r0 n (newXs L r0 n ch) 0 ∧ Up w w' ∧ w.heap.size ≤ k ∧ w.heap.size ≤ p ∧ w.heap.size ≤ g ∧ REnv w' p g qp 0 (r0 + 2 * n) ch (newXs L r0 n ch) 0 ∧ Whole w' qe 135 #[.pointer (some ⟨p, 0, none⟩), .int .i64 2, .int .i64 (lpinN c 0), .int .i64 c.wk] := by
  obtain ⟨n1, n2, n3, n4, n5, n6, n7, n8, n9, n10, n11⟩ := nw_nums hm hr hn hc hL
  obtain ⟨lk, hlk⟩ : ∃ lk, r0 + 2 * n = lk := ⟨_, rfl⟩
  obtain ⟨ls, hls⟩ : ∃ ls, r0 + n = ls := ⟨_, rfl⟩
  rw [hlk] at n1
  rw [hls] at n2
  have H1 := Lib.hid n1
  have H2 := Lib.hid n2
  have HLK := Lib.hid (And.intro hlk hls)
  obtain ⟨pn, hpn⟩ : ∃ y, lpinN c 0 = y := ⟨_, rfl⟩
  have H3 := Lib.hid hpn
  have H4 := Lib.hid hL.symm
  have HM := Lib.hid (And.intro hm (And.intro hr hn))
  have HCH := Lib.hid hc
  obtain ⟨b0, hb0⟩ : ∃ b0, w.heap.size = b0 := ⟨_, rfl⟩
  have HW0 := Lib.hid (Whole.new w 25 #[.int .i64 c.wk, .int .i64 c.ch, .int .i64 c.wo, .int .i64 c.sl, .int .i64 c.ca, .int .i64 c.ba])
  rw [hb0] at HW0
  have HU0 := Lib.hid (Up.alloc w (.cells #[.int .i64 c.wk, .int .i64 c.ch, .int .i64 c.wo, .int .i64 c.sl, .int .i64 c.ca, .int .i64 c.ba] 25))
  clear n1 n2 hpn hm hr hn hc hL hlk hls
  go_enter Tryz.func33, Tryz.ntmps33
  go_upto_region 1 with fail
  clear hb0
  generalize w.alloc (.cells #[.int .i64 c.wk, .int .i64 c.ch, .int .i64 c.wo, .int .i64 c.sl, .int .i64 c.ca, .int .i64 c.ba] 25) = w1 at *
  have e0 := HW0.out.cell (i := 0) rfl
  have e1 := HW0.out.cell (i := 1) rfl
  have e2 := HW0.out.cell (i := 2) rfl
  have e3 := HW0.out.cell (i := 3) rfl
  have e4 := HW0.out.cell (i := 4) rfl
  have e5 := HW0.out.cell (i := 5) rfl
  go_upto_region 3 with (first
    | (go_at_call 77; refine (rlenat_to c H4.out _).mono ?_; rintro e w2 ⟨rfl, U2⟩; have HU2 := Lib.hid U2; clear U2)
    | (go_at_call 76; refine (rnew_in L n8 _).mono ?_; rintro e w3 ⟨rfl, M3, U3⟩; have HM3 := Lib.hid M3; have HW3 := Lib.hid ((HW0.out.up HU2.out).up U3); have HU3 := Lib.hid ((HU0.out.trans HU2.out).trans U3); have HS2 := Lib.hid (show w.heap.size ≤ w2.heap.size from (HU0.out.trans HU2.out).size); have g0 := HW3.out.cell (i := 0) rfl; have g1 := HW3.out.cell (i := 1) rfl; have g2 := HW3.out.cell (i := 2) rfl; have g3 := HW3.out.cell (i := 3) rfl; have g4 := HW3.out.cell (i := 4) rfl; have g5 := HW3.out.cell (i := 5) rfl; clear M3 U3))
  clear e0 e1 e2 e3 e4 e5 g0 g1 g2 g3 g4 g5
  have HN0 := Lib.hid (show NW w (w3.alloc (.cells #[.int .i64 c.wk, .int .i64 c.ch, .int .i64 c.wo, .int .i64 c.sl, .int .i64 c.ca, .int .i64 c.ba, .pointer (some ⟨w2.heap.size + 1, 0, none⟩), .pointer none, .pointer none, .pointer none] 57)) b0 w3.heap.size (w2.heap.size + 1) w2.heap.size c (.pointer none) (.pointer none) (.pointer none) (List.replicate L 0) from
    ⟨HW3.out.up (Up.alloc _ _), Whole.new _ _ _, HM3.out.up (Up.alloc _ _), HU3.out.then_alloc _, HU3.out.size, Nat.le_succ_of_le HS2.out, HS2.out⟩)
  obtain ⟨k, hk⟩ : ∃ k, w3.heap.size = k := ⟨_, rfl⟩
  obtain ⟨g, hg⟩ : ∃ g, w2.heap.size = g := ⟨_, rfl⟩
  obtain ⟨p, hp⟩ : ∃ p, g + 1 = p := ⟨_, rfl⟩
  rw [hk, hg, hp] at HN0
  rw [hk, hg, hp]
  clear hk hg hp
  have HN3 := HN0
  generalize w3.alloc (.cells #[.int .i64 c.wk, .int .i64 c.ch, .int .i64 c.wo, .int .i64 c.sl, .int .i64 c.ca, .int .i64 c.ba, .pointer (some ⟨p, 0, none⟩), .pointer none, .pointer none, .pointer none] 57) = w4 at *
  have HN4 := HN3
  clear HN3 HN0
  have HC4 := Lib.hid (show w4.drew.cell? ⟨b0, 0, none⟩ = some (.int .i64 c.wk) ∧ w4.drew.cell? ⟨b0, 1, none⟩ = some (.int .i64 c.ch) ∧ w4.drew.cell? ⟨b0, 2, none⟩ = some (.int .i64 c.wo) ∧ w4.drew.cell? ⟨b0, 3, none⟩ = some (.int .i64 c.sl) ∧ w4.drew.cell? ⟨b0, 4, none⟩ = some (.int .i64 c.ca) ∧ w4.drew.cell? ⟨b0, 5, none⟩ = some (.int .i64 c.ba) from (HN4.out.then (up_drew w4)).cells)
  go_region_held3 (fun w' => w'.cell? ⟨b0, 0, none⟩ = some (.int .i64 c.wk) ∧ w'.cell? ⟨b0, 1, none⟩ = some (.int .i64 c.ch) ∧ w'.cell? ⟨b0, 2, none⟩ = some (.int .i64 c.wo) ∧ w'.cell? ⟨b0, 3, none⟩ = some (.int .i64 c.sl) ∧ w'.cell? ⟨b0, 4, none⟩ = some (.int .i64 c.ca) ∧ w'.cell? ⟨b0, 5, none⟩ = some (.int .i64 c.ba))
    ((first
      | with_reducible exact HZ4.out
      | with_reducible exact HB4.out
      | with_reducible exact HY4.out
      | with_reducible exact HC4.out))
    (first
      | (go_at_call 78; refine (rlinkat_to c H1.out _).mono ?_; rintro e wx4 ⟨rfl, U4⟩; have HNX4 := Lib.hid ((HN4.out.then (up_drew w4)).then U4); have HUX4 := Lib.hid ((up_drew w4).trans U4); have HY4 := Lib.hid (show wx4.cell? ⟨b0, 0, none⟩ = some (.int .i64 c.wk) ∧ wx4.cell? ⟨b0, 1, none⟩ = some (.int .i64 c.ch) ∧ wx4.cell? ⟨b0, 2, none⟩ = some (.int .i64 c.wo) ∧ wx4.cell? ⟨b0, 3, none⟩ = some (.int .i64 c.sl) ∧ wx4.cell? ⟨b0, 4, none⟩ = some (.int .i64 c.ca) ∧ wx4.cell? ⟨b0, 5, none⟩ = some (.int .i64 c.ba) from HNX4.out.cells); have HB4 := Lib.hid (show (wx4.alloc (.cells #[.pointer (some ⟨p, 0, none⟩), .int .i64 0, .int .i64 (lk : Int), .int .i64 c.ch] 111)).cell? ⟨b0, 0, none⟩ = some (.int .i64 c.wk) ∧ (wx4.alloc (.cells #[.pointer (some ⟨p, 0, none⟩), .int .i64 0, .int .i64 (lk : Int), .int .i64 c.ch] 111)).cell? ⟨b0, 1, none⟩ = some (.int .i64 c.ch) ∧ (wx4.alloc (.cells #[.pointer (some ⟨p, 0, none⟩), .int .i64 0, .int .i64 (lk : Int), .int .i64 c.ch] 111)).cell? ⟨b0, 2, none⟩ = some (.int .i64 c.wo) ∧ (wx4.alloc (.cells #[.pointer (some ⟨p, 0, none⟩), .int .i64 0, .int .i64 (lk : Int), .int .i64 c.ch] 111)).cell? ⟨b0, 3, none⟩ = some (.int .i64 c.sl) ∧ (wx4.alloc (.cells #[.pointer (some ⟨p, 0, none⟩), .int .i64 0, .int .i64 (lk : Int), .int .i64 c.ch] 111)).cell? ⟨b0, 4, none⟩ = some (.int .i64 c.ca) ∧ (wx4.alloc (.cells #[.pointer (some ⟨p, 0, none⟩), .int .i64 0, .int .i64 (lk : Int), .int .i64 c.ch] 111)).cell? ⟨b0, 5, none⟩ = some (.int .i64 c.ba) from (HNX4.out.then (Up.alloc _ _)).cells); have HZ4 := Lib.hid (show ((wx4.alloc (.cells #[.pointer (some ⟨p, 0, none⟩), .int .i64 0, .int .i64 (lk : Int), .int .i64 c.ch] 111)).setCell ⟨k, 7, none⟩ (.pointer (some ⟨wx4.heap.size, 0, none⟩))).cell? ⟨b0, 0, none⟩ = some (.int .i64 c.wk) ∧ ((wx4.alloc (.cells #[.pointer (some ⟨p, 0, none⟩), .int .i64 0, .int .i64 (lk : Int), .int .i64 c.ch] 111)).setCell ⟨k, 7, none⟩ (.pointer (some ⟨wx4.heap.size, 0, none⟩))).cell? ⟨b0, 1, none⟩ = some (.int .i64 c.ch) ∧ ((wx4.alloc (.cells #[.pointer (some ⟨p, 0, none⟩), .int .i64 0, .int .i64 (lk : Int), .int .i64 c.ch] 111)).setCell ⟨k, 7, none⟩ (.pointer (some ⟨wx4.heap.size, 0, none⟩))).cell? ⟨b0, 2, none⟩ = some (.int .i64 c.wo) ∧ ((wx4.alloc (.cells #[.pointer (some ⟨p, 0, none⟩), .int .i64 0, .int .i64 (lk : Int), .int .i64 c.ch] 111)).setCell ⟨k, 7, none⟩ (.pointer (some ⟨wx4.heap.size, 0, none⟩))).cell? ⟨b0, 3, none⟩ = some (.int .i64 c.sl) ∧ ((wx4.alloc (.cells #[.pointer (some ⟨p, 0, none⟩), .int .i64 0, .int .i64 (lk : Int), .int .i64 c.ch] 111)).setCell ⟨k, 7, none⟩ (.pointer (some ⟨wx4.heap.size, 0, none⟩))).cell? ⟨b0, 4, none⟩ = some (.int .i64 c.ca) ∧ ((wx4.alloc (.cells #[.pointer (some ⟨p, 0, none⟩), .int .i64 0, .int .i64 (lk : Int), .int .i64 c.ch] 111)).setCell ⟨k, 7, none⟩ (.pointer (some ⟨wx4.heap.size, 0, none⟩))).cell? ⟨b0, 5, none⟩ = some (.int .i64 c.ba) from ((HNX4.out.then (Up.alloc _ _)).put1 _).cells); have ke4 := (HNX4.out.then (Up.alloc wx4 (.cells #[.pointer (some ⟨p, 0, none⟩), .int .i64 0, .int .i64 (lk : Int), .int .i64 c.ch] 111))).obj.cell (i := 7) rfl; have kg4 := (HNX4.out.then (Up.alloc wx4 (.cells #[.pointer (some ⟨p, 0, none⟩), .int .i64 0, .int .i64 (lk : Int), .int .i64 c.ch] 111))).obj.frozen 7; clear U4))
  clear ke4 kg4
  have HN5 := Lib.hid ((HNX4.out.then (Up.alloc wx4 (.cells #[.pointer (some ⟨p, 0, none⟩), .int .i64 0, .int .i64 (lk : Int), .int .i64 c.ch] 111))).put1 (.pointer (some ⟨wx4.heap.size, 0, none⟩)))
  have HE5 := Lib.hid (show Else [k] w4 ((wx4.alloc (.cells #[.pointer (some ⟨p, 0, none⟩), .int .i64 0, .int .i64 (lk : Int), .int .i64 c.ch] 111)).setCell ⟨k, 7, none⟩ (.pointer (some ⟨wx4.heap.size, 0, none⟩))) from ((Else.of_up (HUX4.out.then_alloc (.cells #[.pointer (some ⟨p, 0, none⟩), .int .i64 0, .int .i64 (lk : Int), .int .i64 c.ch] 111))).trans ((Else.refl [k] _).set (.inl (by simp)) _)))
  have HS5 := Lib.hid ((Whole.new wx4 111 #[.pointer (some ⟨p, 0, none⟩), .int .i64 0, .int .i64 (lk : Int), .int .i64 c.ch]).far (p := ⟨k, 7, none⟩) (by have := HNX4.out.obj.lt; show wx4.heap.size ≠ k; omega) (.pointer (some ⟨wx4.heap.size, 0, none⟩)))
  obtain ⟨q4, hq4⟩ : ∃ q, wx4.heap.size = q := ⟨_, rfl⟩
  rw [hq4] at HN5 HS5 HE5 ⊢
  clear hq4
  generalize (wx4.alloc (.cells #[.pointer (some ⟨p, 0, none⟩), .int .i64 0, .int .i64 (lk : Int), .int .i64 c.ch] 111)).setCell ⟨k, 7, none⟩ (.pointer (some ⟨q4, 0, none⟩)) = w5 at *
  go_upto_region 4 with fail
  have HC5 := Lib.hid (show w5.drew.cell? ⟨b0, 0, none⟩ = some (.int .i64 c.wk) ∧ w5.drew.cell? ⟨b0, 1, none⟩ = some (.int .i64 c.ch) ∧ w5.drew.cell? ⟨b0, 2, none⟩ = some (.int .i64 c.wo) ∧ w5.drew.cell? ⟨b0, 3, none⟩ = some (.int .i64 c.sl) ∧ w5.drew.cell? ⟨b0, 4, none⟩ = some (.int .i64 c.ca) ∧ w5.drew.cell? ⟨b0, 5, none⟩ = some (.int .i64 c.ba) from (HN5.out.then (up_drew w5)).cells)
  go_region_held3 (fun w' => w'.cell? ⟨b0, 0, none⟩ = some (.int .i64 c.wk) ∧ w'.cell? ⟨b0, 1, none⟩ = some (.int .i64 c.ch) ∧ w'.cell? ⟨b0, 2, none⟩ = some (.int .i64 c.wo) ∧ w'.cell? ⟨b0, 3, none⟩ = some (.int .i64 c.sl) ∧ w'.cell? ⟨b0, 4, none⟩ = some (.int .i64 c.ca) ∧ w'.cell? ⟨b0, 5, none⟩ = some (.int .i64 c.ba))
    ((first
      | with_reducible exact HZ5.out
      | with_reducible exact HB5.out
      | with_reducible exact HY5.out
      | with_reducible exact HC5.out))
    (first
      | (go_at_call 35; refine (rslotat_to c H2.out _).mono ?_; rintro e wx5 ⟨rfl, U5⟩; have HNX5 := Lib.hid ((HN5.out.then (up_drew w5)).then U5); have HUX5 := Lib.hid ((up_drew w5).trans U5); have HY5 := Lib.hid (show wx5.cell? ⟨b0, 0, none⟩ = some (.int .i64 c.wk) ∧ wx5.cell? ⟨b0, 1, none⟩ = some (.int .i64 c.ch) ∧ wx5.cell? ⟨b0, 2, none⟩ = some (.int .i64 c.wo) ∧ wx5.cell? ⟨b0, 3, none⟩ = some (.int .i64 c.sl) ∧ wx5.cell? ⟨b0, 4, none⟩ = some (.int .i64 c.ca) ∧ wx5.cell? ⟨b0, 5, none⟩ = some (.int .i64 c.ba) from HNX5.out.cells); have HB5 := Lib.hid (show (wx5.alloc (.cells #[.pointer (some ⟨p, 0, none⟩), .int .i64 1, .int .i64 (ls : Int), .int .i64 c.sl] 111)).cell? ⟨b0, 0, none⟩ = some (.int .i64 c.wk) ∧ (wx5.alloc (.cells #[.pointer (some ⟨p, 0, none⟩), .int .i64 1, .int .i64 (ls : Int), .int .i64 c.sl] 111)).cell? ⟨b0, 1, none⟩ = some (.int .i64 c.ch) ∧ (wx5.alloc (.cells #[.pointer (some ⟨p, 0, none⟩), .int .i64 1, .int .i64 (ls : Int), .int .i64 c.sl] 111)).cell? ⟨b0, 2, none⟩ = some (.int .i64 c.wo) ∧ (wx5.alloc (.cells #[.pointer (some ⟨p, 0, none⟩), .int .i64 1, .int .i64 (ls : Int), .int .i64 c.sl] 111)).cell? ⟨b0, 3, none⟩ = some (.int .i64 c.sl) ∧ (wx5.alloc (.cells #[.pointer (some ⟨p, 0, none⟩), .int .i64 1, .int .i64 (ls : Int), .int .i64 c.sl] 111)).cell? ⟨b0, 4, none⟩ = some (.int .i64 c.ca) ∧ (wx5.alloc (.cells #[.pointer (some ⟨p, 0, none⟩), .int .i64 1, .int .i64 (ls : Int), .int .i64 c.sl] 111)).cell? ⟨b0, 5, none⟩ = some (.int .i64 c.ba) from (HNX5.out.then (Up.alloc _ _)).cells); have HZ5 := Lib.hid (show ((wx5.alloc (.cells #[.pointer (some ⟨p, 0, none⟩), .int .i64 1, .int .i64 (ls : Int), .int .i64 c.sl] 111)).setCell ⟨k, 8, none⟩ (.pointer (some ⟨wx5.heap.size, 0, none⟩))).cell? ⟨b0, 0, none⟩ = some (.int .i64 c.wk) ∧ ((wx5.alloc (.cells #[.pointer (some ⟨p, 0, none⟩), .int .i64 1, .int .i64 (ls : Int), .int .i64 c.sl] 111)).setCell ⟨k, 8, none⟩ (.pointer (some ⟨wx5.heap.size, 0, none⟩))).cell? ⟨b0, 1, none⟩ = some (.int .i64 c.ch) ∧ ((wx5.alloc (.cells #[.pointer (some ⟨p, 0, none⟩), .int .i64 1, .int .i64 (ls : Int), .int .i64 c.sl] 111)).setCell ⟨k, 8, none⟩ (.pointer (some ⟨wx5.heap.size, 0, none⟩))).cell? ⟨b0, 2, none⟩ = some (.int .i64 c.wo) ∧ ((wx5.alloc (.cells #[.pointer (some ⟨p, 0, none⟩), .int .i64 1, .int .i64 (ls : Int), .int .i64 c.sl] 111)).setCell ⟨k, 8, none⟩ (.pointer (some ⟨wx5.heap.size, 0, none⟩))).cell? ⟨b0, 3, none⟩ = some (.int .i64 c.sl) ∧ ((wx5.alloc (.cells #[.pointer (some ⟨p, 0, none⟩), .int .i64 1, .int .i64 (ls : Int), .int .i64 c.sl] 111)).setCell ⟨k, 8, none⟩ (.pointer (some ⟨wx5.heap.size, 0, none⟩))).cell? ⟨b0, 4, none⟩ = some (.int .i64 c.ca) ∧ ((wx5.alloc (.cells #[.pointer (some ⟨p, 0, none⟩), .int .i64 1, .int .i64 (ls : Int), .int .i64 c.sl] 111)).setCell ⟨k, 8, none⟩ (.pointer (some ⟨wx5.heap.size, 0, none⟩))).cell? ⟨b0, 5, none⟩ = some (.int .i64 c.ba) from ((HNX5.out.then (Up.alloc _ _)).put2 _).cells); have ke5 := (HNX5.out.then (Up.alloc wx5 (.cells #[.pointer (some ⟨p, 0, none⟩), .int .i64 1, .int .i64 (ls : Int), .int .i64 c.sl] 111))).obj.cell (i := 8) rfl; have kg5 := (HNX5.out.then (Up.alloc wx5 (.cells #[.pointer (some ⟨p, 0, none⟩), .int .i64 1, .int .i64 (ls : Int), .int .i64 c.sl] 111))).obj.frozen 8; clear U5))
  clear ke5 kg5
  have HN6 := Lib.hid ((HNX5.out.then (Up.alloc wx5 (.cells #[.pointer (some ⟨p, 0, none⟩), .int .i64 1, .int .i64 (ls : Int), .int .i64 c.sl] 111))).put2 (.pointer (some ⟨wx5.heap.size, 0, none⟩)))
  have HE6 := Lib.hid (show Else [k] w5 ((wx5.alloc (.cells #[.pointer (some ⟨p, 0, none⟩), .int .i64 1, .int .i64 (ls : Int), .int .i64 c.sl] 111)).setCell ⟨k, 8, none⟩ (.pointer (some ⟨wx5.heap.size, 0, none⟩))) from ((Else.of_up (HUX5.out.then_alloc (.cells #[.pointer (some ⟨p, 0, none⟩), .int .i64 1, .int .i64 (ls : Int), .int .i64 c.sl] 111))).trans ((Else.refl [k] _).set (.inl (by simp)) _)))
  have HS6 := Lib.hid ((Whole.new wx5 111 #[.pointer (some ⟨p, 0, none⟩), .int .i64 1, .int .i64 (ls : Int), .int .i64 c.sl]).far (p := ⟨k, 8, none⟩) (by have := HNX5.out.obj.lt; show wx5.heap.size ≠ k; omega) (.pointer (some ⟨wx5.heap.size, 0, none⟩)))
  obtain ⟨q5, hq5⟩ : ∃ q, wx5.heap.size = q := ⟨_, rfl⟩
  rw [hq5] at HN6 HS6 HE6 ⊢
  clear hq5
  generalize (wx5.alloc (.cells #[.pointer (some ⟨p, 0, none⟩), .int .i64 1, .int .i64 (ls : Int), .int .i64 c.sl] 111)).setCell ⟨k, 8, none⟩ (.pointer (some ⟨q5, 0, none⟩)) = w6 at *
  go_upto_region 5 with fail
  have HC6 := Lib.hid (show w6.drew.cell? ⟨b0, 0, none⟩ = some (.int .i64 c.wk) ∧ w6.drew.cell? ⟨b0, 1, none⟩ = some (.int .i64 c.ch) ∧ w6.drew.cell? ⟨b0, 2, none⟩ = some (.int .i64 c.wo) ∧ w6.drew.cell? ⟨b0, 3, none⟩ = some (.int .i64 c.sl) ∧ w6.drew.cell? ⟨b0, 4, none⟩ = some (.int .i64 c.ca) ∧ w6.drew.cell? ⟨b0, 5, none⟩ = some (.int .i64 c.ba) from (HN6.out.then (up_drew w6)).cells)
  go_region_held3 (fun w' => w'.cell? ⟨b0, 0, none⟩ = some (.int .i64 c.wk) ∧ w'.cell? ⟨b0, 1, none⟩ = some (.int .i64 c.ch) ∧ w'.cell? ⟨b0, 2, none⟩ = some (.int .i64 c.wo) ∧ w'.cell? ⟨b0, 3, none⟩ = some (.int .i64 c.sl) ∧ w'.cell? ⟨b0, 4, none⟩ = some (.int .i64 c.ca) ∧ w'.cell? ⟨b0, 5, none⟩ = some (.int .i64 c.ba))
    ((first
      | with_reducible exact HZ6.out
      | with_reducible exact HB6.out
      | with_reducible exact HY6.out
      | with_reducible exact HC6.out))
    (first
      | (go_at_call 79; refine (rpinat_to c H3.out _).mono ?_; rintro e wx6 ⟨rfl, U6⟩; have HNX6 := Lib.hid ((HN6.out.then (up_drew w6)).then U6); have HUX6 := Lib.hid ((up_drew w6).trans U6); have HY6 := Lib.hid (show wx6.cell? ⟨b0, 0, none⟩ = some (.int .i64 c.wk) ∧ wx6.cell? ⟨b0, 1, none⟩ = some (.int .i64 c.ch) ∧ wx6.cell? ⟨b0, 2, none⟩ = some (.int .i64 c.wo) ∧ wx6.cell? ⟨b0, 3, none⟩ = some (.int .i64 c.sl) ∧ wx6.cell? ⟨b0, 4, none⟩ = some (.int .i64 c.ca) ∧ wx6.cell? ⟨b0, 5, none⟩ = some (.int .i64 c.ba) from HNX6.out.cells); have HB6 := Lib.hid (show (wx6.alloc (.cells #[.pointer (some ⟨p, 0, none⟩), .int .i64 2, .int .i64 pn, .int .i64 c.wk] 135)).cell? ⟨b0, 0, none⟩ = some (.int .i64 c.wk) ∧ (wx6.alloc (.cells #[.pointer (some ⟨p, 0, none⟩), .int .i64 2, .int .i64 pn, .int .i64 c.wk] 135)).cell? ⟨b0, 1, none⟩ = some (.int .i64 c.ch) ∧ (wx6.alloc (.cells #[.pointer (some ⟨p, 0, none⟩), .int .i64 2, .int .i64 pn, .int .i64 c.wk] 135)).cell? ⟨b0, 2, none⟩ = some (.int .i64 c.wo) ∧ (wx6.alloc (.cells #[.pointer (some ⟨p, 0, none⟩), .int .i64 2, .int .i64 pn, .int .i64 c.wk] 135)).cell? ⟨b0, 3, none⟩ = some (.int .i64 c.sl) ∧ (wx6.alloc (.cells #[.pointer (some ⟨p, 0, none⟩), .int .i64 2, .int .i64 pn, .int .i64 c.wk] 135)).cell? ⟨b0, 4, none⟩ = some (.int .i64 c.ca) ∧ (wx6.alloc (.cells #[.pointer (some ⟨p, 0, none⟩), .int .i64 2, .int .i64 pn, .int .i64 c.wk] 135)).cell? ⟨b0, 5, none⟩ = some (.int .i64 c.ba) from (HNX6.out.then (Up.alloc _ _)).cells); have HZ6 := Lib.hid (show ((wx6.alloc (.cells #[.pointer (some ⟨p, 0, none⟩), .int .i64 2, .int .i64 pn, .int .i64 c.wk] 135)).setCell ⟨k, 9, none⟩ (.pointer (some ⟨wx6.heap.size, 0, none⟩))).cell? ⟨b0, 0, none⟩ = some (.int .i64 c.wk) ∧ ((wx6.alloc (.cells #[.pointer (some ⟨p, 0, none⟩), .int .i64 2, .int .i64 pn, .int .i64 c.wk] 135)).setCell ⟨k, 9, none⟩ (.pointer (some ⟨wx6.heap.size, 0, none⟩))).cell? ⟨b0, 1, none⟩ = some (.int .i64 c.ch) ∧ ((wx6.alloc (.cells #[.pointer (some ⟨p, 0, none⟩), .int .i64 2, .int .i64 pn, .int .i64 c.wk] 135)).setCell ⟨k, 9, none⟩ (.pointer (some ⟨wx6.heap.size, 0, none⟩))).cell? ⟨b0, 2, none⟩ = some (.int .i64 c.wo) ∧ ((wx6.alloc (.cells #[.pointer (some ⟨p, 0, none⟩), .int .i64 2, .int .i64 pn, .int .i64 c.wk] 135)).setCell ⟨k, 9, none⟩ (.pointer (some ⟨wx6.heap.size, 0, none⟩))).cell? ⟨b0, 3, none⟩ = some (.int .i64 c.sl) ∧ ((wx6.alloc (.cells #[.pointer (some ⟨p, 0, none⟩), .int .i64 2, .int .i64 pn, .int .i64 c.wk] 135)).setCell ⟨k, 9, none⟩ (.pointer (some ⟨wx6.heap.size, 0, none⟩))).cell? ⟨b0, 4, none⟩ = some (.int .i64 c.ca) ∧ ((wx6.alloc (.cells #[.pointer (some ⟨p, 0, none⟩), .int .i64 2, .int .i64 pn, .int .i64 c.wk] 135)).setCell ⟨k, 9, none⟩ (.pointer (some ⟨wx6.heap.size, 0, none⟩))).cell? ⟨b0, 5, none⟩ = some (.int .i64 c.ba) from ((HNX6.out.then (Up.alloc _ _)).put3 _).cells); have ke6 := (HNX6.out.then (Up.alloc wx6 (.cells #[.pointer (some ⟨p, 0, none⟩), .int .i64 2, .int .i64 pn, .int .i64 c.wk] 135))).obj.cell (i := 9) rfl; have kg6 := (HNX6.out.then (Up.alloc wx6 (.cells #[.pointer (some ⟨p, 0, none⟩), .int .i64 2, .int .i64 pn, .int .i64 c.wk] 135))).obj.frozen 9; clear U6))
  clear ke6 kg6
  have HN7 := Lib.hid ((HNX6.out.then (Up.alloc wx6 (.cells #[.pointer (some ⟨p, 0, none⟩), .int .i64 2, .int .i64 pn, .int .i64 c.wk] 135))).put3 (.pointer (some ⟨wx6.heap.size, 0, none⟩)))
  have HE7 := Lib.hid (show Else [k] w6 ((wx6.alloc (.cells #[.pointer (some ⟨p, 0, none⟩), .int .i64 2, .int .i64 pn, .int .i64 c.wk] 135)).setCell ⟨k, 9, none⟩ (.pointer (some ⟨wx6.heap.size, 0, none⟩))) from ((Else.of_up (HUX6.out.then_alloc (.cells #[.pointer (some ⟨p, 0, none⟩), .int .i64 2, .int .i64 pn, .int .i64 c.wk] 135))).trans ((Else.refl [k] _).set (.inl (by simp)) _)))
  have HS7 := Lib.hid ((Whole.new wx6 135 #[.pointer (some ⟨p, 0, none⟩), .int .i64 2, .int .i64 pn, .int .i64 c.wk]).far (p := ⟨k, 9, none⟩) (by have := HNX6.out.obj.lt; show wx6.heap.size ≠ k; omega) (.pointer (some ⟨wx6.heap.size, 0, none⟩)))
  obtain ⟨q6, hq6⟩ : ∃ q, wx6.heap.size = q := ⟨_, rfl⟩
  rw [hq6] at HN7 HS7 HE7 ⊢
  clear hq6
  generalize (wx6.alloc (.cells #[.pointer (some ⟨p, 0, none⟩), .int .i64 2, .int .i64 pn, .int .i64 c.wk] 135)).setCell ⟨k, 9, none⟩ (.pointer (some ⟨q6, 0, none⟩)) = w7 at *
  obtain ⟨y1, y2⟩ := HLK.out
  obtain ⟨z1, z2, z3⟩ := HM.out
  have HA := Lib.hid (show REnv w7 p g q4 0 lk ch (List.replicate L 0) 0 by
    have hq : q4 ∉ [k] := by have := HN5.out.obj.ne_type HS5.out (by decide); simp [this.symm]
    have S := HE7.out.whole (HE6.out.whole HS5.out hq) hq
    rw [← HCH.out] at S
    exact ⟨HN7.out.ref, S, rep_ok L, S.ne_type HN7.out.ref.top (by decide), S.ne_type HN7.out.ref.row (by decide), by omega, by omega, by rw [List.length_replicate]; omega, by rw [List.length_replicate]; omega, by rw [List.length_replicate]; omega⟩)
  have HB := Lib.hid (show Whole w7 q5 111 #[.pointer (some ⟨p, 0, none⟩), .int .i64 1, .int .i64 (ls : Int), .int .i64 (n : Int)] by
    have hq : q5 ∉ [k] := by have := HN6.out.obj.ne_type HS6.out (by decide); simp [this.symm]
    have S := HE7.out.whole HS6.out hq
    rw [z3]
    exact S)
  have k7 := HN7.out.obj.cell (i := 7) (v := .pointer (some ⟨q4, 0, none⟩)) rfl
  have HR := Lib.hid (show ∀ w8 w9, REnv w8 p g q4 0 lk ch (fillR ((List.replicate L 0).set 0 1) lk ch ch) 0 → Else [p, g] w7 w8 → w9 = w8 → REnv w9 p g q5 1 ls n (fillR ((List.replicate L 0).set 0 1) lk ch ch) 0 ∧ NW w w9 b0 k p g c (.pointer (some ⟨q4, 0, none⟩)) (.pointer (some ⟨q5, 0, none⟩)) (.pointer (some ⟨q6, 0, none⟩)) (fillR ((List.replicate L 0).set 0 1) lk ch ch) by
    rintro w8 _ E8 X8 rfl
    have N8 := HN7.out.turn E8.mem X8
    have a1 := HB.out.ne_type HN7.out.ref.top (by decide)
    have a2 := HB.out.ne_type HN7.out.ref.row (by decide)
    have S := X8.whole HB.out (by simp [a1, a2])
    refine ⟨⟨N8.ref, S, E8.ok, a1, a2, by omega, by omega, ?_, ?_, ?_⟩, N8⟩ <;> rw [fillR_len, List.length_set, List.length_replicate] <;> omega)
  go_wp2_with fail
  refine (rfill_in HA.out).mono ?_
  rintro e w8 ⟨rfl, E8, X8⟩
  have HP := Lib.hid (HR.out w8 w8 E8 X8 rfl)
  have HE8 := Lib.hid E8
  have HQ8 := Lib.hid (show Whole w8 q6 135 #[.pointer (some ⟨p, 0, none⟩), .int .i64 2, .int .i64 pn, .int .i64 c.wk] by
    have a1 := HS7.out.ne_type HN7.out.ref.top (by decide)
    have a2 := HS7.out.ne_type HN7.out.ref.row (by decide)
    exact X8.whole HS7.out (by simp [a1, a2]))
  clear E8 X8 k7
  have k8 := HP.out.2.obj.cell (i := 8) (v := .pointer (some ⟨q5, 0, none⟩)) rfl
  clear HA HB HR HE5 HE6 HE7 HS5 HS6 HS7
  go_wp2_with fail
  refine (rfill_in HP.out.1).mono ?_
  rintro e w9 ⟨rfl, E9, X9⟩
  have HN9 := Lib.hid (HP.out.2.turn E9.mem X9)
  have HE9 := Lib.hid E9
  have HX9 := Lib.hid (show REnv w9 p g q4 0 lk ch (fillR ((fillR ((List.replicate L 0).set 0 1) lk ch ch).set 1 1) ls n n) 0 ∧ Whole w9 q6 135 #[.pointer (some ⟨p, 0, none⟩), .int .i64 2, .int .i64 pn, .int .i64 c.wk] by
    have a1 := HQ8.out.ne_type HE8.out.mem.top (by decide)
    have a2 := HQ8.out.ne_type HE8.out.mem.row (by decide)
    exact ⟨HE8.out.turn E9.mem X9 (by simp [HE8.out.np, HE8.out.ng]) E9.ok (by rw [fillR_len, List.length_set]), X9.whole HQ8.out (by simp [a1, a2])⟩)
  clear E9 X9 k8
  go_wp2_with fail
  go_ret
  refine ⟨k, p, g, q4, q5, q6, rfl, ?_, HN9.out.up, HN9.out.kn, HN9.out.pn, HN9.out.gn, ?_, ?_⟩
  · unfold newXs
    rw [y1, y2]
    exact ⟨HN9.out.obj, by rw [y2]; exact HE9.out, z1, z2, z3⟩
  · unfold newXs
    rw [y1, y2]
    exact HX9.out.1
  · rw [H3.out]; exact HX9.out.2
end
end Go.Proofs.YtkopplnjomkleaaGreat

/-
  The document's memory as it is made, its spare slots struck out: the program's pool filled. No program is named here.
-/
namespace Go.Proofs.YtkopplnjomkleaaGreat
open Go.RowKit
open W64
set_option maxRecDepth 100000
/-- k cells from r on are struck out. -/
def zeroR (xs : List Int) (r : Nat) : Nat → List Int
  | 0 => xs
  | k + 1 => (zeroR xs r k).set (r + k) 0
theorem zeroR_len (xs : List Int) (r : Nat) : ∀ k, (zeroR xs r k).length = xs.length
  | 0 => rfl
  | k + 1 => by unfold zeroR; rw [List.length_set, zeroR_len xs r k]
theorem zeroR_ok {xs : List Int} (h : ∀ i, 0 ≤ xs.getD i 0 ∧ xs.getD i 0 < 18446744073709551616) (r : Nat) : ∀ k i, 0 ≤ (zeroR xs r k).getD i 0 ∧ (zeroR xs r k).getD i 0 < 18446744073709551616
  | 0, i => h i
  | k + 1, i => by
    unfold zeroR
    rw [getD_set]
    split
    · decide
    · exact zeroR_ok h r k i
theorem zeroR_at (xs : List Int) (r : Nat) : ∀ k j, (zeroR xs r k).getD j 0 = if r ≤ j ∧ j < r + k then 0 else xs.getD j 0
  | 0, j => by rw [if_neg (by omega)]; rfl
  | k + 1, j => by
    unfold zeroR
    rw [getD_set, zeroR_at xs r k j, zeroR_len]
    by_cases h : r + k = j
    · by_cases h2 : j < xs.length
      · rw [if_pos ⟨h, h2⟩, if_pos (by omega)]
      · rw [if_neg (by omega), if_neg (by omega), if_pos (by omega)]
        unfold List.getD
        rw [List.getElem?_eq_none (by omega)]
        rfl
    · rw [if_neg (by omega)]
      by_cases h3 : r ≤ j ∧ j < r + k
      · rw [if_pos h3, if_pos (by omega)]
      · rw [if_neg h3, if_neg (by omega)]
theorem fillR_at (xs : List Int) (ln n : Nat) : ∀ k j, j < xs.length → (fillR xs ln n k).getD j 0 = if ln ≤ j ∧ j < ln + k then (if j - ln + 1 = n then 0 else ((j - ln : Nat) : Int) + 2) else xs.getD j 0
  | 0, j, _ => by rw [if_neg (by omega)]; rfl
  | k + 1, j, hj => by
    unfold fillR
    rw [getD_set, fillR_at xs ln n k j hj, fillR_len]
    by_cases h : ln + k = j
    · rw [if_pos ⟨h, hj⟩, if_pos (show ln ≤ j ∧ j < ln + (k + 1) by omega), show j - ln = k by omega]
    · rw [if_neg (by omega)]
      by_cases h3 : ln ≤ j ∧ j < ln + k
      · rw [if_pos h3, if_pos (show ln ≤ j ∧ j < ln + (k + 1) by omega)]
      · rw [if_neg h3, if_neg (by omega)]
theorem fillK_at (s : St) (ln : Nat) : ∀ k j, j < s.xs.length → (fillK s ln k).xs.getD j 0 = if ln ≤ j ∧ j < ln + k then ((j - ln : Nat) : Int) + 2 else s.xs.getD j 0
  | 0, j, _ => by rw [if_neg (by omega)]; rfl
  | k + 1, j, hj => by
    unfold fillK St.lay
    dsimp only
    rw [getD_set, fillK_at s ln k j hj, fillK_len, show ((ln : Int) + k).toNat = ln + k by omega]
    by_cases h : ln + k = j
    · rw [if_pos ⟨h, hj⟩, if_pos (by omega)]
      rw [show j - ln = k by omega]
    · rw [if_neg (by omega)]
      by_cases h3 : ln ≤ j ∧ j < ln + k
      · rw [if_pos h3, if_pos (by omega)]
      · rw [if_neg h3, if_neg (by omega)]
theorem list_getD_ext {xs ys : List Int} (hl : xs.length = ys.length) (h : ∀ j, j < xs.length → xs.getD j 0 = ys.getD j 0) : xs = ys := by
  refine List.ext_getElem? fun j => ?_
  by_cases hj : j < xs.length
  · have := h j hj
    unfold List.getD at this
    rw [List.getElem?_eq_getElem hj, List.getElem?_eq_getElem (hl ▸ hj)] at this ⊢
    simpa using this
  · rw [List.getElem?_eq_none (by omega), List.getElem?_eq_none (by omega)]
theorem newXs_len (L r0 n ch : Nat) : (newXs L r0 n ch).length = L := by
  unfold newXs
  rw [fillR_len, List.length_set, fillR_len, List.length_set, List.length_replicate]
theorem rep_at (L j : Nat) : (List.replicate L (0 : Int)).getD j 0 = 0 := by
  unfold List.getD
  by_cases h : j < L <;> simp [h]
theorem zero_new {L r0 n ch : Nat} (h0 : 3 ≤ r0) (h1 : 1 ≤ ch) (hL : r0 + 2 * n + ch ≤ L) : (zeroR (newXs L r0 n ch) (r0 + n) n).set 1 0 = (fillS (St.zero L) 0 (r0 + 2 * n) ch).xs := by
  have hz : (St.zero L).xs = List.replicate L 0 := rfl
  have hzl : (St.zero L).xs.length = L := by rw [hz, List.length_replicate]
  refine list_getD_ext ?_ fun j hj => ?_
  · rw [List.length_set, zeroR_len, newXs_len]
    unfold fillS
    rw [lay_len, lay_len, fillK_len, hzl]
  · rw [List.length_set, zeroR_len, newXs_len] at hj
    rw [getD_set, zeroR_at, zeroR_len, newXs_len]
    unfold fillS St.lay
    dsimp only
    rw [getD_set, List.length_set, fillK_len, hzl, getD_set, fillK_len, hzl, fillK_at _ _ _ _ (by rw [hzl]; exact hj), hz, rep_at, show (((r0 + 2 * n : Nat) : Int) + ch - 1).toNat = r0 + 2 * n + ch - 1 by omega]
    by_cases e1 : 1 = j
    · rw [if_pos ⟨e1, hj⟩, if_neg (by omega), if_neg (by omega), if_neg (by omega)]
    · rw [if_neg (by omega)]
      by_cases e2 : r0 + n ≤ j ∧ j < r0 + n + n
      · rw [if_pos e2, if_neg (by omega), if_neg (by omega), if_neg (by omega)]
      · rw [if_neg e2]
        unfold newXs
        rw [fillR_at _ _ _ _ _ (by rw [List.length_set, fillR_len, List.length_set, List.length_replicate]; exact hj), if_neg (by omega), getD_set, if_neg (by omega), fillR_at _ _ _ _ _ (by rw [List.length_set, List.length_replicate]; exact hj), getD_set, List.length_replicate, rep_at]
        have z0 : ((0 : Nat) : Int).toNat = 0 := rfl
        rw [z0]
        by_cases e3 : r0 + 2 * n ≤ j ∧ j < r0 + 2 * n + ch
        · rw [if_pos e3, if_neg (show ¬ (0 = j ∧ j < L) by omega)]
          by_cases e4 : j - (r0 + 2 * n) + 1 = ch
          · rw [if_pos e4, if_pos (show r0 + 2 * n + ch - 1 = j ∧ j < L by omega)]
          · rw [if_neg e4, if_neg (show ¬ (r0 + 2 * n + ch - 1 = j ∧ j < L) by omega), if_pos (show r0 + 2 * n ≤ j ∧ j < r0 + 2 * n + (ch - 1) by omega)]
        · rw [if_neg e3]
          by_cases e5 : 0 = j ∧ j < L
          · rw [if_pos e5, if_pos e5]
          · rw [if_neg e5, if_neg e5, if_neg (show ¬ (r0 + 2 * n + ch - 1 = j ∧ j < L) by omega), if_neg (show ¬ (r0 + 2 * n ≤ j ∧ j < r0 + 2 * n + (ch - 1)) by omega)]
end Go.Proofs.YtkopplnjomkleaaGreat
