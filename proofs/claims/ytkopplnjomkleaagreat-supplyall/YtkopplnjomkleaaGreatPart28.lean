/-
  Texts beneath SupplyAll, part 28: SupMade, SupTake.
-/
import Derived.Test.YtkopplnjomkleaaGreatPart27
/-
  The statements' own made (layer 13): both memories and N supplies of each.
-/
namespace Go.Proofs.YtkopplnjomkleaaGreat
open Go.RowKit
open W64
set_option maxRecDepth 100000
set_option linter.unusedSimpArgs false
/-- The memory that is made: L words, the pool filled. -/
def mem13 (l : Lia) (LEN : Nat) : St := fillS (St.zero LEN) 0 l.lk l.n
/-- The first loop: j supplies of each. -/
def MdR (W : World) (l : Lia) (s : St) (xs : List Int) (b0 N : Nat) (i : Value) (wr : World) : Prop :=
  ∃ (j : Nat) (vS vX : Value) (L : List SuD) (X : List RuD), i = .int .i64 j ∧ j ≤ N ∧ L.length = j ∧ X.length = j ∧ SAll W wr l s xs 0 vS vX L X ∧ Whole wr b0 25 (cfRow l.c)
/-- The second loop: j spare slots struck out. -/
def MdZ (W : World) (l : Lia) (s : St) (xs : List Int) (rs b0 : Nat) (vS vX : Value) (L : List SuD) (X : List RuD) (ns : Nat) (i : Value) (wr : World) : Prop :=
  ∃ j : Nat, i = .int .i64 j ∧ j ≤ ns ∧ SAll W wr l s (zeroR xs rs j) 0 vS vX L X ∧ Whole wr b0 25 (cfRow l.c)
/-- What made leaves: all lies at a. -/
def MdOut (W w : World) (c : Cf) (N a : Nat) : Prop := ∃ (l : Lia) (LEN : Nat) (vS vX : Value) (L : List SuD) (X : List RuD), l.a = a ∧ (l.c = c ∧ (l.lk : Int) = 3 + c.wk + 2 * c.sl ∧ (l.n : Int) = c.ch ∧ l.m = cutM c.ca ∧ (LEN : Int) = lenN c ∧ l.gs = fun _ => none) ∧ L.length = N ∧ X.length = N ∧ SAll W w l (mem13 l LEN) (mem13 l LEN).xs 0 vS vX L X
theorem wrap_few {j N M : Nat} (h : j < N) (h2 : N ≤ M) (h3 : M ≤ 4096) : wrap64 ((j : Int) + 1) = (j : Int) + 1 := wrap64_in (by omega) (by omega)
theorem num_succ {j N M : Nat} (h : j < N) (h2 : N ≤ M) (h3 : M ≤ 4096) : Value.int .i64 (wrap64 ((j : Int) + 1)) = .int .i64 ((j + 1 : Nat) : Int) := by rw [wrap_few h h2 h3]; rfl
theorem meas_succ {j N M : Nat} (h : j < N) (h2 : N ≤ M) (h3 : M ≤ 4096) : N - (intOf (.int .i64 (wrap64 ((j : Int) + 1)))).toNat < N - (intOf (.int .i64 (j : Int))).toNat := by
  rw [wrap_few h h2 h3]
  have e : (intOf (.int .i64 ((j : Int) + 1))).toNat = j + 1 := rfl
  have e2 : (intOf (.int .i64 (j : Int))).toNat = j := rfl
  rw [e, e2]
  omega
theorem len_few {α β : Type} {f : α → β} {L : List α} {j N : Nat} (h : L.length = j) (h1 : j ≤ N) (h2 : N ≤ 3) : (L.map f).length ≤ 100 := by rw [List.length_map]; omega
section
variable {W w w' : World} {l : Lia} {s : St} {xs : List Int} {vS vX : Value} {L : List SuD} {X : List RuD}
theorem box_six {b0 : Nat} {c : Cf} (B : Whole w b0 25 (cfRow c)) (u : Up w w') : w'.cell? ⟨b0, 0, none⟩ = some (.int .i64 c.wk) ∧ w'.cell? ⟨b0, 1, none⟩ = some (.int .i64 c.ch) ∧ w'.cell? ⟨b0, 2, none⟩ = some (.int .i64 c.wo) ∧ w'.cell? ⟨b0, 3, none⟩ = some (.int .i64 c.sl) ∧ w'.cell? ⟨b0, 4, none⟩ = some (.int .i64 c.ca) ∧ w'.cell? ⟨b0, 5, none⟩ = some (.int .i64 c.ba) :=
  ⟨u.kept (B.cell rfl), u.kept (B.cell rfl), u.kept (B.cell rfl), u.kept (B.cell rfl), u.kept (B.cell rfl), u.kept (B.cell rfl)⟩
theorem rslot_is {i : Int} {c : Cf} {r : Int} (e : lslotN c i = r) (w : World) : Calls Tryz.prog 35 #[c.v, .int .i64 i] w fun e w' => e = .returned (.int .i64 r) ∧ Up w w' := e ▸ rslot_any c i w
/-- Nothing is there yet. -/
theorem SAll.start (O : Whole w l.a 51 (alRow l (.slice none 0 0) (.slice none 0 0))) (E : Env w l.p l.g l.q0 0 l.lk l.n s) (R : RP w l.k l.pr l.gr l.qp l.qsr l.qe l.c l.lk l.n xs 0) (P : Whole w l.qe 135 (epRow l)) (gg : l.g ≠ l.gr) (u : Up W w) (nw : W.heap.size ≤ l.a ∧ W.heap.size ≤ l.p ∧ W.heap.size ≤ l.g ∧ W.heap.size ≤ l.pr ∧ W.heap.size ≤ l.gr) : SAll W w l s xs 0 (.slice none 0 0) (.slice none 0 0) [] [] :=
  ⟨O, E, R, P, PtrsU.nil _, PtrsR.nil _, by simp, by simp, by simp, by simp, .nil, .nil, by simp, gg, u, by simp, by simp, nw, fun x hx => by simp [Value.ownBlock] at hx, fun x hx => by simp [Value.ownBlock] at hx⟩
set_option maxHeartbeats 16000000 in
theorem made13 {c : Cf} (hc : c.Small) {N : Nat} (hN : N ≤ 3) (w : World) :
    Calls Tryz.prog 7 #[c.v, .int .i64 (N : Int)] w fun e w' => ∃ a, e = .returned (.pointer (some ⟨a, 0, none⟩)) ∧ MdOut w w' c N a := by
  have hm := hc.may
  obtain ⟨m1, m2, m3, m4, m5, m6⟩ := may_small hm
  have m8 := lenN_is hm
  unfold fwN at m8
  obtain ⟨LEN, hLEN⟩ : ∃ LEN : Nat, (LEN : Int) = lenN c := ⟨(lenN c).toNat, by omega⟩
  obtain ⟨wk, hwk⟩ : ∃ wk : Nat, (wk : Int) = 3 + c.wk := ⟨(3 + c.wk).toNat, by omega⟩
  obtain ⟨ns, hns⟩ : ∃ ns : Nat, (ns : Int) = c.sl := ⟨c.sl.toNat, by omega⟩
  obtain ⟨n, hn⟩ : ∃ n : Nat, (n : Int) = c.ch := ⟨c.ch.toNat, by omega⟩
  obtain ⟨lk, hlk⟩ : ∃ lk, wk + 2 * ns = lk := ⟨_, rfl⟩
  have hlk2 : (lk : Int) = 3 + c.wk + 2 * c.sl := by omega
  have HM := Lib.hid hm
  have HLEN := Lib.hid hLEN.symm
  have zl : (St.zero LEN).xs.length = LEN := by simp [St.zero]
  have HL1 := Lib.hid (show 1 ≤ LEN ∧ LEN ≤ 8388608 by omega)
  have HNUM := Lib.hid (show (lk : Int) = 3 + c.wk + 2 * c.sl ∧ (n : Int) = c.ch ∧ (wk : Int) = 3 + c.wk ∧ (ns : Int) = c.sl ∧ wk + 2 * ns = lk ∧ 3 ≤ wk ∧ 1 ≤ n ∧ n ≤ 4096 ∧ wk + 2 * ns + n ≤ LEN ∧ ns ≤ 4096 from ⟨hlk2, hn, hwk, hns, hlk, by omega, by omega, by omega, by omega, by omega⟩)
  have HZL := Lib.hid (show (St.zero LEN).xs.length ≤ 8388608 ∧ lenN c ≤ ((St.zero LEN).xs.length : Int) by rw [zl]; exact ⟨HL1.out.2, by omega⟩)
  have HN3 := Lib.hid hN
  obtain ⟨m, hcm⟩ : ∃ m, cutM c.ca = m := ⟨_, rfl⟩
  have HCM := Lib.hid hcm
  clear hc hm m1 m2 m3 m4 m5 m6 m8 hLEN hwk hns hn hlk hlk2 zl hN hcm
  obtain ⟨b0, hb0⟩ : ∃ b0, w.heap.size = b0 := ⟨_, rfl⟩
  have HB0 := Lib.hid (show Whole (w.alloc (.cells (cfRow c) 25)) w.heap.size 25 (cfRow c) from Whole.new w _ _)
  rw [hb0] at HB0
  have HU0 := Lib.hid (Up.alloc w (.cells (cfRow c) 25))
  go_enter Tryz.func7, Tryz.ntmps7
  go_upto_region 1 with fail
  clear hb0
  unfold cfRow at HB0 HU0
  generalize w.alloc (.cells #[.int .i64 c.wk, .int .i64 c.ch, .int .i64 c.wo, .int .i64 c.sl, .int .i64 c.ca, .int .i64 c.ba] 25) = w1 at *
  obtain ⟨e0, e1, e2, e3, e4, e5⟩ := box_six HB0.out (Up.refl _)
  go_upto_region 4 with (first
    | (go_at_call 29; refine (len_is HLEN.out _).mono ?_; rintro e w2 ⟨rfl, U2⟩; have HU2 := Lib.hid U2; clear U2)
    | (go_at_call 20; refine (new_in LEN HL1.out.1 HL1.out.2 _).mono ?_; rintro e w3 ⟨rfl, M3, U3⟩; have HM3 := Lib.hid M3; have HB3 := Lib.hid ((HB0.out.up HU2.out).up U3); have HU3 := Lib.hid ((HU0.out.trans HU2.out).trans U3); clear M3 U3))
  clear e0 e1 e2 e3 e4 e5
  have HS2 := Lib.hid (show w.heap.size ≤ w2.heap.size from (HU0.out.trans HU2.out).size)
  obtain ⟨g, hg⟩ : ∃ g, w2.heap.size = g := ⟨_, rfl⟩
  obtain ⟨p, hp⟩ : ∃ p, g + 1 = p := ⟨_, rfl⟩
  have HPG := Lib.hid (show w.heap.size ≤ p ∧ w.heap.size ≤ g by have := HS2.out; omega)
  rw [hg, hp] at HM3 ⊢
  clear hg hp
  obtain ⟨e0, e1, e2, e3, e4, e5⟩ := box_six HB3.out (Up.refl _)
  go_upto_region 8 with (first
    | (go_at_call 30; refine (chNew (c := c) (lk := lk) (n := n) HM3.out (St.Ok.zero LEN) HZL.out.1 HM.out HNUM.out.1 HNUM.out.2.1 HZL.out.2).mono ?_; rintro e w4 ⟨q, q0, rfl, C4, _, _, U4⟩; have HC4 := Lib.hid C4; have HU4 := Lib.hid (HU3.out.trans U4); have HB4 := Lib.hid (HB3.out.up U4); clear C4 U4)
    | (go_at_call 31; (with_reducible refine (chPool HC4.out).mono ?_); rintro e w5 ⟨rfl, rfl⟩)
    | (go_at_call 32; refine (chFill HC4.out).mono ?_; rintro e w5 ⟨rfl, C5, E5⟩; have HC5 := Lib.hid C5; have HU5 := Lib.hid (Else.up_new HU4.out E5 (fun x hx => by have := HPG.out; simp at hx; omega)); have HB5 := Lib.hid (E5.whole HB4.out (by simp; exact ⟨HB4.out.ne_type HC4.out.env.mem.top (by decide), HB4.out.ne_type HC4.out.env.mem.row (by decide)⟩)); clear C5 E5))
  clear e0 e1 e2 e3 e4 e5
  have HD := Lib.hid (box_six HB5.out (up_drew w5))
  go_region_held3 (fun w' => w'.cell? ⟨b0, 0, none⟩ = some (.int .i64 c.wk) ∧ w'.cell? ⟨b0, 1, none⟩ = some (.int .i64 c.ch) ∧ w'.cell? ⟨b0, 2, none⟩ = some (.int .i64 c.wo) ∧ w'.cell? ⟨b0, 3, none⟩ = some (.int .i64 c.sl) ∧ w'.cell? ⟨b0, 4, none⟩ = some (.int .i64 c.ca) ∧ w'.cell? ⟨b0, 5, none⟩ = some (.int .i64 c.ba))
    ((first | with_reducible exact HD6.out.1 | with_reducible exact HD6.out.2 _ | with_reducible exact HD.out))
    (first
      | (go_at_call 31; (first | (with_reducible refine (chPool (HC5.out.up HU6.out)).mono ?_) | (with_reducible refine (chPool (HC5.out.up (up_drew w5))).mono ?_)); rintro e w9 ⟨rfl, rfl⟩)
      | (go_at_call 33; refine (rnewP c HM.out HNUM.out.2.2.1 HNUM.out.2.2.2.1 HNUM.out.2.1 HLEN.out.symm _).mono ?_; rintro e w6 ⟨k, pr, gr, qp, qsr, qe, rfl, R6, U6, b1, b2, b3, V6, P6⟩; have HR6 := Lib.hid (And.intro R6 (And.intro V6 P6)); have HBB := Lib.hid (And.intro b1 (And.intro b2 b3)); have HU6 := Lib.hid ((up_drew w5).trans U6); have HD6 := Lib.hid (And.intro (box_six HB5.out HU6.out) (fun o : Obj => box_six HB5.out (HU6.out.then_alloc o))); clear R6 U6 b1 b2 b3 V6 P6))
  obtain ⟨a, ha⟩ : ∃ a, w6.heap.size = a := ⟨_, rfl⟩
  have HO := Lib.hid (Whole.new w6 51 #[.pointer (some ⟨p, 0, none⟩), .pointer (some ⟨q0, 0, none⟩), .slice none 0 0, .pointer (some ⟨k, 0, none⟩), .slice none 0 0])
  have HUO := Lib.hid (Up.alloc w6 (.cells #[.pointer (some ⟨p, 0, none⟩), .pointer (some ⟨q0, 0, none⟩), .slice none 0 0, .pointer (some ⟨k, 0, none⟩), .slice none 0 0] 51))
  rw [ha] at HO ⊢
  have HA_ := Lib.hid ha
  clear ha
  generalize w6.alloc (.cells #[.pointer (some ⟨p, 0, none⟩), .pointer (some ⟨q0, 0, none⟩), .slice none 0 0, .pointer (some ⟨k, 0, none⟩), .slice none 0 0] 51) = w7 at *
  obtain ⟨s0, hs0⟩ : ∃ s0, fillS (St.zero LEN) 0 lk n = s0 := ⟨_, rfl⟩
  obtain ⟨x0, hx0⟩ : ∃ x0, newXs LEN wk ns n = x0 := ⟨_, rfl⟩
  rw [hs0] at HC5
  rw [hx0] at HR6
  have HX0 := Lib.hid (And.intro hs0 hx0)
  have HSL := Lib.hid (show lenN c ≤ (s0.xs.length : Int) ∧ x0.length = LEN by
    refine ⟨?_, by rw [← hx0, newXs_len]⟩
    rw [← hs0, fillS_len]; exact HZL.out.2)
  clear hs0 hx0
  have HAA := Lib.hid (show SAll w w7 ⟨a, p, g, q0, k, pr, gr, qp, qsr, qe, c, lk, n, m, fun _ => none⟩ s0 x0 0 (.slice none 0 0) (.slice none 0 0) [] [] from by
    obtain ⟨R6, V6, P6⟩ := HR6.out
    rw [HNUM.out.2.2.2.2.1] at V6
    obtain ⟨b1, b2, b3⟩ := HBB.out
    have gl := HC5.out.env.mem.row.lt
    have hdr : w5.drew.heap.size = w5.heap.size := rfl
    have ua := HU5.out.size
    have ub := HU6.out.size
    have hpg := HPG.out
    have hA := HA_.out
    refine SAll.start HO.out ((HC5.out.env.up HU6.out).up HUO.out) (RP.up ⟨R6.obj, V6, HM.out, HNUM.out.1, HNUM.out.2.1⟩ HUO.out) (P6.up HUO.out) ?_ ((HU5.out.trans HU6.out).trans HUO.out) ⟨?_, hpg.1, hpg.2, ?_, ?_⟩
    · show g ≠ gr
      omega
    · show w.heap.size ≤ a
      omega
    · show w.heap.size ≤ pr
      omega
    · show w.heap.size ≤ gr
      omega)
  have HB7 := Lib.hid ((HB5.out.up HU6.out).up HUO.out)
  clear HO HUO HBB HR6 HD HD6 HU6 HU5 HC5 HB5 HU4 HB4 HC4 HM3 HB3 HU3 HU2 HS2 HPG HB0 HU0
  clear HA_
  go_wp2_with fail
  go_loopw [10] (fun i wr => MdR w ⟨a, p, g, q0, k, pr, gr, qp, qsr, qe, c, lk, n, m, fun _ => none⟩ s0 x0 b0 N i wr) (fun i _ => N - (intOf i).toNat)
  case atStart => exact ⟨0, _, _, [], [], rfl, Nat.zero_le _, rfl, rfl, HAA.out, HB7.out⟩
  case round =>
    obtain ⟨j, vS, vX, L, X, rfl, hj, hL, hX, A, B⟩ := hrel
    clear HAA HB7
    have HA := Lib.hid A
    have HB := Lib.hid B
    have HJ := Lib.hid (And.intro hj (And.intro hL hX))
    obtain ⟨AS, nS, cS, rfl⟩ : ∃ A N c, vS = .slice A N c := by obtain ⟨A1, c1, e⟩ := A.pS.slice; exact ⟨A1, _, c1, e⟩
    obtain ⟨AX, nX, cX, rfl⟩ : ∃ A N c, vX = .slice A N c := by obtain ⟨A1, c1, e⟩ := A.pX.slice; exact ⟨A1, _, c1, e⟩
    clear A B hL hX
    by_cases hlt : j < N
    · have i1 : (j : Int) < (N : Int) := by omega
      have HLT := Lib.hid hlt
      obtain ⟨e0, e1, e2, e3, e4, e5⟩ := box_six HB.out (Up.refl _)
      have HNEW := Lib.hid (suNew (c := c) HA.out.env.mem HA.out.env.ok HA.out.env.top HM.out HNUM.out.1 HNUM.out.2.1 HSL.out.1 HCM.out)
      clear hlt hj
      go_upto_region 15 with (go_at_call 21; refine HNEW.out.mono ?_; rintro e w8 ⟨b, q, qs, ql, F, rfl, S8, n8, V8, q8, nq8, U8⟩; have HS8 := Lib.hid (And.intro S8 V8); have HF8 := Lib.hid (And.intro n8 (And.intro q8 nq8)); have HU8 := Lib.hid U8; have s2 := (HA.out.obj.up U8).cell (i := 2) (v := .slice AS nS cS) rfl; clear S8 V8 n8 q8 nq8 U8)
      clear e0 e1 e2 e3 e4 e5 HNEW
      go_upto_region 16 with (at_builtin; refine wpList_ptrU (x := w8.heap.size) (b := b) rfl _ _ rfl rfl rfl ((HA.out.pS.up HU8.out).up (Up.alloc _ _)) (cell_new rfl rfl) (len_few HJ.out.2.1 HJ.out.1 HN3.out) ?_; intro v9 w9 J9 G9 O9; obtain ⟨A9, N9, c9, rfl⟩ : ∃ A N c, v9 = .slice A N c := (by obtain ⟨A1, c1, e⟩ := J9.slice; exact ⟨A1, _, c1, e⟩); have T9 := HA.out.objU HU8.out G9; have y2 := T9.cell (i := 2) (v := .slice AS nS cS) rfl; have g2 := T9.frozen 2; have HJ9 := Lib.hid (And.intro J9 (And.intro G9 O9)); clear J9 G9 O9 T9)
      clear y2 g2 s2
      have HA10 := Lib.hid (HA.out.addU HU8.out (d := ⟨b, q, qs, ql, F⟩) HS8.out HF8.out.1 HF8.out.2.1 HF8.out.2.2 HJ9.out.1 HJ9.out.2.1 HJ9.out.2.2)
      have HB10 := Lib.hid (HA.out.boxU (v' := .slice A9 N9 c9) HU8.out HB.out HJ9.out.2.1)
      have HL10 := Lib.hid (show (L ++ [(⟨b, q, qs, ql, F⟩ : SuD)]).length = j + 1 by rw [List.length_append, HJ.out.2.1]; rfl)
      generalize w9.setCell ⟨a, 2, none⟩ (.slice A9 N9 c9) = w10 at *
      generalize L ++ [(⟨b, q, qs, ql, F⟩ : SuD)] = L10 at *
      clear HJ9 HS8 HF8 HU8
      have k3 := (HA10.out.obj.up (up_drew w10)).cell (i := 3) (v := .pointer (some ⟨k, 0, none⟩)) rfl
      have k4 := (HA10.out.obj.up (up_drew w10)).cell (i := 4) (v := .slice AX nX cX) rfl
      go_region_law (first
        | (go_simp; go_at_call 34; (with_reducible refine (rsuNew (HA10.out.rp.up (up_drew w10)) HCM.out).mono ?_); rintro e w11 ⟨b2, qs2, ql2, F2, rfl, S11, n11, U11⟩; have HS11 := Lib.hid S11; have HU11 := Lib.hid ((up_drew w10).trans U11); have HN11 := Lib.hid n11; have k4' := (HA10.out.obj.up HU11.out).cell (i := 4) (v := .slice AX nX cX) rfl; have k3' := (HA10.out.obj.up HU11.out).cell (i := 3) (v := .pointer (some ⟨k, 0, none⟩)) rfl; have k4a := (HA10.out.obj.up (HU11.out.then_alloc (.cells #[.pointer (some ⟨b2, 0, none⟩)] 86))).cell (i := 4) (v := .slice AX nX cX) rfl; clear S11 n11 U11; go_wp2_with fail)
        | (refine step_ptrR (x := w11.heap.size) (b := b2) (by rfl) _ _ (by rfl) (by rfl) (by rfl) ((HA10.out.pX.up HU11.out).up (Up.alloc _ _)) (cell_new rfl rfl) (len_few HJ.out.2.2 HJ.out.1 HN3.out) ?_; intro v12 w12 J12 G12 O12; obtain ⟨A12, N12, c12, rfl⟩ : ∃ A N c, v12 = .slice A N c := (by obtain ⟨A1, c1, e⟩ := J12.slice; exact ⟨A1, _, c1, e⟩); have T12 := HA10.out.objR HU11.out G12; have y4 := T12.cell (i := 4) (v := .slice AX nX cX) rfl; have g4 := T12.frozen 4; have HJ12 := Lib.hid (And.intro J12 (And.intro G12 O12)); clear J12 G12 O12 T12))
      all_goals
        have HA13 := Lib.hid (HA10.out.addR HU11.out (d := ⟨b2, qs2, ql2, F2⟩) HS11.out HN11.out HJ12.out.1 HJ12.out.2.1 HJ12.out.2.2)
        have HB13 := Lib.hid (HA10.out.boxR (v' := .slice A12 N12 c12) HU11.out HB10.out HJ12.out.2.1)
        have HL13 := Lib.hid (show (X ++ [(⟨b2, qs2, ql2, F2⟩ : RuD)]).length = j + 1 by rw [List.length_append, HJ.out.2.2]; rfl)
        clear k3 k4 k3' k4' k4a y4 g4
        go_wp2_with fail
        go_roundw
        case rel => exact ⟨j + 1, _, _, _, _, num_succ HLT.out HN3.out (by decide), HLT.out, HL10.out, HL13.out, HA13.out, HB13.out⟩
        case measure => exact meas_succ HLT.out HN3.out (by decide)
    · have hjN : j = N := by omega
      subst hjN
      have i1 : ¬ (j : Int) < (j : Int) := by omega
      obtain ⟨rs, hrs⟩ : ∃ rs, wk + ns = rs := ⟨_, rfl⟩
      have HRS := Lib.hid hrs
      clear hrs hlt hj
      go_wp2_with fail
      go_loopw [13] (fun i wr => MdZ w ⟨a, p, g, q0, k, pr, gr, qp, qsr, qe, c, lk, n, m, fun _ => none⟩ s0 x0 rs b0 (.slice AS nS cS) (.slice AX nX cX) L X ns i wr) (fun i _ => ns - (intOf i).toNat)
      case atStart => exact ⟨0, rfl, Nat.zero_le _, HA.out, HB.out⟩
      case round =>
        obtain ⟨i, rfl, hi, A, B⟩ := hrel
        clear HA HB
        have HA := Lib.hid A
        have HB := Lib.hid B
        have HI := Lib.hid hi
        obtain ⟨y0, hy0⟩ : ∃ y, zeroR x0 rs i = y := ⟨_, rfl⟩
        have hyl : y0.length = LEN := by rw [← hy0, zeroR_len, HSL.out.2]
        have HY0 := Lib.hid hy0
        rw [hy0] at HA
        clear A B hy0
        have q0c := HA.out.rp.env.mem.cells.1
        rw [hyl] at q0c
        have HYL := Lib.hid hyl
        have hp0 := Lib.hid q0c
        have e3n := (box_six HB.out (Up.refl _)).2.2.2.1
        rw [← HNUM.out.2.2.2.1] at e3n
        clear hyl q0c
        by_cases h2 : i < ns
        · have i2 : (i : Int) < (ns : Int) := by omega
          have HLT := Lib.hid h2
          obtain ⟨ix, hix⟩ : ∃ ix, rs + i = ix := ⟨_, rfl⟩
          have HIX := Lib.hid hix
          have HSLOT := Lib.hid (show lslotN c (i : Int) = (ix : Int) by
            have hN := HNUM.out
            unfold lslotN
            rw [atN_is HM.out (by omega) (by omega)]
            have := HRS.out
            omega)
          have i3 : (0 : Int) ≤ (ix : Int) := by omega
          have i4 : (ix : Int) < (LEN : Int) := by have hN := HNUM.out; have := HRS.out; omega
          clear h2 hi hix
          go_upto_region 20 with fail
          clear e3n
          obtain ⟨y, hy⟩ : ∃ y, y0.getD ix 0 = y := ⟨_, rfl⟩
          have cy := HA.out.rp.env.mem.cell (i := ix) (by rw [HYL.out]; omega)
          rw [hy] at cy
          have HCY := Lib.hid cy
          clear cy hy
          have HQ0 := Lib.hid (show (wr.drew.cell? ⟨a, 3, none⟩ = some (.pointer (some ⟨k, 0, none⟩)) ∧ wr.drew.cell? ⟨k, 6, none⟩ = some (.pointer (some ⟨pr, 0, none⟩)) ∧ wr.drew.cell? ⟨pr, 0, none⟩ = some (.slice (some ⟨gr, 0, none⟩) LEN LEN)) ∧ wr.drew.cell? ⟨b0, 0, none⟩ = some (.int .i64 c.wk) ∧ wr.drew.cell? ⟨b0, 1, none⟩ = some (.int .i64 c.ch) ∧ wr.drew.cell? ⟨b0, 2, none⟩ = some (.int .i64 c.wo) ∧ wr.drew.cell? ⟨b0, 3, none⟩ = some (.int .i64 c.sl) ∧ wr.drew.cell? ⟨b0, 4, none⟩ = some (.int .i64 c.ca) ∧ wr.drew.cell? ⟨b0, 5, none⟩ = some (.int .i64 c.ba) from ⟨⟨(up_drew wr).kept (HA.out.obj.cell rfl), (up_drew wr).kept (HA.out.rp.obj.cell rfl), (up_drew wr).kept hp0.out⟩, box_six HB.out (up_drew wr)⟩)
          have HNG := Lib.hid (show a ≠ gr ∧ k ≠ gr ∧ pr ≠ gr ∧ b0 ≠ gr from ⟨HA.out.obj.ne_type HA.out.rp.env.mem.row (by decide), HA.out.rp.obj.ne_type HA.out.rp.env.mem.row (by decide), HA.out.rp.env.mem.ne, HB.out.ne_type HA.out.rp.env.mem.row (by decide)⟩)
          go_region_held3 (fun w' => (w'.cell? ⟨a, 3, none⟩ = some (.pointer (some ⟨k, 0, none⟩)) ∧ w'.cell? ⟨k, 6, none⟩ = some (.pointer (some ⟨pr, 0, none⟩)) ∧ w'.cell? ⟨pr, 0, none⟩ = some (.slice (some ⟨gr, 0, none⟩) LEN LEN)) ∧ w'.cell? ⟨b0, 0, none⟩ = some (.int .i64 c.wk) ∧ w'.cell? ⟨b0, 1, none⟩ = some (.int .i64 c.ch) ∧ w'.cell? ⟨b0, 2, none⟩ = some (.int .i64 c.wo) ∧ w'.cell? ⟨b0, 3, none⟩ = some (.int .i64 c.sl) ∧ w'.cell? ⟨b0, 4, none⟩ = some (.int .i64 c.ca) ∧ w'.cell? ⟨b0, 5, none⟩ = some (.int .i64 c.ba))
            ((first | with_reducible exact HQ5.out.1 | with_reducible exact HQ5.out.2 _ | with_reducible exact HQ0.out))
            (first
              | (go_at_call 35; refine (rslot_is (c := c) HSLOT.out _).mono ?_; rintro e w15 ⟨rfl, U15⟩; have HU15 := Lib.hid ((up_drew wr).trans U15); have y6 := U15.kept ((up_drew wr).kept HCY.out); have g6 := (HA.out.rp.env.mem.row.up HU15.out).frozen ix; have HQ5 := Lib.hid (And.intro (show (w15.cell? ⟨a, 3, none⟩ = some (.pointer (some ⟨k, 0, none⟩)) ∧ w15.cell? ⟨k, 6, none⟩ = some (.pointer (some ⟨pr, 0, none⟩)) ∧ w15.cell? ⟨pr, 0, none⟩ = some (.slice (some ⟨gr, 0, none⟩) LEN LEN)) ∧ w15.cell? ⟨b0, 0, none⟩ = some (.int .i64 c.wk) ∧ w15.cell? ⟨b0, 1, none⟩ = some (.int .i64 c.ch) ∧ w15.cell? ⟨b0, 2, none⟩ = some (.int .i64 c.wo) ∧ w15.cell? ⟨b0, 3, none⟩ = some (.int .i64 c.sl) ∧ w15.cell? ⟨b0, 4, none⟩ = some (.int .i64 c.ca) ∧ w15.cell? ⟨b0, 5, none⟩ = some (.int .i64 c.ba) from ⟨⟨U15.kept HQ0.out.1.1, U15.kept HQ0.out.1.2.1, U15.kept HQ0.out.1.2.2⟩, box_six HB.out HU15.out⟩) (fun v : Value => show ((w15.setCell ⟨gr, ix, none⟩ v).cell? ⟨a, 3, none⟩ = some (.pointer (some ⟨k, 0, none⟩)) ∧ (w15.setCell ⟨gr, ix, none⟩ v).cell? ⟨k, 6, none⟩ = some (.pointer (some ⟨pr, 0, none⟩)) ∧ (w15.setCell ⟨gr, ix, none⟩ v).cell? ⟨pr, 0, none⟩ = some (.slice (some ⟨gr, 0, none⟩) LEN LEN)) ∧ (w15.setCell ⟨gr, ix, none⟩ v).cell? ⟨b0, 0, none⟩ = some (.int .i64 c.wk) ∧ (w15.setCell ⟨gr, ix, none⟩ v).cell? ⟨b0, 1, none⟩ = some (.int .i64 c.ch) ∧ (w15.setCell ⟨gr, ix, none⟩ v).cell? ⟨b0, 2, none⟩ = some (.int .i64 c.wo) ∧ (w15.setCell ⟨gr, ix, none⟩ v).cell? ⟨b0, 3, none⟩ = some (.int .i64 c.sl) ∧ (w15.setCell ⟨gr, ix, none⟩ v).cell? ⟨b0, 4, none⟩ = some (.int .i64 c.ca) ∧ (w15.setCell ⟨gr, ix, none⟩ v).cell? ⟨b0, 5, none⟩ = some (.int .i64 c.ba) from ⟨⟨kept_set (ad_ne HNG.out.1.symm) (U15.kept HQ0.out.1.1), kept_set (ad_ne HNG.out.2.1.symm) (U15.kept HQ0.out.1.2.1), kept_set (ad_ne HNG.out.2.2.1.symm) (U15.kept HQ0.out.1.2.2)⟩, box_six ((HB.out.up HU15.out).far (p := ⟨gr, ix, none⟩) HNG.out.2.2.2 v) (Up.refl _)⟩)); clear U15))
          all_goals
            have HA16 := Lib.hid ((HA.out.ups HU15.out).lay (i := ix) (y := 0) (by decide) (by decide))
            have HB16 := Lib.hid ((HB.out.up HU15.out).far (p := ⟨gr, ix, none⟩) HNG.out.2.2.2 (.int .u64 0))
            go_wp2_with fail
            go_roundw
            case rel =>
              refine ⟨i + 1, num_succ HLT.out HNUM.out.2.2.2.2.2.2.2.2.2 (Nat.le_refl _), HLT.out, ?_, HB16.out⟩
              have h := HA16.out
              rw [← HY0.out] at h
              have e : zeroR x0 rs (i + 1) = (zeroR x0 rs i).set ix 0 := by rw [← HIX.out]; rfl
              rw [e]
              exact h
            case measure => exact meas_succ HLT.out HNUM.out.2.2.2.2.2.2.2.2.2 (Nat.le_refl _)
        · have hin : i = ns := by omega
          have i2 : ¬ (i : Int) < (ns : Int) := by omega
          have i5 : (1 : Int) < (LEN : Int) := by have hN := HNUM.out; omega
          obtain ⟨y, hy⟩ : ∃ y, y0.getD 1 0 = y := ⟨_, rfl⟩
          have cy := HA.out.rp.env.mem.cell (i := 1) (by rw [HYL.out]; omega)
          rw [hy] at cy
          have g6 := HA.out.rp.env.mem.row.frozen 1
          have k1 := HA.out.obj.cell (i := 3) (v := .pointer (some ⟨k, 0, none⟩)) rfl
          have k2 := HA.out.rp.obj.cell (i := 6) (v := .pointer (some ⟨pr, 0, none⟩)) rfl
          have k3 := hp0.out
          have HIN := Lib.hid hin
          clear hy h2 hi hin
          go_wp2_with fail
          go_ret
          have h := HA.out.lay (i := 1) (y := 0) (by decide) (by decide)
          have hN := HNUM.out
          have hz : y0.set 1 0 = s0.xs := by
            rw [← HY0.out, HIN.out, ← HX0.out.2, ← HX0.out.1, ← HRS.out, ← hN.2.2.2.2.1]
            exact zero_new (by omega) (by omega) (by omega)
          rw [hz] at h
          refine ⟨a, rfl, ⟨a, p, g, q0, k, pr, gr, qp, qsr, qe, c, lk, n, m, fun _ => none⟩, LEN, .slice AS nS cS, .slice AX nX cX, L, X, rfl, ⟨rfl, hN.1, hN.2.1, HCM.out.symm, HLEN.out.symm, rfl⟩, HJ.out.2.1, HJ.out.2.2, ?_⟩
          have hm13 : mem13 ⟨a, p, g, q0, k, pr, gr, qp, qsr, qe, c, lk, n, m, fun _ => none⟩ LEN = s0 := HX0.out.1
          rw [hm13]
          exact h
end
end Go.Proofs.YtkopplnjomkleaaGreat

/-
  Package supply: a Take: keptOrPool, both ways; its parts (UTkM).
-/
namespace Go.Proofs.YtkopplnjomkleaaGreat
open Go.RowKit
open W64
set_option maxRecDepth 100000
set_option linter.unusedSimpArgs false
def utRow (nx : Value) (b : Nat) (pv : Value) (sn ch : Int) (fd : Bool) : Array Value := #[nx, .pointer (some ⟨b, 0, none⟩), pv, .int .i64 sn, .int .i64 ch, .bool fd]
/-- What Chunk tells of a chunk, or of none (-1). -/
def chI (x : Int) : Int := if x < 0 then 0 else x
def chB (x : Int) : Bool := decide (0 ≤ x)
/-- The program's Take lies at bt: as its machine mc says; its chunk (-1: none), the epoch it has seen; its own blocks O. -/
def UTkM (w : World) (bt b q n : Nat) (mc : Mc) (ch sn : Int) (O : List Nat) : Prop := match mc with
  | .idle => bt ∈ O ∧ (∀ x ∈ O, x < w.heap.size) ∧ ∃ pv, Whole w bt 127 (utRow .nilFunc b pv sn (chI ch) (chB ch))
  | .look => O = [bt] ∧ ch = -1 ∧ sn = -1 ∧ Whole w bt 127 (utRow (meth 67 bt) b (.pointer none) (-1) 0 false)
  | .pop s P => ch = -1 ∧ sn = s ∧ ∃ bp v, O = bt :: bp :: blk v ∧ Whole w bt 127 (utRow (meth 113 bt) b (.pointer (some ⟨bp, 0, none⟩)) s 0 false) ∧ PoM w bp q n v P ∧ bp ≠ bt ∧ v.ownBlock ≠ some bt ∧ v.ownBlock ≠ some bp
  | .give _ => False
section
variable {w w1 w' : World} {bt b p q qs ql n most : Nat} {F : List Nat} {m ba sn ch : Int} {st : List Int} {R : Lb} {nx pv : Value} {fd : Bool}
theorem poNewQ (m : Int) {most : Nat} (hm : min (max m 1) 8 = most) (q n : Nat) (w : World) :
    Calls Tryz.prog 112 #[.pointer (some ⟨q, 0, none⟩), .int .i64 m] w fun e w' => ∃ bp, e = .returned (.pointer (some ⟨bp, 0, none⟩)) ∧ PoM w' bp q n (.slice none 0 0) ⟨most, 0, 0, 0, [], false⟩ ∧ w.heap.size ≤ bp ∧ Up w w' :=
  (poNew m hm n).mono fun _ _ ⟨h1, h2, h3⟩ => ⟨_, h1, h2, Nat.le_refl _, h3⟩
set_option maxHeartbeats 4000000 in
theorem utkKept {y : Int} (E : PSu w b (suRow p q ba qs ql) qs ql F m (st ++ [y]) R) (T : Whole w bt 127 (utRow nx b pv sn ch fd)) (hb : bt ∉ F) :
    Calls Tryz.prog 68 #[.pointer (some ⟨bt, 0, none⟩)] w fun e w' => e = .returned (.tuple #[]) ∧ Whole w' bt 127 (utRow .nilFunc b pv sn y true) ∧ Turned w w' (bt :: F) fun F' => ∃ F'', F' = bt :: F'' ∧ PSu w' b (suRow p q ba qs ql) qs ql F'' m st R ∧ bt ∉ F'' := by
  obtain ⟨_, _, _, c3, _⟩ := E.cells (Up.refl _)
  have t1 := T.cell (i := 1) (v := .pointer (some ⟨b, 0, none⟩)) rfl
  have HS := Lib.hid (psuTake E)
  have HT := Lib.hid T
  have HB := Lib.hid hb
  clear E T hb
  go_enter Tryz.func68, Tryz.ntmps68
  go_wp2_with (go_at_call 111; (with_reducible refine HS.out.mono ?_); rintro e w1 ⟨rfl, F1, E1, N1, X1⟩; have HE1 := Lib.hid E1; have HN1 := Lib.hid (And.intro N1 X1); have HT1 := Lib.hid (X1.whole HT.out HB.out); have s4 := HT1.out.cell (i := 4) (v := .int .i64 ch) rfl; have s5 := HT1.out.cell (i := 5) (v := .bool fd) rfl; have s0 := HT1.out.cell (i := 0) (v := nx) rfl; have f0 := HT1.out.frozen 0; have f4 := HT1.out.frozen 4; have f5 := HT1.out.frozen 5; clear E1 N1 X1 c3 t1)
  have hlt := HT.out.lt
  have hn : bt ∉ F1 := fun h => by
    rcases HN1.out.1 bt h with h | h
    · exact HB.out h
    · omega
  have u1 : Else [bt] w1 (w1.setCell ⟨bt, 4, none⟩ (.int .i64 y)) := (Else.refl [bt] w1).set (.inl (by simp)) _
  have u2 := u1.set (p := ⟨bt, 5, none⟩) (.inl (by simp)) (.bool true)
  have u3 := u2.set (p := ⟨bt, 0, none⟩) (.inl (by simp)) .nilFunc
  refine bodyPost_ret (v := .tuple #[]) (by simp [results, Tryz.results68, go_sem]) rfl ?_
  refine ⟨rfl, ((HT1.out.set 4 (.int .i64 y)).set 5 (.bool true)).set 0 .nilFunc, bt :: F1, ⟨F1, rfl, HE1.out.else u3 (fun x hx => by simp; rintro rfl; exact hn hx), hn⟩, ?_, ?_⟩
  · intro x hx
    rcases List.mem_cons.1 hx with rfl | hx
    · exact .inl (by simp)
    · exact (HN1.out.1 x hx).imp (fun h => by simp [h]) id
  · exact (HN1.out.2.more (fun x hx => by simp [hx])).trans (u3.more (fun x hx => by simp at hx; simp [hx]))
set_option maxHeartbeats 8000000 in
theorem utkPool (E : PSu w b (suRow p q ba qs ql) qs ql F m [] R) (T : Whole w bt 127 (utRow nx b pv sn ch fd)) (hb : bt ∉ F) (hm : min (max ba 1) 8 = most) (n : Nat) :
    Calls Tryz.prog 68 #[.pointer (some ⟨bt, 0, none⟩)] w fun e w' => e = .returned (.tuple #[]) ∧ ∃ bp, Whole w' bt 127 (utRow (meth 113 bt) b (.pointer (some ⟨bp, 0, none⟩)) sn 0 false) ∧ PoM w' bp q n (.slice none 0 0) (Po.new most) ∧ w.heap.size ≤ bp ∧ Else [bt] w w' := by
  obtain ⟨_, _, _, c3, _⟩ := E.cells (Up.refl _)
  have t1 := T.cell (i := 1) (v := .pointer (some ⟨b, 0, none⟩)) rfl
  have s4 := T.cell (i := 4) (v := .int .i64 ch) rfl
  have s5 := T.cell (i := 5) (v := .bool fd) rfl
  have f4 := T.frozen 4
  have f5 := T.frozen 5
  have HS := Lib.hid (psuTake_no E)
  have HP := Lib.hid (fun w0 => poNewQ ba hm q n w0)
  have HT := Lib.hid T
  have HE := Lib.hid E
  have HB := Lib.hid hb
  have hf := run_func
  clear E T hb hm
  go_enter Tryz.func68, Tryz.ntmps68
  go_upto_region 3 with (go_at_call 111; (with_reducible refine HS.out.mono ?_); rintro e w1 ⟨rfl, rfl⟩)
  clear c3 t1 s4 s5 f4 f5
  have HT3 := Lib.hid (show Whole ((w.setCell ⟨bt, 4, none⟩ (.int .i64 0)).setCell ⟨bt, 5, none⟩ (.bool false)) bt 127 (utRow nx b pv sn 0 false) from (HT.out.set 4 (.int .i64 0)).set 5 (.bool false))
  have HX3 := Lib.hid (show Else [bt] w ((w.setCell ⟨bt, 4, none⟩ (.int .i64 0)).setCell ⟨bt, 5, none⟩ (.bool false)) from ((Else.refl [bt] w).set (.inl (by simp)) _).set (.inl (by simp)) _)
  generalize (w.setCell ⟨bt, 4, none⟩ (.int .i64 0)).setCell ⟨bt, 5, none⟩ (.bool false) = w3 at *
  have HE3 := Lib.hid (HE.out.else HX3.out (fun x hx => by simp; rintro rfl; exact HB.out hx))
  have HC0 := Lib.hid (show w3.drew.cell? ⟨bt, 1, none⟩ = some (.pointer (some ⟨b, 0, none⟩)) ∧ w3.drew.cell? ⟨b, 1, none⟩ = some (.pointer (some ⟨q, 0, none⟩)) ∧ w3.drew.cell? ⟨b, 2, none⟩ = some (.int .i64 ba) from ⟨(up_drew w3).kept (HT3.out.cell rfl), (HE3.out.cells (up_drew w3)).2.1, (HE3.out.cells (up_drew w3)).2.2.1⟩)
  have g2 := (HT3.out.up (up_drew w3)).cell (i := 2) (v := pv) rfl
  go_region_held3 (fun w' => w'.cell? ⟨bt, 1, none⟩ = some (.pointer (some ⟨b, 0, none⟩)) ∧ w'.cell? ⟨b, 1, none⟩ = some (.pointer (some ⟨q, 0, none⟩)) ∧ w'.cell? ⟨b, 2, none⟩ = some (.int .i64 ba))
    ((first | with_reducible exact HC5.out | with_reducible exact HC0.out | with_reducible exact HC6.out _))
    (first
      | (go_at_call 112; (with_reducible refine (HP.out _).mono ?_); rintro e w5 ⟨bp, rfl, M5, b5, U5⟩; have HM5 := Lib.hid M5; have HU5 := Lib.hid ((up_drew w3).trans U5); have HB5 := Lib.hid b5; have HT5 := Lib.hid (HT3.out.up HU5.out); have HC5 := Lib.hid (show w5.cell? ⟨bt, 1, none⟩ = some (.pointer (some ⟨b, 0, none⟩)) ∧ w5.cell? ⟨b, 1, none⟩ = some (.pointer (some ⟨q, 0, none⟩)) ∧ w5.cell? ⟨b, 2, none⟩ = some (.int .i64 ba) from ⟨U5.kept HC0.out.1, U5.kept HC0.out.2.1, U5.kept HC0.out.2.2⟩); have HC6 := Lib.hid (fun v : Value => show (w5.setCell ⟨bt, 2, none⟩ v).cell? ⟨bt, 1, none⟩ = some (.pointer (some ⟨b, 0, none⟩)) ∧ (w5.setCell ⟨bt, 2, none⟩ v).cell? ⟨b, 1, none⟩ = some (.pointer (some ⟨q, 0, none⟩)) ∧ (w5.setCell ⟨bt, 2, none⟩ v).cell? ⟨b, 2, none⟩ = some (.int .i64 ba) from ⟨kept_set (off_ne (by decide)) HC5.out.1, kept_set (ad_ne (fun h => HB.out (h ▸ HE.out.bF))) HC5.out.2.1, kept_set (ad_ne (fun h => HB.out (h ▸ HE.out.bF))) HC5.out.2.2⟩); have f2 := HT5.out.frozen 2; have s2 := HT5.out.cell (i := 2) (v := pv) rfl; have f0 := HT5.out.frozen 0; have s0 := HT5.out.cell (i := 0) (v := nx) rfl; clear M5 b5 U5))
  go_wp2_with fail
  go_end0
  have hlt := HT3.out.lt
  have hsz := HX3.out.size
  have hdr : w3.drew.heap.size = w3.heap.size := rfl
  have hb5 := HB5.out
  have u1 : Else [bt] w5 (w5.setCell ⟨bt, 2, none⟩ (.pointer (some ⟨bp, 0, none⟩))) := (Else.refl [bt] w5).set (.inl (by simp)) _
  have u2 := u1.set (p := ⟨bt, 0, none⟩) (.inl (by simp)) (meth 113 bt)
  exact ⟨rfl, bp, (HT5.out.set 2 (.pointer (some ⟨bp, 0, none⟩))).set 0 (meth 113 bt), HM5.out.else u2 (by simp; omega) (fun x hx => by simp [Value.ownBlock]), by omega, (HX3.out.trans (Else.of_up HU5.out)).trans u2⟩
end
end Go.Proofs.YtkopplnjomkleaaGreat
