/-
  StackPlays, proved for every n and every list of steps: each cell behind each step, each machine's end and what it got, are what the reference says.
-/
import Derived.Test.YtalhbebpoohgkaaRows
import Derived.Test.YtalhbebpoohgkaaGoesNew
import Derived.WalkKit
import Derived.ProofKit
import Derived.OpenShut
import Derived.ShutString
import Derived.ChangeOld
import Derived.Below
import Derived.Carry
import Derived.Lib.SmallJoins
import Derived.OwnWalk
namespace Go.Proofs.Ytalhbebpoohgkaa.stackPlays
open Go.ChangeShapes Go.WideShapes Go.ChangeAt Go.RowKit Go.Joins Go.Proofs.Ytalhbebpoohgkaa W64
open Go.ChangeMaps (open_string shut_string)
set_option linter.unusedVariables false

theorem own : ownKnob Try.prog.godebug = none := by kernel_rfl
theorem laidOut : laidOutB Try.prog = true := by kernel_rfl

theorem row_wf {kd : IntKind} {w : World} {a : Option Addr} {len cap : Nat} {zs : List Int} (h : IsRow kd w a len cap zs) {k : Nat} (hk : k < len) : (Lit.int kd (zs.getD k 0)).wf = true := by
  rcases h with ⟨_, rfl, _, _⟩ | ⟨x, rfl, hl, hm, hz, hc, hw⟩
  · omega
  · exact hw _ (by simp [List.getD, show k < zs.length by omega])
theorem quo4 {z : Int} (h : (Lit.int .i64 z).wf = true) : IntKind.i64.wrap (z.tdiv 4) = z.tdiv 4 ∧ wrap64 (z.tdiv 4) = z.tdiv 4 := by
  have := W64.i64_in h
  have h2 : -9223372036854775808 ≤ z.tdiv 4 ∧ z.tdiv 4 < 9223372036854775808 := by
    rcases Int.le_total 0 z with h | h
    · rw [Int.tdiv_eq_ediv_of_nonneg h]; omega
    · have e : z.tdiv 4 = -((-z).tdiv 4) := by rw [Int.neg_tdiv]; omega
      rw [e, Int.tdiv_eq_ediv_of_nonneg (by omega)]; omega
  exact ⟨IntWalk.i64_in _ (by omega), wrap64_in h2.1 h2.2⟩
def PRel (wB : World) (p g q pr gr qr n bH len : Nat) (i : Value) (wr : World) : Prop := ∃ k t : Nat, k ≤ len ∧ i = .int .i64 k ∧ t ≤ k ∧ PSt wB p g q pr gr qr n bH t wr
def nilP : Nat → Value := fun _ => .pointer none
def nilL : Nat → Value := fun _ => .slice none 0 0
theorem start_of {w6 wB : World} {p g q pr gr qr n bH : Nat} {s : St} (Y : Sys w6 p g q n s 0 (List.range n) (fun _ => .idle) (fun _ => [])) (RE : REnv w6 pr gr qr 0 2 n s.xs s.c) (U : Up w6 wB) (A : Whole wB bH 45 (arr20 nilP nilP nilP nilP nilL)) (O : XOrd wB p g q pr gr qr bH) : PSt wB p g q pr gr qr n bH 0 wB := by
  obtain ⟨o1, o2, o3, o4, o5, o6, o7⟩ := id O
  refine ⟨_, _, _, _, _, _, _, _, fun _ => [], ⟨⟨s, Y.up U, RE.up U⟩, fun _ _ => .idle, fun _ _ => Ints.nil _, fun _ _ k hk => by simp [ow, Value.ownBlock] at hk, fun _ _ => by simp [ow, Value.ownBlock], fun _ _ _ _ _ k hk => by simp [ow, Value.ownBlock] at hk, by omega, by omega, by omega, by omega, by omega, by omega⟩, A, Else.refl _ _⟩
theorem ref_zero (n : Nat) : ∀ i, 0 ≤ (List.replicate n (0 : Int)).getD i 0 ∧ (List.replicate n (0 : Int)).getD i 0 < 18446744073709551616 := by
  intro i
  have : (List.replicate n (0 : Int)).getD i 0 = 0 := by
    unfold List.getD
    by_cases h : i < n <;> simp [h]
  rw [this]; decide

set_option maxRecDepth 100000 in
set_option maxHeartbeats 2000000 in
theorem walk (a0 : Int) (a1 : Option Addr) (len1 cap1 : Nat) (z1 : List Int) (w : World) (w0 : (Lit.int .i64 a0).wf = true) (w1 : IsRow .i64 w a1 len1 cap1 z1) :
    Calls Try.prog 3 #[.int .i64 a0, .slice a1 len1 cap1] w fun e w' => e = .returned (.bool true) ∧ Up w w' := by
  have HR1 := Lib.hid w1
  have hl1 := row_len w1
  unfold maxLen at hl1
  clear w0 w1
  obtain ⟨x, hx, _, x0, x1⟩ := emod_letter a0 9 (by decide)
  obtain ⟨n, hn⟩ : ∃ n : Nat, 1 + x = n := ⟨(1 + x).toNat, by omega⟩
  have HX := Lib.hid hx
  have n0 : 1 ≤ n := by omega
  have n1 : n ≤ 9 := by omega
  have n2 : n ≤ 400 := by omega
  have HN := Lib.hid hn
  clear hx hn
  go_enter Try.func3, Try.ntmps3
  go_upto_region 4 with (first
    | (go_at_call 9; refine (first_any _).mono ?_; rintro e w1 ⟨rfl, U1⟩))
  have HU1 := Lib.hid U1
  clear U1
  by_cases h120 : 120 < len1
  · have i1 : (120 : Int) < (len1 : Int) := by omega
    go_wp2_with fail
    go_ret
    exact ⟨rfl, HU1.out⟩
  have i1 : ¬ (120 : Int) < (len1 : Int) := by omega
  go_upto_region 11 with (first
    | (go_at_call 10; (with_reducible refine (number_is HX.out (by decide) (by decide) _).mono ?_); rintro e w' ⟨rfl, rfl⟩)
    | (go_at_call 11; refine (table_in n HN.out (by omega) n2 _).mono ?_; rintro e w2 ⟨p, g, q, rfl, E2, hp, hg, hq, U2⟩; have HE2 := Lib.hid E2; have HU2 := Lib.hid U2; clear E2 U2)
    | (go_at_call 12; refine (fill_in HE2.out).mono ?_; rintro e w3 ⟨rfl, M3, X3⟩; have HX3 := Lib.hid X3; have HY3 := Lib.hid (sys_fill HE2.out M3 X3); clear M3 X3))
  rw [HN.out]
  have HN2 := Lib.hid (show (n : Int) + 2 = ((n + 2 : Nat) : Int) by omega)
  go_upto_region 13 with (first
    | (go_at_call 13; refine (rnew_is HN2.out (by omega) _).mono ?_; rintro e w4 ⟨rfl, R4, U4⟩; have HR4 := Lib.hid R4; have HU4 := Lib.hid U4; clear R4 U4))
  have gp := HE2.out.mem.top.lt
  have gg := HE2.out.mem.row.lt
  have gq := HE2.out.stk.lt
  have z3 := HX3.out.size
  have zu := HU1.out.size
  have z4 := HR4.out.top.lt
  have RE5 : REnv (w4.alloc (.cells #[.pointer (some ⟨w3.heap.size + 1, 0, none⟩), .int .i64 0, .int .i64 2, .int .i64 n] 33)) (w3.heap.size + 1) w3.heap.size w4.heap.size 0 2 n (List.replicate (n + 2) 0) 0 :=
    ⟨HR4.out.up (Up.alloc _ _), Whole.new _ _ _, ref_zero _, by omega, by omega, n0, by omega, by simp, by simp; omega, by simp; omega⟩
  have HRE5 := Lib.hid RE5
  have HU5 := Lib.hid (HU4.out.then_alloc (.cells #[.pointer (some ⟨w3.heap.size + 1, 0, none⟩), .int .i64 0, .int .i64 2, .int .i64 n] 33))
  have z5 : (w4.alloc (.cells #[.pointer (some ⟨w3.heap.size + 1, 0, none⟩), .int .i64 0, .int .i64 2, .int .i64 n] 33)).heap.size = w4.heap.size + 1 := by simp
  clear RE5
  generalize w4.alloc (.cells #[.pointer (some ⟨w3.heap.size + 1, 0, none⟩), .int .i64 0, .int .i64 2, .int .i64 n] 33) = w5 at *
  obtain ⟨gr, hgr⟩ : ∃ b, w3.heap.size = b := ⟨_, rfl⟩
  obtain ⟨pr, hpr⟩ : ∃ b, gr + 1 = b := ⟨_, rfl⟩
  obtain ⟨qr, hqr⟩ : ∃ b, w4.heap.size = b := ⟨_, rfl⟩
  rw [hgr, hpr, hqr] at HRE5 ⊢
  rw [hgr, hpr, hqr] at z4
  rw [hqr] at z5
  go_upto_region 14 with (first
    | (go_at_call 14; refine (rfill_in HRE5.out).mono ?_; rintro e w6 ⟨rfl, R6, E6⟩; have HR6 := Lib.hid R6; have HE6 := Lib.hid E6; clear R6 E6))
  have z6 := HE6.out.size
  have RE6 : REnv w6 pr gr qr 0 2 n (fillS (St.zero (n + 2)) 0 2 n).xs (fillS (St.zero (n + 2)) 0 2 n).c := by
    rw [← fillR_is _ _ n0, fillS_c]; exact HR6.out
  have Y6 : Sys w6 p g q n (fillS (St.zero (n + 2)) 0 2 n) 0 (List.range n) (fun _ => .idle) (fun _ => []) :=
    ⟨(HY3.out.up HU5.out).env.else HE6.out (by simp; omega) (by simp; omega) (by simp; omega), HY3.out.len, HY3.out.gi⟩
  have HST := Lib.hid (fun wB bH => start_of (wB := wB) (bH := bH) Y6 RE6)
  clear RE6 Y6
  go_wp2_with fail
  have HUB := Lib.hid (Up.alloc w6 (.cells (arr20 nilP nilP nilP nilP nilL) 45))
  have HWB := Lib.hid (Whole.new w6 45 (arr20 nilP nilP nilP nilP nilL))
  have zB : (w6.alloc (.cells (arr20 nilP nilP nilP nilP nilL) 45)).heap.size = w6.heap.size + 1 := by simp
  have eB : w6.alloc (.cells #[.pointer none, .pointer none, .pointer none, .pointer none, .pointer none, .pointer none, .pointer none, .pointer none, .pointer none, .pointer none, .pointer none, .pointer none, .pointer none, .pointer none, .pointer none, .pointer none, .slice none 0 0, .slice none 0 0, .slice none 0 0, .slice none 0 0] 45) = w6.alloc (.cells (arr20 nilP nilP nilP nilP nilL) 45) := rfl
  rw [eB]
  clear eB
  generalize w6.alloc (.cells (arr20 nilP nilP nilP nilP nilL) 45) = wB at *
  obtain ⟨bH, hbH⟩ : ∃ b, w6.heap.size = b := ⟨_, rfl⟩
  rw [hbH] at HWB ⊢
  have hO : XOrd wB p g q pr gr qr bH := by unfold XOrd; omega
  have HO := Lib.hid hO
  have HS0 := Lib.hid (HST.out wB bH HUB.out HWB.out hO)
  clear HST hO
  go_loopw [12] (fun i wr => PRel wB p g q pr gr qr n bH len1 i wr) (fun i _ => len1 - (intOf i).toNat)
  case atStart => exact ⟨0, 0, Nat.zero_le _, rfl, Nat.le_refl _, HS0.out⟩
  case round =>
    obtain ⟨k, t, hk, rfl, ht, H⟩ := hrel
    have HP := Lib.hid H
    have hE : Else [p, g, pr, gr, bH] wB wr := by
      obtain ⟨_, _, _, _, _, _, _, _, _, _, _, E⟩ := H
      exact E
    have HE := Lib.hid hE
    clear H hE HS0
    have i0 : (0 : Int) ≤ (k : Int) := Int.natCast_nonneg _
    by_cases hlt : k < len1
    · obtain ⟨b, off, rfl, hb, hc⟩ := row_cell HR1.out hlt
      have hc2 := HU5.out.kept (HX3.out.kept (p := ⟨b, off + k, none⟩) (HU2.out.kept (HU1.out.kept hc)) (by simp; omega))
      have hc3 := HUB.out.kept (HE6.out.kept (p := ⟨b, off + k, none⟩) hc2 (by simp; omega))
      have hc4 := HE.out.kept (p := ⟨b, off + k, none⟩) hc3 (by simp; omega)
      clear hc hc2 hc3
      have hwf := row_wf HR1.out hlt
      generalize z1.getD k 0 = z at *
      obtain ⟨q1, q2⟩ := quo4 hwf
      clear hwf
      have i2 : (k : Int) < (len1 : Int) := by omega
      obtain ⟨u', hu', _, u0', u1'⟩ := emod_letter z 4 (by decide)
      obtain ⟨u, hu⟩ : ∃ u : Nat, u' = u := ⟨u'.toNat, by omega⟩
      subst hu
      have hu4 : u < 4 := by omega
      obtain ⟨c, hcc, _, c0, c1⟩ := emod_letter (Int.tdiv z 4) 64 (by decide)
      have HZ := Lib.hid hu'
      have HC := Lib.hid hcc
      clear hu' hcc u0' u1'
      have ht2 : t < 4294967295 := by omega
      have HG := Lib.hid (goes_in HP.out HO.out hu4 n2 ht2 c0 c1)
      go_wp2_with (first
        | (go_at_call 10; (with_reducible refine (number_is HZ.out (by decide) (by decide) _).mono ?_); rintro e w' ⟨rfl, rfl⟩)
        | (go_at_call 10; (with_reducible refine (number_is HC.out (by decide) (by decide) _).mono ?_); rintro e w' ⟨rfl, rfl⟩)
        | (go_at_call 15; (with_reducible refine HG.out.mono ?_); rintro e w7 ⟨rfl, t7, ht7, P7⟩; have HP7 := Lib.hid P7; obtain ⟨S7, m7, h7, vP7, vO7, vX7, vY7, vL7, oM7, D7, AW7, E7⟩ := P7; obtain ⟨s7, Y7, RE7⟩ := D7.sys; have HY7 := Lib.hid Y7; have HRE7 := Lib.hid RE7; clear D7 AW7 E7 Y7 RE7)
        | (go_at_call 16; refine (same_yes HY7.out.env.mem HRE7.out.mem HY7.out.env.top).mono ?_; rintro e w8 ⟨rfl, U8⟩; have HU8 := Lib.hid U8; clear U8)
        | (go_at_call 18; refine (list_in (HY7.out.up HU8.out).env HY7.out.holds).mono ?_; rintro e w9 ⟨v9, rfl, J9, F9, U9⟩; have HJ9 := Lib.hid J9; have HU9 := Lib.hid (HU8.out.trans U9); clear J9 F9 U9)
        | (go_at_call 19; refine (rlist_in (HRE7.out.up HU9.out) HY7.out.holds).mono ?_; rintro e w10 ⟨v10, rfl, J10, F10, U10⟩; have HJ10 := Lib.hid J10; have HU10 := Lib.hid U10; clear J10 F10 U10)
        | (go_at_call 17; refine (same_in (HJ9.out.rd.up HU10.out) HJ10.out.rd).mono ?_; rintro e w11 ⟨rfl, U11⟩; have HU11 := Lib.hid ((HU9.out.trans HU10.out).trans U11); clear U11))
      go_roundw
      case rel => exact ⟨k + 1, t7, by omega, by go_num, by omega, HP7.out.up HU11.out⟩
      case measure => simp [intOf]; omega
    · have i2 : ¬ (k : Int) < (len1 : Int) := by omega
      go_wp2_with fail
      go_ret
      refine ⟨rfl, Else.up_new (HU1.out.trans HU2.out) (s := [p, g, pr, gr, bH]) ((((HX3.out.more (by intro j hj; simp at hj ⊢; omega)).up HU5.out).trans (HE6.out.more (by intro j hj; simp at hj ⊢; omega))).trans ((Else.of_up HUB.out).trans HE.out)) (by intro j hj; simp at hj; omega)⟩

set_option maxRecDepth 100000 in
theorem lifted (os : Os) (started : os.Started) (H : Type) (enc : TypeId × Value → H) :
    ReturnsInHanded {} Try.checked os 3 .any (Rows.stackPlaysSpec.pre6 enc Try.prog Try.f3 Rows.stackPlaysRow.domain false) (Rows.stackPlaysSpec.post enc Try.prog Try.f3 false true false false) := by
  refine returnsInHanded_of_change (C := Try.checked) own started (by kernel_rfl) Try.func3
    (ChangeSpec.witness6 (enc := enc) (C := Try.checked) false ⟨#[], #[.int .i64 0, .slice none 0 0], []⟩ 8 (by kernel_rfl) (by kernel_rfl) (by kernel_rfl) (by kernel_rfl)) ?_
  intro W base args ds gs before hval0 hW hcnd _
  have hval : ∀ (j : Nat) t v, Try.f3.params[j]? = some t → args[j]? = some v → Value.okWide Try.prog W .any base t v := hval0
  have hW' := hW
  obtain ⟨p, q, hA0, hV, rfl, hfz, hnd⟩ := hW
  have hA : DataW.TrodAll enc Try.prog W 0 (fun _ => true) true Try.f3.params.toList args.toList ds p := hA0
  rw [Try.params3] at hA hval
  obtain ⟨v0, vs0, d0, ds0, p0, q0, hargs, rfl, rfl, h0, r0⟩ := trodAll_cons hA
  obtain ⟨v1, vs1, d1, ds1, p1, q1, rfl, rfl, rfl, h1, r1⟩ := trodAll_cons r0
  obtain ⟨rfl, rfl, rfl⟩ := trodAll_nil r1
  obtain rfl : args = #[v0, v1] := by cases args; simp_all
  obtain ⟨rfl, rfl⟩ := trodVars_none hV
  have k0 := h0
  have lt0 : ∀ x ∈ p0, x.block < W.heap.size := by obtain ⟨m, hm⟩ := k0; exact DataW.trod_lt m _ _ _ hm
  obtain ⟨a0, rfl, rfl, rfl, w0⟩ := open_int Try.underlying3 (hval 0 3 v0 rfl rfl) h0
  have k1 := h1
  have lt1 : ∀ x ∈ p1, x.block < W.heap.size := by obtain ⟨m, hm⟩ := k1; exact DataW.trod_lt m _ _ _ hm
  obtain ⟨a1, len1, cap1, rfl⟩ := okWide_slice Try.underlying22 (hval 1 22 v1 rfl rfl)
  obtain ⟨z1, w1⟩ : ∃ zs, IsRow .i64 W a1 len1 cap1 zs := by
    obtain ⟨fuel, hf⟩ := h1
    rcases open_ints Try.underlying22 Try.underlying3 (by kernel_rfl) hf with ⟨hcs, _⟩ | ⟨x, l, c, zs, hcs, _, hl, hm, hz, _, hcell, hwz⟩
    · simp [Value.cells] at hcs
      obtain ⟨rfl, rfl, rfl⟩ := hcs
      exact ⟨[], .inl ⟨rfl, rfl, rfl, rfl⟩⟩
    · simp [Value.cells] at hcs
      obtain ⟨rfl, rfl, rfl⟩ := hcs
      exact ⟨zs, .inr ⟨_, rfl, hl, hm, by simpa using hz, hcell, hwz⟩⟩
  clear hA0 hval0
  refine (walk a0 a1 len1 cap1 z1 W w0 w1).mono fun e W' ⟨he, bel⟩ => ?_
  subst he
  exact ⟨_, rfl, _, _, _, [], _, [], hW', trodAll_mk1 (shut_bool Try.underlying4 _), (trodAll_cons_mk (Below.trod laidOut (by kernel_rfl) (of_decide_eq_true (by kernel_rfl)) k0 bel lt0) (trodAll_cons_mk (Below.trod laidOut (by kernel_rfl) (of_decide_eq_true (by kernel_rfl)) k1 bel lt1) trodAll_mk0)), rfl, Below.frame bel _, fun h => by cases h⟩

theorem over : Rows.stackPlaysRow.holds Try.pinned (OpenSpec.ofChange Rows.stackPlaysSpec) :=
  OpenClaim.holds_of_wide 3 Try.f3 rfl rfl rfl rfl rfl rfl rfl ⟨rfl, rfl, rfl, rfl, rfl⟩ rfl rfl rfl rfl rfl (by kernel_rfl) Try.func3 (by kernel_rfl)
    (of_decide_eq_true (by kernel_rfl)) (by unfold Func.isWrapper; first | (rw [if_pos (by decide +kernel)]; kernel_rfl) | (rw [if_neg (by decide +kernel)]; exact ⟨rfl, rfl⟩))
    (fun os started H enc _ => lifted os started H enc)

/-- THE STATEMENT -/
theorem proved : Rows.StackPlaysSaid := over
#print axioms proved
end Go.Proofs.Ytalhbebpoohgkaa.stackPlays
