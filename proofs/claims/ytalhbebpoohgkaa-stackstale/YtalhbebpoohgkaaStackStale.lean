/-
  Proved: StackStale.
-/
import Derived.Test.YtalhbebpoohgkaaRows
import Derived.Test.YtalhbebpoohgkaaLists
import Derived.WalkKit
import Derived.ProofKit
import Derived.OpenShut
import Derived.ShutString
import Derived.ChangeOld
import Derived.Below
import Derived.Carry
import Derived.Lib.SmallJoins
import Derived.OwnWalk
namespace Go.Proofs.Ytalhbebpoohgkaa.stackStale
open Go.ChangeShapes Go.WideShapes Go.ChangeAt Go.RowKit Go.Joins Go.Proofs.Ytalhbebpoohgkaa W64
open Go.ChangeMaps (open_string shut_string)
set_option linter.unusedVariables false

theorem own : ownKnob Try.prog.godebug = none := by kernel_rfl
theorem laidOut : laidOutB Try.prog = true := by kernel_rfl

theorem range_form {k : Nat} (h : 3 ≤ k) : List.range k = 0 :: 1 :: (List.range' 2 (k - 2)) := by
  obtain ⟨j, rfl⟩ : ∃ j, k = j + 2 := ⟨k - 2, by omega⟩
  rw [List.range_eq_range', List.range'_succ, List.range'_succ]; rfl
/-- Between the rounds: one sleeps, the others have gone on. -/
def SRel (w0 : World) (p g q n b : Nat) (v : Value) (deep old : Int) (r : Nat) (i : Value) (wr : World) : Prop :=
  ∃ (j : Nat) (s : St) (t : Nat) (has : Nat → List Nat), i = .int .i64 j ∧ j ≤ r + 1 ∧ Sys wr p g q n s t (if j ≤ r then 0 :: 1 :: List.range' 2 (n - 2) else 0 :: List.range' 2 (n - 2)) (Stk.upd (fun _ => .idle) 0 (.pop 1 2 deep old [0])) has ∧ (j ≤ r → has 1 = []) ∧ PopM wr b q v [0] 1 2 deep old ∧ Else [p, g] w0 wr ∧ t ≤ 6 * j ∧ j ≤ t
theorem idle_one (M : Stk.Mach) : Stk.upd (fun _ => Stk.Mach.idle) 0 M 1 = .idle := rfl
theorem I_one (x : Nat) : [(x : Int)] = I [x] := rfl
theorem I_two (x y : Nat) : [(x : Int), (y : Int)] = I [x, y] := rfl
theorem popM_else {w w' : World} {b q p g : Nat} {v : Value} {l : List Nat} {most i : Nat} {deep old : Int} (P : PopM w b q v l most i deep old) (A : Apart b p g q v) (E : Else [p, g] w w') : PopM w' b q v l most i deep old := P.else E A.b2 A.v2
theorem i_zero : ([0] : List Int) = I [0] := rfl
theorem i_one : ([1] : List Int) = I [1] := rfl
theorem i_two : ([0, 1] : List Int) = I [0, 1] := rfl
theorem not_low {n x : Nat} (h : x < 2) : decide ((x : Int) ∈ I (List.range' 2 n)) = false := by
  rw [decide_eq_false_iff_not]
  intro hm
  obtain ⟨y, hy, e⟩ := List.mem_map.1 hm
  have := List.mem_range'_1.1 hy
  omega
theorem done_parts {w : World} {p g q n t b : Nat} {R : List Nat} {m : Nat → Stk.Mach} {has : Nat → List Nat} {wr : World} {k : Nat} (h : TRel w p g q n t b 1 (0 :: R) m has 0 wr k) (hk : k = 3) :
    ∃ s' v deep old has', Fresh w v ∧ PopAt wr b q v [0] 1 deep old .nilFunc ∧ Sys wr p g q n s' (t + 1) R m has' ∧ Else [p, g] w wr := by
  have hm : min 1 (0 :: R).length = 1 := by simp
  cases h with
  | start _ _ _ _ => omega
  | link _ _ _ _ _ _ _ => omega
  | turn h _ _ _ _ => rw [hm] at h; omega
  | done h F P Y E =>
    rw [hm] at P Y
    exact ⟨_, _, _, _, _, F, P, Y, E⟩
theorem SRel_hd {w : World} {p g q n t : Nat} {s : St} {S : List Nat} {m : Nat → Stk.Mach} {has : Nat → List Nat} (Y : Sys w p g q n s t S m has) (ht : 1 ≤ t) : (1 : Int) ≠ Stk.hdOf s.xs := by
  intro e
  have := Y.gi.tag
  rw [← e] at this
  omega
/-- The twenty steps at the end. -/
def LRel (w3 : World) (p g q n t b : Nat) (R : List Nat) (has : Nat → List Nat) (i : Value) (wr : World) : Prop := ∃ j : Nat, i = .int .i64 j ∧ j ≤ 20 ∧ TRel w3 p g q n t b 1 (0 :: R) (fun _ => .idle) has 0 wr (min j 3)
theorem l_step {w3 : World} {p g q n t b : Nat} {s : St} {R : List Nat} {has : Nat → List Nat} {wr : World} {j : Nat} (E0 : Env w3 p g q 0 2 n s) (hb : w3.heap.size ≤ b) (ht : t < 4294967295) (h : TRel w3 p g q n t b 1 (0 :: R) (fun _ => .idle) has 0 wr (min j 3)) :
    Calls Try.prog 22 #[.pointer (some ⟨b, 0, none⟩)] wr fun e w' => ∃ c, e = .returned (.bool c) ∧ TRel w3 p g q n t b 1 (0 :: R) (fun _ => .idle) has 0 w' (min (j + 1) 3) := by
  have hm : min 1 (0 :: R).length = 1 := by simp
  by_cases hj : j < 3
  · rw [show min j 3 = j by omega] at h
    rw [show min (j + 1) 3 = j + 1 by omega]
    refine (h.step E0 (by omega) rfl hb ht (by simp) (by rw [hm]; omega)).mono ?_
    rintro e w' ⟨rfl, h'⟩
    exact ⟨_, rfl, h'⟩
  · rw [show min j 3 = 3 by omega] at h
    rw [show min (j + 1) 3 = 3 by omega]
    obtain ⟨s', v, deep, old, has', F, P, Y, E⟩ := done_parts h rfl
    refine (popStep_end P.cells.2.2.2.2.2).mono ?_
    rintro e w' ⟨rfl, rfl⟩
    exact ⟨_, rfl, h⟩
theorem low0 (n : Nat) : decide ((0 : Int) ∈ I (List.range' 2 n)) = false := not_low (x := 0) (by omega)
theorem low1 (n : Nat) : decide ((1 : Int) ∈ I (List.range' 2 n)) = false := not_low (x := 1) (by omega)

set_option maxRecDepth 100000 in
set_option maxHeartbeats 8000000 in
theorem walk (a0 : Int) (a1 : Int) (w : World) (w0 : (Lit.int .i64 a0).wf = true) (w1 : (Lit.int .i64 a1).wf = true) :
    Calls Try.prog 7 #[.int .i64 a0, .int .i64 a1] w fun e w' => e = .returned (.bool true) ∧ Up w w' := by
  clear w0 w1
  obtain ⟨x, hx, _, x0, x1⟩ := emod_letter a0 6 (by decide)
  obtain ⟨y, hy, _, y0, y1⟩ := emod_letter a1 5 (by decide)
  obtain ⟨n, hn⟩ : ∃ n : Nat, 3 + x = n := ⟨(3 + x).toNat, by omega⟩
  obtain ⟨r, hr⟩ : ∃ r : Nat, y = r := ⟨y.toNat, by omega⟩
  subst hr
  have HX := Lib.hid hx
  have HY := Lib.hid hy
  have HN := Lib.hid hn
  have n0 : 3 ≤ n := by omega
  have n1 : n ≤ 8 := by omega
  have n2 : n ≤ 400 := by omega
  have r1 : r ≤ 4 := by omega
  have hmin1 : min (max (1 : Int) 1) 8 = ((1 : Nat) : Int) := by decide
  have HM1 := Lib.hid hmin1
  clear hx hy hn hmin1
  go_enter Try.func7, Try.ntmps7
  go_upto_region 10 with (first
    | (go_at_call 9; refine (first_any _).mono ?_; rintro e w1 ⟨rfl, U1⟩)
    | (go_at_call 10; (with_reducible refine (number_is HX.out (by decide) (by decide) _).mono ?_); rintro e w' ⟨rfl, rfl⟩)
    | (go_at_call 11; refine (table_in n HN.out (by omega) n2 _).mono ?_; rintro e w2 ⟨p, g, q, rfl, E2, hp, hg, hq, U2⟩; have HE2 := Lib.hid E2; clear E2)
    | (go_at_call 12; refine (fill_in HE2.out).mono ?_; rintro e w3 ⟨rfl, M3, X3⟩; have HX3 := Lib.hid X3; have Y3 := Lib.hid (sys_fill HE2.out M3 X3); clear M3 X3)
    | (go_at_call 26; refine (spop_in 1 HM1.out).mono ?_; rintro e w4 ⟨rfl, P4, U4⟩; have HP4 := Lib.hid P4; clear P4))
  have Y4 := Lib.hid (Y3.out.up U4)
  have A4 := Lib.hid (apart_new (v := .slice none 0 0) (b := w3.heap.size) Y3.out.env (Nat.le_refl _) (fun k hk => by simp [Value.ownBlock] at hk))
  have P4 : PopM w4 w3.heap.size q (.slice none 0 0) [] 1 0 0 0 := ⟨HP4.out, by omega, by omega, by omega, by omega, by simp⟩
  rw [range_form n0] at Y4
  have hold : Stk.hdOf (fillS (St.zero (n + 2)) 0 2 n).xs = 1 := fillS_hd _ _ (zero_len _)
  have HU := Lib.hid (U1.trans U2)
  have hpq : w1.heap.size ≤ w3.heap.size := by have := U2.size; have := HX3.out.size; omega
  have u4 := U4.size
  have HU4 := Lib.hid U4
  have HY3 := Lib.hid Y3.out.env
  have hbb : w3.heap.size < w4.heap.size := HP4.out.top.lt
  generalize fillS (St.zero (n + 2)) 0 2 n = s4 at *
  have S1 := Lib.hid (pop_head Y4.out (u := 0) (by omega) rfl rfl P4 A4.out)
  rw [hold] at S1
  have u1s := U1.size
  generalize hbq : w3.heap.size = b at *
  clear P4 HP4 A4 Y4 Y3 U4 hold U1 U2
  go_upto_region 12 with (first
    | (go_at_call 22; refine S1.out.mono ?_; rintro e w5 ⟨rfl, s5, r5, cap5, _, hx5, hr5, P5, A5, Y5, E5⟩; have S2 := Lib.hid (pop_stop Y5 (u := 0) (by omega) (Stk.upd_same _ _ _) (by decide) (.inr rfl) P5 A5); have G5 := Lib.hid E5; have HA5 := Lib.hid A5; clear Y5 P5 A5 hx5 E5 S1)
    | (go_at_call 22; refine S2.out.mono ?_; rintro e w6 ⟨rfl, s6, _, hx6, P6, Y6, E6⟩; have HP6 := Lib.hid P6; have C6 := Lib.hid P6.at_.cells.2.2.2.2.2; have HY6 := Lib.hid Y6; have G6 := Lib.hid E6; clear P6 Y6 E6 hx6 S2)
    | (go_at_call 23; refine (popDone_no (f := 74) C6.out).mono ?_; rintro e w' ⟨rfl, rfl⟩))
  rw [upd_upd] at HY6
  generalize hdeep : Stk.lkOf s5.xs (List.getLast [0] (by decide)) - 1 = deep at *
  have HG6 := Lib.hid ((((Else.of_up (s := [b, p, g]) HU4.out).trans G5.out).trans G6.out).drop_new (by omega))
  have hF : Fresh w3 (.slice (some ⟨r5, 0, none⟩) 1 cap5) := fresh_row (by omega)
  have HF := Lib.hid hF
  clear hF G5 G6 C6 hdeep
  go_wp2_with fail
  go_loopw [10] (fun i wr => SRel w3 p g q n b (.slice (some ⟨r5, 0, none⟩) 1 cap5) deep 1 r i wr) (fun i _ => r + 1 - (intOf i).toNat)
  case atStart =>
    refine ⟨0, s6, 0, fun _ => [], rfl, by omega, ?_, fun _ => rfl, HP6.out, HG6.out, by omega, by omega⟩
    rw [if_pos (by omega)]; exact HY6.out
  case round =>
    obtain ⟨j, s, t, has, rfl, hj, Y, hh, P, E, t1, t2⟩ := hrel
    by_cases hjr : j ≤ r
    · rw [if_pos hjr] at Y
      have hh := hh hjr
      have HH := Lib.hid hh
      have HYr := Lib.hid Y
      have HPr := Lib.hid P
      have HEr := Lib.hid E
      clear hh Y P E
      have l1 : (j : Int) ≤ (r : Int) := by omega
      by_cases hlt : j < r
      · have l2 : (j : Int) < (r : Int) := by omega
        go_upto_region 22 with (first
          | (go_at_call 10; (with_reducible refine (number_is HY.out (by decide) (by decide) _).mono ?_); rintro e w' ⟨rfl, rfl⟩)
          | (go_at_call 29; refine (takes2 HYr.out (u := 1) (by omega) (idle_one _) (by omega)).mono ?_; rintro e w7 ⟨r7, c7, s7, h7, rfl, z0, z1, hr7, hh7, Y7, C7⟩; rw [HH.out] at hh7; replace hh7 : h7 1 = 0 :: [1] := hh7; have HH7 := Lib.hid hh7; have HY7 := Lib.hid Y7; have HC7 := Lib.hid C7; clear hh7 Y7 C7 HYr HH)
          | (go_at_call 28; refine (alone1 0 HY7.out (u := 1) (by omega) (idle_one _) HH7.out n2 (by omega) rfl).mono ?_; rintro e w8 ⟨rfl, s8, h8, hh8, Y8, C8⟩; have HH8 := Lib.hid hh8; have HY8 := Lib.hid Y8; have z1 := C8.kept (p := ⟨r7, 1, none⟩) z1 hr7; have HC8 := Lib.hid (HC7.out.trans C8); clear hh8 Y8 C8 HY7 HH7 HC7)
          | (go_at_call 28; refine (alone1 1 HY8.out (u := 1) (by omega) (idle_one _) HH8.out n2 (by omega) rfl).mono ?_; rintro e w9 ⟨rfl, s9, h9, hh9, Y9, C9⟩; have HH9 := Lib.hid hh9; have HY9 := Lib.hid Y9; have HC9 := Lib.hid (HC8.out.trans C9); clear hh9 Y9 C9 HY8 HH8 HC8)
          | (go_at_call 29; refine (takes2 HY9.out (u := 1) (by omega) (idle_one _) (by omega)).mono ?_; rintro e w10 ⟨r10, c10, s10, h10, rfl, d0, d1, hr10, hh10, Y10, C10⟩; rw [HH9.out] at hh10; have HY10 := Lib.hid (Y10.perm (u := 1) (by omega) (L := [0, 1]) (by rw [hh10]; decide)); have HC10 := Lib.hid (HC9.out.trans C10); clear hh10 Y10 C10 HY9 HH9 HC9))
        have d0 : w10.cell? ⟨r10, 0, none⟩ = some (.int .i64 1) := d0
        have d1 : w10.cell? ⟨r10, 1, none⟩ = some (.int .i64 0) := d1
        clear z0 z1
        go_region_held3 (fun w' => w'.cell? ⟨r10, 0, none⟩ = some (.int .i64 1) ∧ w'.cell? ⟨r10, 1, none⟩ = some (.int .i64 0)) ((first | exact ⟨d0, d1⟩ | exact ⟨(Up.alloc _ _).kept (p := ⟨r10, 0, none⟩) d0, (Up.alloc _ _).kept (p := ⟨r10, 1, none⟩) d1⟩ | exact ⟨C11.kept (p := ⟨r10, 0, none⟩) d0 hr10, C11.kept (p := ⟨r10, 1, none⟩) d1 hr10⟩))
          (first
            | (go_at_call 28; refine (alone2 0 1 (HY10.out.up (up_drew w10)) (u := 1) (by omega) (idle_one _) (Stk.upd_same _ _ _) n2 (by omega) rfl rfl).mono ?_; rintro e w11 ⟨rfl, s11, h11, hh11, Y11, C11⟩))
        have HH11 := Lib.hid hh11
        have HY11 := Lib.hid Y11
        have HC11 := Lib.hid (HC10.out.trans ((Else.of_up (s := [p, g]) (up_drew w10)).trans C11))
        clear hh11 Y11 C11 d0 d1
        go_wp2_with fail
        go_roundw
        case rel =>
          refine ⟨j + 1, s11, t + 1 + 1 + 1 + 1 + 1, h11, by go_num, by omega, ?_, fun _ => HH11.out, popM_else HPr.out HA5.out HC11.out, HEr.out.trans HC11.out, by omega, by omega⟩
          rw [if_pos (by omega)]; exact HY11.out
        case measure => simp [intOf]; omega
      · have l2 : ¬ (j : Int) < (r : Int) := by omega
        go_wp2_with (first
          | (go_at_call 10; (with_reducible refine (number_is HY.out (by decide) (by decide) _).mono ?_); rintro e w' ⟨rfl, rfl⟩)
          | (go_at_call 29; refine (takes2 HYr.out (u := 1) (by omega) (idle_one _) (by omega)).mono ?_; rintro e w7 ⟨r7, c7, s7, h7, rfl, z0, z1, hr7, hh7, Y7, C7⟩; rw [HH.out] at hh7; replace hh7 : h7 1 = 0 :: [1] := hh7; have HH7 := Lib.hid hh7; have HY7 := Lib.hid Y7; have HC7 := Lib.hid C7; clear hh7 Y7 C7 HYr HH)
          | (go_at_call 28; refine (alone1 0 HY7.out (u := 1) (by omega) (idle_one _) HH7.out n2 (by omega) rfl).mono ?_; rintro e w8 ⟨rfl, s8, h8, hh8, Y8, C8⟩; have HH8 := Lib.hid hh8; have HY8 := Lib.hid Y8; have z1 := C8.kept (p := ⟨r7, 1, none⟩) z1 hr7; have HC8 := Lib.hid (HC7.out.trans C8); clear hh8 Y8 C8 HY7 HH7 HC7))
        go_roundw
        case rel =>
          refine ⟨j + 1, s8, t + 1 + 1, h8, by go_num, by omega, ?_, fun hle => absurd hle (by omega), popM_else HPr.out HA5.out HC8.out, HEr.out.trans HC8.out, by omega, by omega⟩
          rw [if_neg (by omega)]; exact HY8.out
        case measure => simp [intOf]; omega
    · have ej : j = r + 1 := by omega
      subst ej
      rw [if_neg (by omega)] at Y
      have l1 : ¬ ((r + 1 : Nat) : Int) ≤ (r : Int) := by omega
      have HS := Lib.hid (pop_fail Y (u := 0) (by omega) (Stk.upd_same _ _ _) (SRel_hd Y (by omega)) P HA5.out)
      have HEr := Lib.hid E
      have ht : t < 4294967295 := by omega
      clear Y P E hh
      go_wp2_with (first
        | (go_at_call 10; (with_reducible refine (number_is HY.out (by decide) (by decide) _).mono ?_); rintro e w' ⟨rfl, rfl⟩)
        | (go_at_call 22; refine HS.out.mono ?_; rintro e w12 ⟨rfl, s12, _, _, P12, Y12, E12⟩; have HP12 := Lib.hid P12; have C12 := Lib.hid P12.at_.cells.2.2.2.2.2; have HY12 := Lib.hid (Y12.rest (u := 0) (by omega) rfl); have HE12 := Lib.hid E12; clear P12 Y12 E12 HS)
        | (go_at_call 23; refine (popDone_no (f := 52) C12.out).mono ?_; rintro e w' ⟨rfl, rfl⟩))
      rw [upd_upd, upd_upd, upd_back rfl] at HY12
      have T0 := Lib.hid (TRel.start (u := 0) (b := b) HP12.out HF.out HY12.out (((HEr.out.wide b).trans HE12.out).drop_new (by omega)))
      go_loopw [15] (fun i wr => LRel w3 p g q n t b (List.range' 2 (n - 2)) has i wr) (fun i _ => 20 - (intOf i).toNat)
      case atStart => exact ⟨0, rfl, by omega, T0.out⟩
      case round =>
        obtain ⟨j, rfl, hj, T⟩ := hrel
        have HT := Lib.hid T
        clear T
        by_cases hlt : j < 20
        · have l3 : (j : Int) < 20 := by omega
          go_wp2_with (go_at_call 22; refine (l_step HY3.out (by omega) ht HT.out).mono ?_; rintro e w13 ⟨c13, rfl, T13⟩; have HT13 := Lib.hid T13; clear T13)
          go_roundw
          case rel => exact ⟨j + 1, by go_num, by omega, HT13.out⟩
          case measure => simp [intOf]; omega
        · have ej : j = 20 := by omega
          subst ej
          obtain ⟨s14, v14, d14, o14, h14, F14, P14, Y14, E14⟩ := done_parts HT.out rfl
          have HP14 := Lib.hid P14
          have HY14 := Lib.hid Y14
          have HE14 := Lib.hid E14
          clear F14 P14 Y14 E14
          have hlen : IntKind.i64.wrap (3 + x - 2) = ((I (List.range' 2 (n - 2))).length : Int) := by
            rw [I_len, List.length_range', HN.out, IntKind.wrap_i64]; omega
          go_upto_region 32 with (first
            | (go_at_call 24; refine (got_in HP14.out (by simp) (by simp)).mono ?_; rintro e w15 ⟨r15, k15, rfl, I15, h15, h15b, U15⟩; have HI15 := Lib.hid I15; have HU15 := Lib.hid U15; clear I15 U15)
            | (go_at_call 18; refine (list_in (HY14.out.up HU15.out).env (HY14.out.up HU15.out).holds).mono ?_; rintro e w16 ⟨v16, rfl, I16, F16, U16⟩; have HI16 := Lib.hid I16; have HU16 := Lib.hid U16; obtain ⟨A16, c16, rfl⟩ := I16.slice; have c15 := U16.kept (HI15.out.at_ (j := 0) (by simp)); clear I16 U16 F16))
          have c15 : w16.cell? ⟨r15, 0, none⟩ = some (.int .i64 0) := c15
          go_quiet (first
            | (go_at_call 32; (with_reducible exact quiet_eq (lhas_to (HI16.out.rd.up ((Up.refl _).then_drewN _)) (low0 _))))
            | (go_at_call 32; (with_reducible exact quiet_eq (lhas_to (HI16.out.rd.up ((Up.refl _).then_drewN _)) (low1 _)))))
          go_wp2_with fail
          go_ret
          exact ⟨rfl, (Else.up_new HU.out (((HX3.out.trans HE14.out).up HU15.out).up HU16.out) (by intro k hk; simp at hk; omega)).then_drewN _⟩

set_option maxRecDepth 100000 in
theorem lifted (os : Os) (started : os.Started) (H : Type) (enc : TypeId × Value → H) :
    ReturnsInHanded {} Try.checked os 7 .any (Rows.stackStaleSpec.pre6 enc Try.prog Try.f7 Rows.stackStaleRow.domain false) (Rows.stackStaleSpec.post enc Try.prog Try.f7 false true false false) := by
  refine returnsInHanded_of_change (C := Try.checked) own started (by kernel_rfl) Try.func7
    (ChangeSpec.witness6 (enc := enc) (C := Try.checked) false ⟨#[], #[.int .i64 0, .int .i64 0], []⟩ 8 (by kernel_rfl) (by kernel_rfl) (by kernel_rfl) (by kernel_rfl)) ?_
  intro W base args ds gs before hval0 hW hcnd _
  have hval : ∀ (j : Nat) t v, Try.f7.params[j]? = some t → args[j]? = some v → Value.okWide Try.prog W .any base t v := hval0
  have hW' := hW
  obtain ⟨p, q, hA0, hV, rfl, hfz, hnd⟩ := hW
  have hA : DataW.TrodAll enc Try.prog W 0 (fun _ => true) true Try.f7.params.toList args.toList ds p := hA0
  rw [Try.params7] at hA hval
  obtain ⟨v0, vs0, d0, ds0, p0, q0, hargs, rfl, rfl, h0, r0⟩ := trodAll_cons hA
  obtain ⟨v1, vs1, d1, ds1, p1, q1, rfl, rfl, rfl, h1, r1⟩ := trodAll_cons r0
  obtain ⟨rfl, rfl, rfl⟩ := trodAll_nil r1
  obtain rfl : args = #[v0, v1] := by cases args; simp_all
  obtain ⟨rfl, rfl⟩ := trodVars_none hV
  have k0 := h0
  have lt0 : ∀ x ∈ p0, x.block < W.heap.size := by obtain ⟨m, hm⟩ := k0; exact DataW.trod_lt m _ _ _ hm
  obtain ⟨a0, rfl, rfl, rfl, w0⟩ := open_int Try.underlying3 (hval 0 3 v0 rfl rfl) h0
  have k1 := h1
  have lt1 : ∀ x ∈ p1, x.block < W.heap.size := by obtain ⟨m, hm⟩ := k1; exact DataW.trod_lt m _ _ _ hm
  obtain ⟨a1, rfl, rfl, rfl, w1⟩ := open_int Try.underlying3 (hval 1 3 v1 rfl rfl) h1
  clear hA0 hval0
  refine (walk a0 a1 W w0 w1).mono fun e W' ⟨he, bel⟩ => ?_
  subst he
  exact ⟨_, rfl, _, _, _, [], _, [], hW', trodAll_mk1 (shut_bool Try.underlying4 _), (trodAll_cons_mk (Below.trod laidOut (by kernel_rfl) (of_decide_eq_true (by kernel_rfl)) k0 bel lt0) (trodAll_cons_mk (Below.trod laidOut (by kernel_rfl) (of_decide_eq_true (by kernel_rfl)) k1 bel lt1) trodAll_mk0)), rfl, Below.frame bel _, fun h => by cases h⟩

theorem over : Rows.stackStaleRow.holds Try.pinned (OpenSpec.ofChange Rows.stackStaleSpec) :=
  OpenClaim.holds_of_wide 7 Try.f7 rfl rfl rfl rfl rfl rfl rfl ⟨rfl, rfl, rfl, rfl, rfl⟩ rfl rfl rfl rfl rfl (by kernel_rfl) Try.func7 (by kernel_rfl)
    (of_decide_eq_true (by kernel_rfl)) (by unfold Func.isWrapper; first | (rw [if_pos (by decide +kernel)]; kernel_rfl) | (rw [if_neg (by decide +kernel)]; exact ⟨rfl, rfl⟩))
    (fun os started H enc _ => lifted os started H enc)

/-- THE STATEMENT -/
theorem proved : Rows.StackStaleSaid := over
#print axioms proved
end Go.Proofs.Ytalhbebpoohgkaa.stackStale
