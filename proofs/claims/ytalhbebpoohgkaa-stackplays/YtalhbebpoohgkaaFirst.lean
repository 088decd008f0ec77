/-
  The statements' own first.
-/
import Derived.Test.YtalhbebpoohgkaaTable
namespace Go.Proofs.Ytalhbebpoohgkaa
open Go.RowKit
set_option maxRecDepth 100000
theorem range3 : List.range 3 = [0, 1, 2] := rfl
theorem min2 : min (max (2 : Int) 1) 8 = ((2 : Nat) : Int) := by decide
theorem wrap4 {a b c d e : Int} (h0 : a = 0) (h1 : b = wrap64 (a + 1)) (h2 : c = wrap64 (b + 1)) (h3 : d = wrap64 (c + 1)) (h4 : e = wrap64 (d + 1)) : e = 4 := by
  unfold wrap64 at *; omega
set_option maxHeartbeats 4000000 in
theorem first_any (w : World) : Calls Try.prog 9 #[] w fun e w' => e = .returned (.bool true) ∧ Up w w' := by
  go_enter Try.func9, Try.ntmps9
  go_upto_region 4 with (go_at_call 11; refine (table_in 3 rfl (by omega) (by omega) _).mono ?_; rintro e w1 ⟨p, g, q, rfl, E1, hp, hg, hq, U1⟩; have HE1 := Lib.hid E1; clear E1)
  go_upto_region 5 with (go_at_call 12; refine (fill_in HE1.out).mono ?_; rintro e w2 ⟨rfl, M2, X2⟩; have HX2 := Lib.hid X2; have Y2 := Lib.hid (sys_fill HE1.out M2 X2); clear M2 X2)
  go_upto_region 6 with (go_at_call 18; refine (list_in Y2.out.env Y2.out.holds).mono ?_; rintro e w3 ⟨vl, rfl, I3, F3, U3⟩; have HI3 := Lib.hid I3; clear I3)
  obtain ⟨rl, cl, rfl, dl⟩ := HI3.out.get (by decide)
  have d0 : w3.cell? ⟨rl, 0, none⟩ = some (.int .i64 0) := dl 0 (by decide)
  have d2 : w3.cell? ⟨rl, 2, none⟩ = some (.int .i64 2) := dl 2 (by decide)
  have e3 : (List.range 3).length = 3 := rfl
  rw [e3]
  clear dl e3
  go_upto_region 9 with (go_at_call 26; refine (spop_in 2 min2).mono ?_; rintro e w4 ⟨rfl, P4, U4⟩; have HP4 := Lib.hid P4; clear P4; have k0 := U4.kept d0; have k2 := U4.kept d2)
  clear d0 d2 k0 k2 HI3 F3
  have Y4 := Lib.hid (Y2.out.up (U3.trans U4))
  have hb0 : w2.heap.size ≤ w3.heap.size := U3.size
  have A4 := Lib.hid (apart_new (v := .slice none 0 0) (b := w3.heap.size) Y2.out.env hb0 (fun k hk => by simp [Value.ownBlock] at hk))
  have P4 : PopM w4 w3.heap.size q (.slice none 0 0) [] 2 0 0 0 := ⟨HP4.out, by omega, by omega, by omega, by omega, by simp⟩
  have c4 : (fillS (St.zero (3 + 2)) 0 2 3).c = 0 := fillS_c _ _ _ _
  rw [range3] at Y4
  have hB : w.heap.size ≤ w3.heap.size := by have := U1.size; have := HX2.out.size; omega
  have HU := Lib.hid (Else.trans (Else.of_up (s := [p, g]) U1) HX2.out |>.up (U3.trans U4))
  generalize fillS (St.zero (3 + 2)) 0 2 3 = s4 at *
  have S1 := Lib.hid (pop_head Y4.out (u := 0) (by omega) rfl rfl P4 A4.out)
  generalize w3.heap.size = b at *
  clear P4 HP4 A4 Y4 Y2 HE1 HX2 U3 U4 U1
  go_wp2_with fail
  refine wp_loop_rounds 5 ?_
  rw [rounds_succ]
  go_wp2_with (go_at_call 22; refine S1.out.mono ?_; rintro e w5 ⟨rfl, s5, r5, cap5, c5, hx5, hr5, P5, A5, Y5, E5⟩; have S2 := Lib.hid (pop_goes Y5 (u := 0) (by omega) (Stk.upd_same _ _ _) (by decide) (d := 1) (by have := Y5.gi.chain.1; rw [hx5] at this ⊢; exact this) (by decide) P5 A5); have G5 := Lib.hid E5; have C5 := Lib.hid c5; have HX5 := Lib.hid hx5; clear Y5 P5 A5 hx5 E5 c5 S1)
  rw [rounds_succ]
  go_wp2_with (go_at_call 22; refine S2.out.mono ?_; rintro e w6 ⟨rfl, s6, r6, cap6, c6, hx6, hr6, P6, A6, Y6, E6⟩; have S3 := Lib.hid (pop_stop Y6 (u := 0) (by omega) (Stk.upd_same _ _ _) (by decide) (.inr rfl) P6 A6); have G6 := Lib.hid (E6 r5 rfl); have C6 := Lib.hid c6; have HX6 := Lib.hid hx6; have A6 := Lib.hid A6; clear Y6 P6 hx6 E6 c6 S2)
  rw [rounds_succ]
  go_wp2_with (go_at_call 22; refine S3.out.mono ?_; rintro e w7 ⟨rfl, s7, c7, hx7, P7, Y7, E7⟩; have S4 := Lib.hid (pop_done Y7 (u := 0) (by omega) (Stk.upd_same _ _ _) (by rw [hx7, HX6.out, HX5.out]) (by omega) P7 A6.out); have G7 := Lib.hid E7; have C7 := Lib.hid c7; clear Y7 P7 hx7 E7 c7 S3)
  rw [rounds_succ]
  go_wp2_with (go_at_call 22; refine S4.out.mono ?_; rintro e w8 ⟨rfl, s8, rs, c8, _, P8, Y8, E8⟩; have HP8 := Lib.hid P8; have HY8 := Lib.hid Y8; have G8 := Lib.hid E8; have C8 := Lib.hid c8; have D8 := Lib.hid P8.cells.2.2.2.2.2; clear P8 Y8 E8 c8 S4)
  rw [rounds_succ]
  have hgot := got_in HP8.out (by decide) (by decide)
  have HG := Lib.hid hgot
  clear hgot
  have hc := Lib.hid (wrap4 c4 C5.out C6.out C7.out C8.out)
  go_wp2_with (first
    | (go_at_call 24; refine HG.out.mono ?_; rintro e w9 ⟨r9, cap9, rfl, I9, h9, h9', U9⟩; have z0 : w9.cell? ⟨r9, 0, none⟩ = some (.int .i64 0) := I9.at_ (j := 0) (by decide); have z1 : w9.cell? ⟨r9, 1, none⟩ = some (.int .i64 1) := I9.at_ (j := 1) (by decide); have D9 := Lib.hid (U9.kept D8.out); have M9 := Lib.hid (HY8.out.env.mem.up U9); clear I9)
    | (go_at_call 23; refine (popDone_yes D9.out).mono ?_; rintro e w' ⟨rfl, rfl⟩)
    | (go_at_call 35; refine (count_to M9.out hc.out).mono ?_; rintro e w' ⟨rfl, rfl⟩))
  go_ret
  refine ⟨rfl, ?_⟩
  have T1 : Else [b, r5, p, g] w w8 := by
    have a1 : Else [b, r5, p, g] w w4 := HU.out.more (by intro k hk; simp at hk ⊢; rcases hk with h | h <;> simp [h])
    have a2 : Else [b, r5, p, g] w4 w5 := G5.out.more (by intro k hk; simp at hk ⊢; rcases hk with h | h | h <;> simp [h])
    have a3 : Else [b, r5, p, g] w6 w7 := G7.out.more (by intro k hk; simp at hk ⊢; rcases hk with h | h | h <;> simp [h])
    have a4 : Else [b, r5, p, g] w7 w8 := G8.out.more (by intro k hk; simp at hk ⊢; rcases hk with h | h | h <;> simp [h])
    exact (((a1.trans a2).trans G6.out).trans a3).trans a4
  have hsz := HU.out.size
  refine ((Else.up_new (Up.refl w) T1 ?_)).trans U9
  intro k hk
  simp at hk
  rcases hk with h | h | h | h <;> omega
end Go.Proofs.Ytalhbebpoohgkaa
