/-
  The statement's own goes: a Pop that goes on: the walk.
-/
import Derived.Test.YtalhbebpoohgkaaGoesPop
import Derived.Deep.RegionLaw
namespace Go.Proofs.Ytalhbebpoohgkaa
open Go.RowKit
set_option maxRecDepth 100000
section
variable {wB w w1 w2 w3 w4 w' : World} {p g q pr gr qr n t t' u bH b rb i most : Nat} {S S' l lo : List Nat} {m : Nat → Stk.Mach} {has : Nat → List Nat} {vP vO vX vY vL : Nat → Value} {oM : Nat → List Nat} {v v' rv rv' : Value} {old deep : Int} {s : St}
theorem popX_six (D : XD wB w p g q pr gr qr n t S m has vP vO vX vY vL oM) (hu : u < 4) (eo : oM u = b :: (v.ownBlock.toList ++ rb :: rv.ownBlock.toList)) (bH : Nat) : ∀ j ∈ popX b rb p g pr gr v rv, j ∈ [p, g, pr, gr, bH] ∨ wB.heap.size ≤ j := by
  intro j hj
  have key : ∀ j ∈ oM u, wB.heap.size ≤ j := fun j hj => (D.lt hu hj).1
  rw [eo] at key
  unfold popX at hj
  simp only [List.mem_append, List.mem_cons, List.not_mem_nil, or_false] at hj key ⊢
  rcases hj with (h | h | h | h) | (h | h | h | h)
  · exact .inr (key j (.inl h))
  · exact .inr (key j (.inr (.inl h)))
  · exact .inl (.inl h)
  · exact .inl (.inr (.inl h))
  · exact .inr (key j (.inr (.inr (.inl h))))
  · exact .inr (key j (.inr (.inr (.inr h))))
  · exact .inl (.inr (.inr (.inl h)))
  · exact .inl (.inr (.inr (.inr (.inl h))))
/-- What is low is none of the blocks that a Pop turns. -/
theorem low_pop {z b : Nat} {v : Value} {p g : Nat} {wB : World} (hb : wB.heap.size ≤ b) (hv : ∀ j, v.ownBlock = some j → wB.heap.size ≤ j) (hz : z < wB.heap.size) (h1 : z ≠ p) (h2 : z ≠ g) : z ∉ b :: (v.ownBlock.toList ++ [p, g]) := by
  simp only [List.mem_cons, List.mem_append, Option.mem_toList, List.not_mem_nil, or_false, not_or]
  exact ⟨by omega, fun e => by have := hv z e; omega, h1, h2⟩
/-- The end of a Pop: what it got is with what one has. -/
theorem end_pop {w6 w7 : World} {l2 : List Nat} {h : Value} {S1 : List Nat} {t1 : Nat} (D : XD wB w p g q pr gr qr n t S m has vP vO vX vY vL oM) (A8 : Whole (w7.setCell ⟨bH, 16 + u, none⟩ h) bH 45 (arr20 vP vO vX vY (Stk.upd vL u h))) (E0 : Else [p, g, pr, gr, bH] wB w) (hu : u < 4) (ea : vP u = .pointer none) (eo : oM u = b :: (v.ownBlock.toList ++ rb :: rv.ownBlock.toList)) (hz : wB.heap.size ≤ w.heap.size) (O : XOrd wB p g q pr gr qr bH)
    (E : Else (popX b rb p g pr gr v rv) w w2) (U6 : Up w2 w6) (G7 : w6.grownBy w7 (vL u).ownBlock) (J7 : Ints w7 h (I (has u ++ l2))) (a7 : h.ownBlock = (vL u).ownBlock ∨ h.ownBlock = some w6.heap.size) (Y : Sys w2 p g q n s t1 S1 (Stk.upd m u .idle) (Stk.upd has u (has u ++ l2))) (RE : REnv w2 pr gr qr 0 2 n s.xs s.c) :
    PSt wB p g q pr gr qr n bH t1 ((w7.setCell ⟨bH, 16 + u, none⟩ h).setCell ⟨bH, 4 + u, none⟩ (.pointer none)) := by
  obtain ⟨o1, o2, o3, o4, o5, o6, o7⟩ := id O
  have EG := Else.of_grown G7
  have hvL : ∀ j ∈ (vL u).ownBlock.toList, wB.heap.size ≤ j := fun j hj => (D.hlt hu (by simpa using hj)).1
  have far : ∀ c, c < wB.heap.size → c ∉ (vL u).ownBlock.toList := fun c hc hin => by have := hvL c hin; omega
  have Y7 : Sys w7 p g q n s t1 S1 (Stk.upd m u .idle) (Stk.upd has u (has u ++ l2)) := ⟨((Y.up U6).env).else EG (far _ (by omega)) (far _ (by omega)) (far _ (by omega)), Y.len, Y.gi⟩
  have R7 := (RE.up U6).else EG (far _ (by omega)) (far _ (by omega)) (far _ (by omega))
  have ET : Else (popX b rb p g pr gr v rv ++ (vL u).ownBlock.toList) w w7 :=
    ((E.more (fun _ hj => List.mem_append_left _ hj)).up U6).trans (EG.more (fun _ hj => List.mem_append_right _ hj))
  have D7 := D.pop_done hu ea hz ET (fun j hj => by
    rcases List.mem_append.1 hj with hj | hj
    · rcases popX_in D eo j hj with h | h
      · exact .inl h
      · exact .inr (.inr h)
    · exact .inr (.inl hj)) J7 (a7.imp id fun e => ⟨_, e, Nat.le_trans E.size U6.size⟩) ⟨s, Y7, R7⟩
  have E8 : Else [bH] w7 ((w7.setCell ⟨bH, 16 + u, none⟩ h).setCell ⟨bH, 4 + u, none⟩ (.pointer none)) := ((Else.refl [bH] w7).set (.inl (by simp)) _).set (.inl (by simp)) _
  have A9 := A8.set (4 + u) (.pointer none)
  rw [(arr20_set hu _).2.1] at A9
  refine ⟨_, _, _, _, _, _, _, _, _, D7.else E8 (by simp; omega) (by simp; omega) (by simp; omega), A9, else5 (else5 E0 ET (fun j hj => ?_)) E8 (by intro j hj; simp at hj ⊢; omega)⟩
  rcases List.mem_append.1 hj with hj | hj
  · exact popX_six D hu eo bH j hj
  · exact .inr (hvL j hj)
theorem if_true_I (l : List Nat) : I (if true = true then l else []) = I l := rfl
set_option maxHeartbeats 4000000 in
theorem goes_pop (D : XD wB w p g q pr gr qr n t S m has vP vO vX vY vL oM) (AW : Whole w bH 45 (arr20 vP vO vX vY vL)) (E0 : Else [p, g, pr, gr, bH] wB w) (O : XOrd wB p g q pr gr qr bH) (hu : u < 4) (em : m u = .pop most i deep old (if i = 0 then [] else l)) (ea : vP u = .pointer none) (ec : vO u = .pointer (some ⟨b, 0, none⟩)) (ey : vY u = .pointer (some ⟨rb, 0, none⟩)) (eo : oM u = b :: (v.ownBlock.toList ++ rb :: rv.ownBlock.toList))
    (P : PopM w b q v l most i deep old) (R : RPopAt w rb qr rv l most i deep old false) (ht : t < 4294967295) (hn : n ≤ 400) (z : Int) :
    Calls Try.prog 15 #[.pointer (some ⟨bH, 0, none⟩), .pointer (some ⟨q, 0, none⟩), .pointer (some ⟨qr, 0, none⟩), .int .i64 (u : Int), .int .i64 z] w fun e w' => e = .returned (.bool true) ∧ ∃ t', t' ≤ t + 1 ∧ PSt wB p g q pr gr qr n bH t' w' := by
  obtain ⟨s, Y, RE⟩ := D.sys
  obtain ⟨o1, o2, o3, o4, o5, o6, o7⟩ := id O
  have ap1 := (D.apart (b := b) (v := v) hu (by rw [eo]; simp) (by intro j hj; rw [eo]; simp [hj])).1
  have ap2 := (D.apart (b := rb) (v := rv) hu (by rw [eo]; simp) (by intro j hj; rw [eo]; simp [hj])).2
  have lb := D.lt (j := b) hu (by rw [eo]; simp)
  have lrb := D.lt (j := rb) hu (by rw [eo]; simp)
  have lv : ∀ j, v.ownBlock = some j → wB.heap.size ≤ j ∧ j < w.heap.size := fun j hj => D.lt hu (by rw [eo]; simp [hj])
  have lrv : ∀ j, rv.ownBlock = some j → wB.heap.size ≤ j ∧ j < w.heap.size := fun j hj => D.lt hu (by rw [eo]; simp [hj])
  have nd := (D.parts hu).1
  rw [eo] at nd
  obtain ⟨a1, a2, a3⟩ := pop_apart nd
  have hz := E0.size
  obtain ⟨xs', i', deep', old', l', d, hlen, hok, hl8, hS, hR⟩ := pop_both (Y.up (up_drew w)) hu em rfl ht (P.up (up_drew w)) ap1 ap2
  have low1 : ∀ c, c < wB.heap.size → c ≠ p → c ≠ g → c ∉ b :: (v.ownBlock.toList ++ [p, g]) := fun c hc h1 h2 => low_pop lb.1 (fun j hj => (lv j hj).1) hc h1 h2
  have low2 : ∀ c, c < wB.heap.size → c ≠ pr → c ≠ gr → c ∉ rb :: (rv.ownBlock.toList ++ [pr, gr]) := fun c hc h1 h2 => low_pop lrb.1 (fun j hj => (lrv j hj).1) hc h1 h2
  have HS := Lib.hid hS
  have HRz := Lib.hid (fun w1 (E1 : Else (b :: (v.ownBlock.toList ++ [p, g])) w.drew w1) => hR w1 ((RE.up (up_drew w)).else E1 (low1 _ (by omega) (by omega) (by omega)) (low1 _ (by omega) (by omega) (by omega)) (low1 _ (by omega) (by omega) (by omega))) ((R.up (up_drew w)).else E1 (by simp only [List.mem_cons, List.mem_append, Option.mem_toList, List.not_mem_nil, or_false, not_or]; exact ⟨fun e => a1 e.symm, fun e => (a2 rb e).2 rfl, by omega, by omega⟩) (fun j hj e => by
    simp only [List.mem_cons, List.mem_append, Option.mem_toList, List.not_mem_nil, or_false] at hj
    have := lrv j e
    rcases hj with h | h | h | h
    · exact (a3 j e).1 h
    · exact (a3 j e).2.2 h
    · omega
    · omega)))
  have HRE := Lib.hid RE
  obtain ⟨q1, q2, q3, q4, q5⟩ := arr20_get (a := vP) (b := vO) (c := vX) (d := vY) (e := vL) hu
  have k1 := AW.cell q1
  have k2 := AW.cell q2
  have k4 := AW.cell q4
  rw [ea] at k1
  rw [ec] at k2
  rw [ey] at k4
  have hbb := low1 bH (by omega) (by omega) (by omega)
  have hbr := low2 bH (by omega) (by omega) (by omega)
  have j0 : (0 : Int) ≤ (u : Int) := Int.natCast_nonneg _
  have j1 : (u : Int) < 4 := by omega
  have HD_ := Lib.hid D
  have HAW := Lib.hid AW
  have HE0 := Lib.hid E0
  have EA := Lib.hid ea
  have EC := Lib.hid ec
  have EY := Lib.hid ey
  have EO := Lib.hid eo
  have HOK := Lib.hid hok
  have HLEN := Lib.hid hlen
  have HL1 := Lib.hid low1
  have HL2 := Lib.hid low2
  have HNB := Lib.hid (And.intro a1 (And.intro a2 a3))
  have HLV := Lib.hid (And.intro lv lrv)
  clear hS hR D AW E0 Y RE P R ea ec ey eo nd a1 a2 a3 hok hlen q1 q2 q3 q4 q5 O em low1 low2 lv lrv
  go_enter Try.func15, Try.ntmps15
  go_upto_region 11 with fail
  go_region_held3 (fun w' => w'.cell? ⟨bH, 4 + u, none⟩ = some (.pointer (some ⟨b, 0, none⟩)) ∧ w'.cell? ⟨bH, 12 + u, none⟩ = some (.pointer (some ⟨rb, 0, none⟩))) ((first | exact ⟨k2, k4⟩ | exact ⟨E1.kept (p := ⟨bH, 4 + u, none⟩) k2 hbb, E1.kept (p := ⟨bH, 12 + u, none⟩) k4 hbb⟩ | exact ⟨E2.kept (p := ⟨bH, 4 + u, none⟩) (E1.kept (p := ⟨bH, 4 + u, none⟩) k2 hbb) hbr, E2.kept (p := ⟨bH, 12 + u, none⟩) (E1.kept (p := ⟨bH, 12 + u, none⟩) k4 hbb) hbr⟩))
    (first
      | (go_at_call 22; refine HS.out.mono ?_; rintro e w1 ⟨rfl, E1, B1⟩)
      | (go_at_call 41; refine (HRz.out w1 E1).mono ?_; rintro e w2 ⟨rfl, B2⟩; obtain ⟨rv', R2, M2, hrv, E2⟩ := B2))
  have HE1 := Lib.hid ((Else.of_up (up_drew w)).trans E1)
  have HEE := Lib.hid (else_popX HE1.out E2)
  have HE2 := Lib.hid E2
  have RE2 := Lib.hid ((((HRE.out.up (up_drew w)).else E1 (HL1.out _ (by omega) (by omega) (by omega)) (HL1.out _ (by omega) (by omega) (by omega)) (HL1.out _ (by omega) (by omega) (by omega)))).turn M2 E2 (HL2.out _ (by omega) (by omega) (by omega)) HOK.out HLEN.out)
  have AW2 := Lib.hid (E2.whole (E1.whole (HAW.out.up (up_drew w)) hbb) hbr)
  have HR2 := Lib.hid R2
  have HRV := Lib.hid hrv
  have HB1 := Lib.hid B1
  have hE1 := HE1.out.size
  have hE2 := E2.size
  replace k2 := E2.kept (p := ⟨bH, 4 + u, none⟩) (E1.kept (p := ⟨bH, 4 + u, none⟩) ((up_drew w).kept k2) hbb) hbr
  replace k4 := E2.kept (p := ⟨bH, 12 + u, none⟩) (E1.kept (p := ⟨bH, 12 + u, none⟩) ((up_drew w).kept k4) hbb) hbr
  have c6 := R2.cells.2.2.2.2.2.2
  clear E1 E2 M2 R2 B1 hrv k1
  obtain ⟨s', v1, hxs, hc, hv1, hways⟩ := HB1.out
  rw [← hxs, ← hc] at RE2
  have HV1 := Lib.hid hv1
  have bE : b ∉ rb :: (rv.ownBlock.toList ++ [pr, gr]) := by
    simp only [List.mem_cons, List.mem_append, Option.mem_toList, List.not_mem_nil, or_false, not_or]
    exact ⟨HNB.out.1, fun e => (HNB.out.2.2 b e).1 rfl, by omega, by omega⟩
  have vE : (∀ j, v1.ownBlock = some j → j < w1.heap.size) → Away v1 (rb :: (rv.ownBlock.toList ++ [pr, gr])) := by
    intro _ j hj e
    simp only [List.mem_cons, List.mem_append, Option.mem_toList, List.not_mem_nil, or_false] at hj
    have : v.ownBlock = some j ∨ w.heap.size ≤ j := by
      rcases HV1.out with h | h | ⟨r, h, hr⟩
      · exact .inl (h ▸ e)
      · rw [h] at e; cases e
      · rw [h] at e; injection e with e; exact .inr (by simpa [e] using hr)
    rcases this with h | h
    · have := HLV.out.1 j h
      rcases hj with g | g | g | g
      · exact (HNB.out.2.1 j h).2 g
      · exact (HNB.out.2.2 j g).2.2 h
      · omega
      · omega
    · rcases hj with g | g | g | g
      · omega
      · have := HLV.out.2 j g; omega
      · omega
      · omega
  have ysys : ∀ {m' : Nat → Stk.Mach} {h' : Nat → List Nat} {S' : List Nat} {t' : Nat}, Sys w1 p g q n s' t' S' m' h' → Sys w2 p g q n s' t' S' m' h' := fun Y1 => ⟨Y1.env.else HE2.out (HL2.out _ (by omega) (by omega) (by omega)) (HL2.out _ (by omega) (by omega) (by omega)) (HL2.out _ (by omega) (by omega) (by omega)), Y1.len, Y1.gi⟩
  rcases hways with ⟨rfl, ⟨f, hf⟩, P1, Y1⟩ | ⟨rfl, P1, hl8', hnil, t1, S1, ht1, Y1⟩
  · have vlt : ∀ j, v1.ownBlock = some j → j < w1.heap.size := fun j hj => P1.at_.row.lt hj
    have P2 := Lib.hid (P1.else HE2.out bE (vE vlt))
    have C5 := Lib.hid (HE2.out.kept (p := ⟨b, 5, none⟩) hf bE)
    have Y2 := Lib.hid (ysys Y1)
    have HVL := Lib.hid vlt
    clear hf P1 Y1 vlt vE ysys hxs hc hv1
    go_upto_region 12 with fail
    go_region_held3 (fun w' => w'.cell? ⟨bH, 4 + u, none⟩ = some (.pointer (some ⟨b, 0, none⟩)) ∧ w'.cell? ⟨bH, 12 + u, none⟩ = some (.pointer (some ⟨rb, 0, none⟩)) ∧ w'.cell? ⟨rb, 6, none⟩ = some (.bool false)) ((first | exact ⟨k2, k4, c6⟩ | exact ⟨U4.kept k2, U4.kept k4, U4.kept c6⟩ | exact ⟨U5.kept (U4.kept k2), U5.kept (U4.kept k4), U5.kept (U4.kept c6)⟩))
      (first
        | (go_at_call 23; refine (popDone_no (f := f) ((up_drew w2).kept C5.out)).mono ?_; rintro e w9 ⟨rfl, rfl⟩)
        | (go_at_call 24; refine (got_not (f := f) ((up_drew w2).kept C5.out)).mono ?_; rintro e w9 ⟨rfl, rfl⟩)
        | (go_at_call 42; refine (rgot_any (HR2.out.up (up_drew w2)) hl8).mono ?_; rintro e w4 ⟨v4, rfl, J4, F4, U4⟩)
        | (go_at_call 17; refine (same_in (xs := []) (Rd.nil _) J4.rd).mono ?_; rintro e w5 ⟨rfl, U5⟩))
    have HU := Lib.hid (((up_drew w2).trans U4).trans U5)
    clear U4 U5 J4 F4
    replace k4 := HU.out.kept k4
    replace c6 := HU.out.kept c6
    go_wp2_with fail
    go_ret
    exact ⟨rfl, t, by omega, S, _, has, vP, vO, vX, vY, vL, _, (HD_.out.pop_go hu EA.out EC.out EY.out EO.out hz HEE.out P2.out HR2.out HV1.out HVL.out HRV.out hE1 Y2.out RE2.out).up HU.out, AW2.out.up HU.out, (else5 HE0.out HEE.out (popX_six HD_.out hu EO.out bH)).up HU.out⟩
  · have vlt : ∀ j, v1.ownBlock = some j → j < w1.heap.size := fun j hj => P1.row.lt hj
    have P2 := Lib.hid (P1.else HE2.out bE (vE vlt))
    have C5 := Lib.hid P2.out.cells.2.2.2.2.2
    have Y2 := Lib.hid (ysys Y1)
    have HNIL := Lib.hid hnil
    have hsm := HD_.out.small hu
    clear P1 Y1 vlt vE ysys hxs hc hv1 hnil
    go_upto_region 12 with fail
    go_region_held3 (fun w' => w'.cell? ⟨bH, 4 + u, none⟩ = some (.pointer (some ⟨b, 0, none⟩)) ∧ w'.cell? ⟨bH, 12 + u, none⟩ = some (.pointer (some ⟨rb, 0, none⟩)) ∧ w'.cell? ⟨rb, 6, none⟩ = some (.bool true)) ((first | exact ⟨k2, k4, c6⟩ | exact ⟨U3.kept k2, U3.kept k4, U3.kept c6⟩ | exact ⟨U4.kept (U3.kept k2), U4.kept (U3.kept k4), U4.kept (U3.kept c6)⟩ | exact ⟨U5.kept (U4.kept (U3.kept k2)), U5.kept (U4.kept (U3.kept k4)), U5.kept (U4.kept (U3.kept c6))⟩))
      (first
        | (go_at_call 23; refine (popDone_yes ((up_drew w2).kept C5.out)).mono ?_; rintro e w9 ⟨rfl, rfl⟩)
        | (go_at_call 24; refine (got_any (P2.out.up (up_drew w2)) rfl hl8 HNIL.out).mono ?_; rintro e w3 ⟨v3, rfl, J3, F3, U3⟩)
        | (go_at_call 42; refine (rgot_any (HR2.out.up ((up_drew w2).trans U3)) hl8).mono ?_; rintro e w4 ⟨v4, rfl, J4, F4, U4⟩)
        | (go_at_call 17; refine (same_in (xs := I l') (J3.rd.up U4) J4.rd).mono ?_; rintro e w5 ⟨rfl, U5⟩))
    have HU := Lib.hid ((((up_drew w2).trans U3).trans U4).trans U5)
    have HR5 := Lib.hid (HR2.out.up HU.out)
    have AW5 := Lib.hid (AW2.out.up HU.out)
    have IL5 := Lib.hid ((HD_.out.ilK hu HEE.out (popX_in HD_.out EO.out)).up HU.out)
    clear U3 U4 U5 J3 J4 F3 F4
    replace k2 := HU.out.kept k2
    replace k4 := HU.out.kept k4
    replace c6 := HU.out.kept c6
    have k5 := AW5.out.cell (arr20_get (a := vP) (b := vO) (c := vX) (d := vY) (e := vL) hu).2.2.2.2
    have HVH := Lib.hid (fun c (hc : c < wB.heap.size) => (show c ∉ (vL u).ownBlock.toList from fun hin => by have := (HD_.out.hlt hu (by simpa using hin)).1; omega))
    go_upto_region 15 with fail
    go_region_law (first
      | (go_simp; go_at_call 42; (with_reducible refine (rgot_any (HR5.out.up (up_drew _)) hl8).mono ?_); rintro e w6 ⟨v6, rfl, J6, F6, U6⟩; have HJ6 := Lib.hid J6; have HU6 := Lib.hid ((up_drew w5).trans U6); have k5' := HU6.out.kept k5; clear J6 F6 U6; go_wp2_with fail)
      | (refine step_app (by rfl) _ _ (by rfl) (by rfl) (by rfl) (IL5.out.up HU6.out) HJ6.out.rd (by rw [I_len, I_len]; simp; omega) ?_; intro v7 w7 J7 G7 A7; obtain ⟨A7v, N7, c7, rfl⟩ := shapeI J7; have HJ7 := Lib.hid J7; have HG7 := Lib.hid G7; have HAT7 := Lib.hid A7; have AW7 := Lib.hid ((Else.of_grown G7).whole (AW5.out.up HU6.out) (HVH.out _ o7)); have y5 := AW7.out.cell (arr20_get (a := vP) (b := vO) (c := vX) (d := vY) (e := vL) hu).2.2.2.2; have g5 := AW7.out.frozen (16 + u); clear J7 G7 A7))
    all_goals
      have AW8 := AW7.out.set (16 + u) (.slice A7v N7 c7)
      rw [(arr20_set hu _).2.2.2.2] at AW8
      have HAW8 := Lib.hid AW8
      have y2 := AW8.cell (arr20_get (a := vP) (b := vO) (c := vX) (d := vY) (e := Stk.upd vL u (.slice A7v N7 c7)) hu).2.1
      have g2 := AW8.frozen (4 + u)
      clear k2 k4 c6 k5 k5' AW8
      go_wp2_with fail
      go_ret
      exact ⟨rfl, t1, ht1, end_pop HD_.out HAW8.out HE0.out hu EA.out EO.out hz ⟨o1, o2, o3, o4, o5, o6, o7⟩ HEE.out (HU.out.trans HU6.out) HG7.out (by rw [I_app]; exact HJ7.out) HAT7.out Y2.out RE2.out⟩
end
end Go.Proofs.Ytalhbebpoohgkaa
