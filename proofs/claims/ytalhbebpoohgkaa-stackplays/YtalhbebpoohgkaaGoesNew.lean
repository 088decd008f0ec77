/-
  The statement's own goes: a new Pop, a new Push.
-/
import Derived.Test.YtalhbebpoohgkaaGoesPop2
namespace Go.Proofs.Ytalhbebpoohgkaa
open Go.RowKit
set_option maxRecDepth 100000
section
variable {wB w w1 w2 w3 w4 w' : World} {p g q pr gr qr n t t' u bH b r k cap rb i most : Nat} {S S' l lo rr : List Nat} {m : Nat → Stk.Mach} {has : Nat → List Nat} {vP vO vX vY vL : Nat → Value} {oM : Nat → List Nat} {v v' rv rv' h : Value} {old deep : Int} {s : St}
theorem XD.pop_new (D : XD wB w p g q pr gr qr n t S m has vP vO vX vY vL oM) (hu : u < 4) (em : m u = .idle) (ea : vP u = .pointer none) (hb : wB.heap.size ≤ w.heap.size)
    {x : List Nat} (E : Else x w w') (hx : ∀ j ∈ x, j < wB.heap.size) (hs : p ∉ x ∧ g ∉ x ∧ q ∉ x) (hr : pr ∉ x ∧ gr ∉ x ∧ qr ∉ x) (P : PopM w' b q (.slice none 0 0) [] most 0 0 0) (R : RPopAt w' rb qr (.slice none 0 0) [] most 0 0 0 false) (hbn : w.heap.size ≤ b) (hbr : b < rb) :
    XD wB w' p g q pr gr qr n t S (Stk.upd m u (.pop most 0 0 0 [])) has vP (Stk.upd vO u (.pointer (some ⟨b, 0, none⟩))) vX (Stk.upd vY u (.pointer (some ⟨rb, 0, none⟩))) vL (Stk.upd oM u [b, rb]) := by
  obtain ⟨s, Y, RE⟩ := D.sys
  have Y2 : Sys w' p g q n s t S (Stk.upd m u (.pop most 0 0 0 [])) has := ⟨Y.env.else E hs.1 hs.2.1 hs.2.2, Y.len, Y.gi.pop_new hu (by rw [em]; rfl) most 0 0⟩
  have lL : ∀ j, (vL u).ownBlock = some j → (wB.heap.size ≤ j ∧ j < w.heap.size) := fun j hj => D.hlt hu hj
  have H := D.turn (t' := t) (S' := S) (M' := .pop most 0 0 0 []) (h' := has u) (a := vP u) (c := .pointer (some ⟨b, 0, none⟩)) (X := vX u) (Yv := .pointer (some ⟨rb, 0, none⟩)) (h := vL u) (o := [b, rb]) hu E (fun j hj => .inr (hx j hj)) ⟨s, by rw [Stk.upd_id]; exact Y2, RE.else E hr.1 hr.2.1 hr.2.2⟩ (by rw [ea]; exact .pop P R) (D.ilK hu E (fun j hj => .inr (hx j hj)))
    (fun j hj => by
      simp only [ow, List.mem_append, List.mem_cons, List.not_mem_nil, or_false, Option.mem_toList] at hj
      rcases hj with (h | h) | h
      · subst h; exact ⟨.inr hbn, P.at_.top.lt⟩
      · subst h; exact ⟨.inr (by omega), R.top.lt⟩
      · exact ⟨.inl (by simp [ow, h]), by have := lL j h; have := E.size; omega⟩)
    (by
      unfold ow
      rw [List.nodup_append]
      refine ⟨by simp; omega, by cases (vL u).ownBlock <;> simp, fun x hx y hy e => ?_⟩
      subst e
      simp at hx hy
      have := lL x hy
      omega) hb
  simpa only [Stk.upd_id] using H
theorem XD.push_new (D : XD wB w p g q pr gr qr n t S m has vP vO vX vY vL oM) (hu : u < 4) (em : m u = .idle) (ec : vO u = .pointer none) (hb : wB.heap.size ≤ w.heap.size) (hh : has u = l ++ rr) (h0 : l ≠ [])
    {x : List Nat} (E : Else x w w') (hx : ∀ j ∈ x, j < wB.heap.size) (hs : p ∉ x ∧ g ∉ x ∧ q ∉ x) (hr : pr ∉ x ∧ gr ∉ x ∧ qr ∉ x) (P : PushM w' b q (.slice (some ⟨r, 0, none⟩) k cap) l 0 0) (R : RPushAt w' rb qr rv l 0 0 false) (J : Ints w' h (I rr))
    (ord : w.heap.size ≤ b ∧ w.heap.size ≤ r ∧ b ≠ r ∧ b < rb ∧ r < rb) (frv : ∀ j, rv.ownBlock = some j → b < j ∧ r < j ∧ j ≠ rb) (fh : ∀ j, h.ownBlock = some j → rb < j ∧ b < j ∧ r < j ∧ rv.ownBlock ≠ some j) :
    XD wB w' p g q pr gr qr n t S (Stk.upd m u (.push l 0 0)) (Stk.upd has u rr) (Stk.upd vP u (.pointer (some ⟨b, 0, none⟩))) vO (Stk.upd vX u (.pointer (some ⟨rb, 0, none⟩))) vY (Stk.upd vL u h) (Stk.upd oM u (b :: r :: rb :: rv.ownBlock.toList)) := by
  obtain ⟨s, Y, RE⟩ := D.sys
  have Y2 : Sys w' p g q n s t S m has := ⟨Y.env.else E hs.1 hs.2.1 hs.2.2, Y.len, Y.gi⟩
  have H := D.turn (t' := t) (S' := S) (M' := .push l 0 0) (h' := rr) (a := .pointer (some ⟨b, 0, none⟩)) (c := vO u) (X := .pointer (some ⟨rb, 0, none⟩)) (Yv := vY u) (h := h) (o := b :: r :: rb :: rv.ownBlock.toList) hu E (fun j hj => .inr (hx j hj)) ⟨s, Y2.push_new hu (by rw [em]; rfl) hh h0, RE.else E hr.1 hr.2.1 hr.2.2⟩ (by rw [ec]; exact .push P R) J
    (fun j hj => by
      simp only [ow, List.mem_append, List.mem_cons, Option.mem_toList] at hj
      rcases hj with (h | h | h | h) | h
      · subst h; exact ⟨.inr ord.1, P.1.top.lt⟩
      · subst h; exact ⟨.inr ord.2.1, P.1.row.lt rfl⟩
      · subst h; exact ⟨.inr (by omega), R.top.lt⟩
      · exact ⟨.inr (by have := frv j h; omega), R.row.lt h⟩
      · exact ⟨.inr (by have := fh j h; omega), J.lt h⟩)
    (by
      unfold ow
      rw [List.nodup_append, List.nodup_cons, List.nodup_cons, List.nodup_cons]
      simp only [List.mem_cons, Option.mem_toList, not_or]
      refine ⟨⟨⟨ord.2.2.1, by omega, fun e => by have := frv b e; omega⟩, ⟨by omega, fun e => by have := frv r e; omega⟩, fun e => (frv rb e).2.2 rfl, by cases rv.ownBlock <;> simp⟩, by cases h.ownBlock <;> simp, fun x hx y hy e => ?_⟩
      subst e
      have := fh x hy
      rcases hx with h | h | h | h
      · omega
      · omega
      · omega
      · exact this.2.2.2 h) hb
  simpa only [Stk.upd_id] using H
set_option maxHeartbeats 4000000 in
theorem goes_popnew (D : XD wB w p g q pr gr qr n t S m has vP vO vX vY vL oM) (AW : Whole w bH 45 (arr20 vP vO vX vY vL)) (E0 : Else [p, g, pr, gr, bH] wB w) (O : XOrd wB p g q pr gr qr bH) (hu : u < 4) (em : m u = .idle) (ea : vP u = .pointer none) (ec : vO u = .pointer none) {z : Int} (z0 : 0 ≤ z) (z1 : z < 64) (hnew : ¬ (z % 2 = 1 ∧ 0 < (has u).length)) :
    Calls Try.prog 15 #[.pointer (some ⟨bH, 0, none⟩), .pointer (some ⟨q, 0, none⟩), .pointer (some ⟨qr, 0, none⟩), .int .i64 (u : Int), .int .i64 z] w fun e w' => e = .returned (.bool true) ∧ ∃ t', t' ≤ t + 1 ∧ PSt wB p g q pr gr qr n bH t' w' := by
  obtain ⟨o1, o2, o3, o4, o5, o6, o7⟩ := id O
  have hz := E0.size
  obtain ⟨q1, q2, q3, q4, q5⟩ := arr20_get (a := vP) (b := vO) (c := vX) (d := vY) (e := vL) hu
  have k1 := AW.cell q1
  have k2 := AW.cell q2
  have k5 := AW.cell q5
  rw [ea] at k1
  rw [ec] at k2
  obtain ⟨A5, c5, e5⟩ := (D.il u hu).slice
  rw [I_len] at e5
  rw [e5] at k5
  have j0 : (0 : Int) ≤ (u : Int) := Int.natCast_nonneg _
  have j1 : (u : Int) < 4 := by omega
  obtain ⟨most, hmost, m1, m8⟩ : ∃ most : Nat, min (max (z.tdiv 2 - 1) 1) 8 = (most : Int) ∧ 1 ≤ most ∧ most ≤ 8 := ⟨(min (max (z.tdiv 2 - 1) 1) 8).toNat, by omega, by omega, by omega⟩
  have HMO := Lib.hid hmost
  have x3 : 0 ≤ z.tdiv 2 := Int.tdiv_nonneg z0 (by decide)
  have x4 : z.tdiv 2 < 64 := by rw [Int.tdiv_eq_ediv_of_nonneg z0]; omega
  have hmod : z.tmod 2 = z % 2 := Int.tmod_eq_emod_of_nonneg z0
  have s9 : (-9223372036854775808 ≤ z.tdiv 2 ∧ z.tdiv 2 ≤ 9223372036854775807) ∧ (-9223372036854775808 ≤ z.tdiv 2 - 1 ∧ z.tdiv 2 - 1 ≤ 9223372036854775807) := by omega
  have HW1 := Lib.hid (IntWalk.i64_in _ s9.1)
  have HW2 := Lib.hid (IntWalk.i64_in _ s9.2)
  clear s9
  have fin : ∀ {w1 w2 : World}, Up w w1 → PopAt w1 w.heap.size q (.slice none 0 0) [] most 0 0 (meth 52 w.heap.size) → Up w1 w2 → RPopAt w2 w1.heap.size qr (.slice none 0 0) [] most 0 0 0 false →
      PSt wB p g q pr gr qr n bH t ((w2.setCell ⟨bH, 4 + u, none⟩ (.pointer (some ⟨w.heap.size, 0, none⟩))).setCell ⟨bH, 12 + u, none⟩ (.pointer (some ⟨w1.heap.size, 0, none⟩))) := by
    intro w1 w2 U1 P U2 R
    have hbw := P.top.lt
    have E8 : Else [bH] w2 ((w2.setCell ⟨bH, 4 + u, none⟩ (.pointer (some ⟨w.heap.size, 0, none⟩))).setCell ⟨bH, 12 + u, none⟩ (.pointer (some ⟨w1.heap.size, 0, none⟩))) := ((Else.refl [bH] w2).set (.inl (by simp)) _).set (.inl (by simp)) _
    have P2 : PopM w2 w.heap.size q (.slice none 0 0) [] most 0 0 0 := ⟨P.up U2, by omega, by omega, m1, m8, by simp⟩
    have ET := (Else.of_up (s := [bH]) (U1.trans U2)).trans E8
    have u1 := U1.size
    have A8 := ((AW.up (U1.trans U2)).set (4 + u) (.pointer (some ⟨w.heap.size, 0, none⟩)))
    rw [(arr20_set hu _).2.1] at A8
    have A9 := A8.set (12 + u) (.pointer (some ⟨w1.heap.size, 0, none⟩))
    rw [(arr20_set hu _).2.2.2.1] at A9
    exact ⟨_, _, _, _, _, _, _, _, _, D.pop_new hu em ea hz ET (by simp; omega) (by simp; omega) (by simp; omega) (P2.else E8 (by simp; omega) (fun j hj e => by simp [Value.ownBlock] at e)) (R.else E8 (by simp; omega) (fun j hj e => by simp [Value.ownBlock] at e)) (Nat.le_refl _) (by omega), A9, else5 E0 ET (by intro j hj; simp at hj ⊢; omega)⟩
  have HF := Lib.hid (fun w1 w2 => @fin w1 w2)
  have HAW := Lib.hid AW
  by_cases h1 : z % 2 = 1
  · have e1 : z.tmod 2 = 1 := hmod.trans h1
    have e2 : ¬ (0 : Int) < ((has u).length : Int) := by omega
    clear hmod fin D AW E0 O em ea ec hnew hmost q1 q2 q3 q4 q5 e5
    go_enter Try.func15, Try.ntmps15
    go_upto_region 1 with fail
    have sw1 := HW1.out
    have sw2 := HW2.out
    clear k1 k2 k5
    go_region_held3 (fun _ => True) (exact trivial)
      (first
        | (go_at_call 26; refine (spop_in _ HMO.out).mono ?_; rintro e w1 ⟨rfl, P1, U1⟩)
        | (go_at_call 44; refine (rpop_new _ HMO.out).mono ?_; rintro e w2 ⟨rfl, R2, U2⟩; have AW2 := HAW.out.up (((up_drew w).trans U1).trans U2); have y2 := AW2.cell (arr20_get (a := vP) (b := vO) (c := vX) (d := vY) (e := vL) hu).2.1; have g2 := AW2.frozen (4 + u); have y4 := (AW2.set (4 + u) (.pointer (some ⟨w.heap.size, 0, none⟩))).cell (i := 12 + u) (by rw [(arr20_set hu _).2.1]; exact (arr20_get hu).2.2.2.1); have g4 := (AW2.set (4 + u) (.pointer (some ⟨w.heap.size, 0, none⟩))).frozen (12 + u)))
    have HPS := Lib.hid (HF.out w1 w2 ((up_drew w).trans U1) P1 U2 R2)
    have yA : ((w2.setCell ⟨bH, 4 + u, none⟩ (.pointer (some ⟨w.heap.size, 0, none⟩))).setCell ⟨bH, 12 + u, none⟩ (.pointer (some ⟨w1.heap.size, 0, none⟩))).cell? ⟨bH, 4 + u, none⟩ = some (.pointer (some ⟨w.heap.size, 0, none⟩)) := by
      refine ((AW2.set (4 + u) (.pointer (some ⟨w.heap.size, 0, none⟩))).set (12 + u) (.pointer (some ⟨w1.heap.size, 0, none⟩))).cell ?_
      rw [(arr20_set hu _).2.1, (arr20_set hu _).2.2.2.1, (arr20_get hu).2.1, Stk.upd_same]
    have yC : ((w2.setCell ⟨bH, 4 + u, none⟩ (.pointer (some ⟨w.heap.size, 0, none⟩))).setCell ⟨bH, 12 + u, none⟩ (.pointer (some ⟨w1.heap.size, 0, none⟩))).cell? ⟨w.heap.size, 5, none⟩ = some (meth 52 w.heap.size) := kept_set (ad_ne (by omega)) (kept_set (ad_ne (by omega)) (U2.kept P1.cells.2.2.2.2.2))
    have HYC := Lib.hid yC
    clear yC y2 g2 y4 g4 AW2 P1 U1 U2 R2 sw1 sw2
    go_upto_region 2 with fail
    generalize ((w2.setCell ⟨bH, 4 + u, none⟩ (.pointer (some ⟨w.heap.size, 0, none⟩))).setCell ⟨bH, 12 + u, none⟩ (.pointer (some ⟨w1.heap.size, 0, none⟩))) = w9 at *
    go_wp2_with (first
      | (go_at_call 23; refine (popDone_no HYC.out).mono ?_; rintro e w10 ⟨rfl, rfl⟩))
    go_ret
    exact ⟨rfl, t, by omega, HPS.out⟩
  · have e1 : (z.tmod 2 == 1) = false := by rw [hmod]; simpa using h1
    clear hmod fin D AW E0 O em ea ec hnew hmost q1 q2 q3 q4 q5 e5
    go_enter Try.func15, Try.ntmps15
    go_upto_region 1 with fail
    have sw1 := HW1.out
    have sw2 := HW2.out
    clear k1 k2 k5
    go_region_held3 (fun _ => True) (exact trivial)
      (first
        | (go_at_call 26; refine (spop_in _ HMO.out).mono ?_; rintro e w1 ⟨rfl, P1, U1⟩)
        | (go_at_call 44; refine (rpop_new _ HMO.out).mono ?_; rintro e w2 ⟨rfl, R2, U2⟩; have AW2 := HAW.out.up (((up_drew w).trans U1).trans U2); have y2 := AW2.cell (arr20_get (a := vP) (b := vO) (c := vX) (d := vY) (e := vL) hu).2.1; have g2 := AW2.frozen (4 + u); have y4 := (AW2.set (4 + u) (.pointer (some ⟨w.heap.size, 0, none⟩))).cell (i := 12 + u) (by rw [(arr20_set hu _).2.1]; exact (arr20_get hu).2.2.2.1); have g4 := (AW2.set (4 + u) (.pointer (some ⟨w.heap.size, 0, none⟩))).frozen (12 + u)))
    have HPS := Lib.hid (HF.out w1 w2 ((up_drew w).trans U1) P1 U2 R2)
    have yA : ((w2.setCell ⟨bH, 4 + u, none⟩ (.pointer (some ⟨w.heap.size, 0, none⟩))).setCell ⟨bH, 12 + u, none⟩ (.pointer (some ⟨w1.heap.size, 0, none⟩))).cell? ⟨bH, 4 + u, none⟩ = some (.pointer (some ⟨w.heap.size, 0, none⟩)) := by
      refine ((AW2.set (4 + u) (.pointer (some ⟨w.heap.size, 0, none⟩))).set (12 + u) (.pointer (some ⟨w1.heap.size, 0, none⟩))).cell ?_
      rw [(arr20_set hu _).2.1, (arr20_set hu _).2.2.2.1, (arr20_get hu).2.1, Stk.upd_same]
    have yC : ((w2.setCell ⟨bH, 4 + u, none⟩ (.pointer (some ⟨w.heap.size, 0, none⟩))).setCell ⟨bH, 12 + u, none⟩ (.pointer (some ⟨w1.heap.size, 0, none⟩))).cell? ⟨w.heap.size, 5, none⟩ = some (meth 52 w.heap.size) := kept_set (ad_ne (by omega)) (kept_set (ad_ne (by omega)) (U2.kept P1.cells.2.2.2.2.2))
    have HYC := Lib.hid yC
    clear yC y2 g2 y4 g4 AW2 P1 U1 U2 R2 sw1 sw2
    go_upto_region 2 with fail
    generalize ((w2.setCell ⟨bH, 4 + u, none⟩ (.pointer (some ⟨w.heap.size, 0, none⟩))).setCell ⟨bH, 12 + u, none⟩ (.pointer (some ⟨w1.heap.size, 0, none⟩))) = w9 at *
    go_wp2_with (first
      | (go_at_call 23; refine (popDone_no HYC.out).mono ?_; rintro e w10 ⟨rfl, rfl⟩))
    go_ret
    exact ⟨rfl, t, by omega, HPS.out⟩
end
end Go.Proofs.Ytalhbebpoohgkaa
