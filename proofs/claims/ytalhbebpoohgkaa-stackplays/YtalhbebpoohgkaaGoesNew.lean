/-
  The statement's own goes: a new Pop, a new Push; whatever comes.
-/
import Derived.Test.YtalhbebpoohgkaaGoesPop2
namespace Go.Proofs.Ytalhbebpoohgkaa
open Go.RowKit
set_option maxRecDepth 100000
section
variable {wB w w1 w2 w3 w4 w' : World} {p g q pr gr qr n t t' u bH b r k cap rb i most : Nat} {S S' l lo rr : List Nat} {m : Nat → Stk.Mach} {has : Nat → List Nat} {vP vO vX vY vL : Nat → Value} {oM : Nat → List Nat} {v v' rv rv' h : Value} {old deep : Int} {s : St}
theorem XD.pop_new (D : XD wB w p g q pr gr qr n t S m has vP vO vX vY vL oM) (hu : u < 4) (em : m u = .idle) (ea : vP u = .pointer none) (hb : wB.heap.size ≤ w.heap.size)
    {x : List Nat} (E : Else x w w') (hx : ∀ j ∈ x, j < wB.heap.size) (hs : p ∉ x ∧ g ∉ x ∧ q ∉ x) (hr : pr ∉ x ∧ gr ∉ x ∧ qr ∉ x) (P : PopM w' b q (.slice none 0 0) [] most 0 0 0) (R : RPopAt w' rb qr (.slice none 0 0) [] most 0 0 0 false) (hbn : w.heap.size ≤ b) (hbr : b < rb) :
    XD wB w' p g q pr gr qr n t S (Stk.upd m u (.pop most 0 0 0 [])) has vP (Stk.upd vO u (.pointer (some ⟨b, 0, none⟩))) vX (Stk.upd vY u (.pointer (some ⟨rb, 0, none⟩))) vL (Stk.upd oM u [b, rb]) := by
  obtain ⟨s, Y, RE⟩ := D.sys
  have Y2 : Sys w' p g q n s t S (Stk.upd m u (.pop most 0 0 0 [])) has := ⟨Y.env.else E hs.1 hs.2.1 hs.2.2, Y.len, Y.gi.pop_new hu (by rw [em]; rfl) most 0 0⟩
  have lL : ∀ j, (vL u).ownBlock = some j → (wB.heap.size ≤ j ∧ j < w.heap.size) := fun j hj => D.hlt hu hj
  have H := D.turn (t' := t) (S' := S) (M' := .pop most 0 0 0 []) (h' := has u) (a := vP u) (c := .pointer (some ⟨b, 0, none⟩)) (X := vX u) (Yv := .pointer (some ⟨rb, 0, none⟩)) (h := vL u) (o := [b, rb]) hu E (fun j hj => .inr (hx j hj)) ⟨s, by rw [Stk.upd_id]; exact Y2, RE.else E hr.1 hr.2.1 hr.2.2⟩ (by rw [ea]; exact .pop P R) (D.ilK hu E (fun j hj => .inr (hx j hj)))
    (fun j hj => by
      simp only [ow, List.mem_append, List.mem_cons, List.not_mem_nil, or_false, Option.mem_toList] at hj
      rcases hj with (h | h) | h
      · subst h; exact ⟨.inr hbn, P.at_.top.lt⟩
      · subst h; exact ⟨.inr (by omega), R.top.lt⟩
      · exact ⟨.inl (by simp [ow, h]), by have := lL j h; have := E.size; omega⟩)
    (by
      unfold ow
      rw [List.nodup_append]
      refine ⟨by simp; omega, by cases (vL u).ownBlock <;> simp, fun x hx y hy e => ?_⟩
      subst e
      simp at hx hy
      have := lL x hy
      omega) hb
  simpa only [Stk.upd_id] using H
theorem XD.push_new (D : XD wB w p g q pr gr qr n t S m has vP vO vX vY vL oM) (hu : u < 4) (em : m u = .idle) (ec : vO u = .pointer none) (hb : wB.heap.size ≤ w.heap.size) (hh : has u = l ++ rr) (h0 : l ≠ [])
    {x : List Nat} (E : Else x w w') (hx : ∀ j ∈ x, j < wB.heap.size) (hs : p ∉ x ∧ g ∉ x ∧ q ∉ x) (hr : pr ∉ x ∧ gr ∉ x ∧ qr ∉ x) (P : PushM w' b q (.slice (some ⟨r, 0, none⟩) k cap) l 0 0) (R : RPushAt w' rb qr rv l 0 0 false) (J : Ints w' h (I rr))
    (ord : w.heap.size ≤ b ∧ w.heap.size ≤ r ∧ b ≠ r ∧ b < rb ∧ r < rb) (frv : ∀ j, rv.ownBlock = some j → b < j ∧ r < j ∧ j ≠ rb) (fh : ∀ j, h.ownBlock = some j → rb < j ∧ b < j ∧ r < j ∧ rv.ownBlock ≠ some j) :
    XD wB w' p g q pr gr qr n t S (Stk.upd m u (.push l 0 0)) (Stk.upd has u rr) (Stk.upd vP u (.pointer (some ⟨b, 0, none⟩))) vO (Stk.upd vX u (.pointer (some ⟨rb, 0, none⟩))) vY (Stk.upd vL u h) (Stk.upd oM u (b :: r :: rb :: rv.ownBlock.toList)) := by
  obtain ⟨s, Y, RE⟩ := D.sys
  have Y2 : Sys w' p g q n s t S m has := ⟨Y.env.else E hs.1 hs.2.1 hs.2.2, Y.len, Y.gi⟩
  have H := D.turn (t' := t) (S' := S) (M' := .push l 0 0) (h' := rr) (a := .pointer (some ⟨b, 0, none⟩)) (c := vO u) (X := .pointer (some ⟨rb, 0, none⟩)) (Yv := vY u) (h := h) (o := b :: r :: rb :: rv.ownBlock.toList) hu E (fun j hj => .inr (hx j hj)) ⟨s, Y2.push_new hu (by rw [em]; rfl) hh h0, RE.else E hr.1 hr.2.1 hr.2.2⟩ (by rw [ec]; exact .push P R) J
    (fun j hj => by
      simp only [ow, List.mem_append, List.mem_cons, Option.mem_toList] at hj
      rcases hj with (h | h | h | h) | h
      · subst h; exact ⟨.inr ord.1, P.1.top.lt⟩
      · subst h; exact ⟨.inr ord.2.1, P.1.row.lt rfl⟩
      · subst h; exact ⟨.inr (by omega), R.top.lt⟩
      · exact ⟨.inr (by have := frv j h; omega), R.row.lt h⟩
      · exact ⟨.inr (by have := fh j h; omega), J.lt h⟩)
    (by
      unfold ow
      rw [List.nodup_append, List.nodup_cons, List.nodup_cons, List.nodup_cons]
      simp only [List.mem_cons, Option.mem_toList, not_or]
      refine ⟨⟨⟨ord.2.2.1, by omega, fun e => by have := frv b e; omega⟩, ⟨by omega, fun e => by have := frv r e; omega⟩, fun e => (frv rb e).2.2 rfl, by cases rv.ownBlock <;> simp⟩, by cases h.ownBlock <;> simp, fun x hx y hy e => ?_⟩
      subst e
      have := fh x hy
      rcases hx with h | h | h | h
      · omega
      · omega
      · omega
      · exact this.2.2.2 h) hb
  simpa only [Stk.upd_id] using H
set_option maxHeartbeats 4000000 in
theorem goes_popnew (D : XD wB w p g q pr gr qr n t S m has vP vO vX vY vL oM) (AW : Whole w bH 45 (arr20 vP vO vX vY vL)) (E0 : Else [p, g, pr, gr, bH] wB w) (O : XOrd wB p g q pr gr qr bH) (hu : u < 4) (em : m u = .idle) (ea : vP u = .pointer none) (ec : vO u = .pointer none) {z : Int} (z0 : 0 ≤ z) (z1 : z < 64) (hnew : ¬ (z % 2 = 1 ∧ 0 < (has u).length)) :
    Calls Try.prog 15 #[.pointer (some ⟨bH, 0, none⟩), .pointer (some ⟨q, 0, none⟩), .pointer (some ⟨qr, 0, none⟩), .int .i64 (u : Int), .int .i64 z] w fun e w' => e = .returned (.bool true) ∧ ∃ t', t' ≤ t + 1 ∧ PSt wB p g q pr gr qr n bH t' w' := by
  obtain ⟨o1, o2, o3, o4, o5, o6, o7⟩ := id O
  have hz := E0.size
  obtain ⟨q1, q2, q3, q4, q5⟩ := arr20_get (a := vP) (b := vO) (c := vX) (d := vY) (e := vL) hu
  have k1 := AW.cell q1
  have k2 := AW.cell q2
  have k5 := AW.cell q5
  rw [ea] at k1
  rw [ec] at k2
  obtain ⟨A5, c5, e5⟩ := (D.il u hu).slice
  rw [I_len] at e5
  rw [e5] at k5
  have j0 : (0 : Int) ≤ (u : Int) := Int.natCast_nonneg _
  have j1 : (u : Int) < 4 := by omega
  obtain ⟨most, hmost, m1, m8⟩ : ∃ most : Nat, min (max (z.tdiv 2 - 1) 1) 8 = (most : Int) ∧ 1 ≤ most ∧ most ≤ 8 := ⟨(min (max (z.tdiv 2 - 1) 1) 8).toNat, by omega, by omega, by omega⟩
  have HMO := Lib.hid hmost
  have x3 : 0 ≤ z.tdiv 2 := Int.tdiv_nonneg z0 (by decide)
  have x4 : z.tdiv 2 < 64 := by rw [Int.tdiv_eq_ediv_of_nonneg z0]; omega
  have hmod : z.tmod 2 = z % 2 := Int.tmod_eq_emod_of_nonneg z0
  have s9 : (-9223372036854775808 ≤ z.tdiv 2 ∧ z.tdiv 2 ≤ 9223372036854775807) ∧ (-9223372036854775808 ≤ z.tdiv 2 - 1 ∧ z.tdiv 2 - 1 ≤ 9223372036854775807) := by omega
  have HW1 := Lib.hid (IntWalk.i64_in _ s9.1)
  have HW2 := Lib.hid (IntWalk.i64_in _ s9.2)
  clear s9
  have fin : ∀ {w1 w2 : World}, Up w w1 → PopAt w1 w.heap.size q (.slice none 0 0) [] most 0 0 (meth 52 w.heap.size) → Up w1 w2 → RPopAt w2 w1.heap.size qr (.slice none 0 0) [] most 0 0 0 false →
      PSt wB p g q pr gr qr n bH t ((w2.setCell ⟨bH, 4 + u, none⟩ (.pointer (some ⟨w.heap.size, 0, none⟩))).setCell ⟨bH, 12 + u, none⟩ (.pointer (some ⟨w1.heap.size, 0, none⟩))) := by
    intro w1 w2 U1 P U2 R
    have hbw := P.top.lt
    have E8 : Else [bH] w2 ((w2.setCell ⟨bH, 4 + u, none⟩ (.pointer (some ⟨w.heap.size, 0, none⟩))).setCell ⟨bH, 12 + u, none⟩ (.pointer (some ⟨w1.heap.size, 0, none⟩))) := ((Else.refl [bH] w2).set (.inl (by simp)) _).set (.inl (by simp)) _
    have P2 : PopM w2 w.heap.size q (.slice none 0 0) [] most 0 0 0 := ⟨P.up U2, by omega, by omega, m1, m8, by simp⟩
    have ET := (Else.of_up (s := [bH]) (U1.trans U2)).trans E8
    have u1 := U1.size
    have A8 := ((AW.up (U1.trans U2)).set (4 + u) (.pointer (some ⟨w.heap.size, 0, none⟩)))
    rw [(arr20_set hu _).2.1] at A8
    have A9 := A8.set (12 + u) (.pointer (some ⟨w1.heap.size, 0, none⟩))
    rw [(arr20_set hu _).2.2.2.1] at A9
    exact ⟨_, _, _, _, _, _, _, _, _, D.pop_new hu em ea hz ET (by simp; omega) (by simp; omega) (by simp; omega) (P2.else E8 (by simp; omega) (fun j hj e => by simp [Value.ownBlock] at e)) (R.else E8 (by simp; omega) (fun j hj e => by simp [Value.ownBlock] at e)) (Nat.le_refl _) (by omega), A9, else5 E0 ET (by intro j hj; simp at hj ⊢; omega)⟩
  have HF := Lib.hid (fun w1 w2 => @fin w1 w2)
  have HAW := Lib.hid AW
  by_cases h1 : z % 2 = 1
  · have e1 : z.tmod 2 = 1 := hmod.trans h1
    have e2 : ¬ (0 : Int) < ((has u).length : Int) := by omega
    clear hmod fin D AW E0 O em ea ec hnew hmost q1 q2 q3 q4 q5 e5
    go_enter Try.func15, Try.ntmps15
    go_upto_region 1 with fail
    have sw1 := HW1.out
    have sw2 := HW2.out
    clear k1 k2 k5
    go_region_held3 (fun _ => True) (exact trivial)
      (first
        | (go_at_call 26; refine (spop_in _ HMO.out).mono ?_; rintro e w1 ⟨rfl, P1, U1⟩)
        | (go_at_call 44; refine (rpop_new _ HMO.out).mono ?_; rintro e w2 ⟨rfl, R2, U2⟩; have AW2 := HAW.out.up (((up_drew w).trans U1).trans U2); have y2 := AW2.cell (arr20_get (a := vP) (b := vO) (c := vX) (d := vY) (e := vL) hu).2.1; have g2 := AW2.frozen (4 + u); have y4 := (AW2.set (4 + u) (.pointer (some ⟨w.heap.size, 0, none⟩))).cell (i := 12 + u) (by rw [(arr20_set hu _).2.1]; exact (arr20_get hu).2.2.2.1); have g4 := (AW2.set (4 + u) (.pointer (some ⟨w.heap.size, 0, none⟩))).frozen (12 + u)))
    have HPS := Lib.hid (HF.out w1 w2 ((up_drew w).trans U1) P1 U2 R2)
    have yA : ((w2.setCell ⟨bH, 4 + u, none⟩ (.pointer (some ⟨w.heap.size, 0, none⟩))).setCell ⟨bH, 12 + u, none⟩ (.pointer (some ⟨w1.heap.size, 0, none⟩))).cell? ⟨bH, 4 + u, none⟩ = some (.pointer (some ⟨w.heap.size, 0, none⟩)) := by
      refine ((AW2.set (4 + u) (.pointer (some ⟨w.heap.size, 0, none⟩))).set (12 + u) (.pointer (some ⟨w1.heap.size, 0, none⟩))).cell ?_
      rw [(arr20_set hu _).2.1, (arr20_set hu _).2.2.2.1, (arr20_get hu).2.1, Stk.upd_same]
    have yC : ((w2.setCell ⟨bH, 4 + u, none⟩ (.pointer (some ⟨w.heap.size, 0, none⟩))).setCell ⟨bH, 12 + u, none⟩ (.pointer (some ⟨w1.heap.size, 0, none⟩))).cell? ⟨w.heap.size, 5, none⟩ = some (meth 52 w.heap.size) := kept_set (ad_ne (by omega)) (kept_set (ad_ne (by omega)) (U2.kept P1.cells.2.2.2.2.2))
    have HYC := Lib.hid yC
    clear yC y2 g2 y4 g4 AW2 P1 U1 U2 R2 sw1 sw2
    go_upto_region 2 with fail
    generalize ((w2.setCell ⟨bH, 4 + u, none⟩ (.pointer (some ⟨w.heap.size, 0, none⟩))).setCell ⟨bH, 12 + u, none⟩ (.pointer (some ⟨w1.heap.size, 0, none⟩))) = w9 at *
    go_wp2_with (first
      | (go_at_call 23; refine (popDone_no HYC.out).mono ?_; rintro e w10 ⟨rfl, rfl⟩))
    go_ret
    exact ⟨rfl, t, by omega, HPS.out⟩
  · have e1 : (z.tmod 2 == 1) = false := by rw [hmod]; simpa using h1
    clear hmod fin D AW E0 O em ea ec hnew hmost q1 q2 q3 q4 q5 e5
    go_enter Try.func15, Try.ntmps15
    go_upto_region 1 with fail
    have sw1 := HW1.out
    have sw2 := HW2.out
    clear k1 k2 k5
    go_region_held3 (fun _ => True) (exact trivial)
      (first
        | (go_at_call 26; refine (spop_in _ HMO.out).mono ?_; rintro e w1 ⟨rfl, P1, U1⟩)
        | (go_at_call 44; refine (rpop_new _ HMO.out).mono ?_; rintro e w2 ⟨rfl, R2, U2⟩; have AW2 := HAW.out.up (((up_drew w).trans U1).trans U2); have y2 := AW2.cell (arr20_get (a := vP) (b := vO) (c := vX) (d := vY) (e := vL) hu).2.1; have g2 := AW2.frozen (4 + u); have y4 := (AW2.set (4 + u) (.pointer (some ⟨w.heap.size, 0, none⟩))).cell (i := 12 + u) (by rw [(arr20_set hu _).2.1]; exact (arr20_get hu).2.2.2.1); have g4 := (AW2.set (4 + u) (.pointer (some ⟨w.heap.size, 0, none⟩))).frozen (12 + u)))
    have HPS := Lib.hid (HF.out w1 w2 ((up_drew w).trans U1) P1 U2 R2)
    have yA : ((w2.setCell ⟨bH, 4 + u, none⟩ (.pointer (some ⟨w.heap.size, 0, none⟩))).setCell ⟨bH, 12 + u, none⟩ (.pointer (some ⟨w1.heap.size, 0, none⟩))).cell? ⟨bH, 4 + u, none⟩ = some (.pointer (some ⟨w.heap.size, 0, none⟩)) := by
      refine ((AW2.set (4 + u) (.pointer (some ⟨w.heap.size, 0, none⟩))).set (12 + u) (.pointer (some ⟨w1.heap.size, 0, none⟩))).cell ?_
      rw [(arr20_set hu _).2.1, (arr20_set hu _).2.2.2.1, (arr20_get hu).2.1, Stk.upd_same]
    have yC : ((w2.setCell ⟨bH, 4 + u, none⟩ (.pointer (some ⟨w.heap.size, 0, none⟩))).setCell ⟨bH, 12 + u, none⟩ (.pointer (some ⟨w1.heap.size, 0, none⟩))).cell? ⟨w.heap.size, 5, none⟩ = some (meth 52 w.heap.size) := kept_set (ad_ne (by omega)) (kept_set (ad_ne (by omega)) (U2.kept P1.cells.2.2.2.2.2))
    have HYC := Lib.hid yC
    clear yC y2 g2 y4 g4 AW2 P1 U1 U2 R2 sw1 sw2
    go_upto_region 2 with fail
    generalize ((w2.setCell ⟨bH, 4 + u, none⟩ (.pointer (some ⟨w.heap.size, 0, none⟩))).setCell ⟨bH, 12 + u, none⟩ (.pointer (some ⟨w1.heap.size, 0, none⟩))) = w9 at *
    go_wp2_with (first
      | (go_at_call 23; refine (popDone_no HYC.out).mono ?_; rintro e w10 ⟨rfl, rfl⟩))
    go_ret
    exact ⟨rfl, t, by omega, HPS.out⟩
end
section
variable {wB w w5 w6 w7 w9 w' : World} {p g q pr gr qr n t t' u bH b r k cap rb i most : Nat} {S S' l lo rr : List Nat} {m : Nat → Stk.Mach} {has : Nat → List Nat} {vP vO vX vY vL : Nat → Value} {oM : Nat → List Nat} {v v' rv rv' h : Value} {old deep : Int} {s : St}
theorem I_tk' (l : List Nat) (c : Nat) : I (l.take c) = (I l).take c := by simp [I, List.map_take]
theorem I_dr' (l : List Nat) (c : Nat) : I (l.drop c) = (I l).drop c := by simp [I, List.map_drop]
theorem size_set' (w : World) (a : Addr) (v : Value) : w.heap.size ≤ (w.setCell a v).heap.size := (Below.setCell (Below.refl a.block w) (Nat.le_refl _) v).size
theorem fresh_of' {w : World} {v v' : Value} (h : v'.ownBlock = v.ownBlock ∨ v'.ownBlock = some w.heap.size) (hv : v.ownBlock = none) : ∀ j, v'.ownBlock = some j → w.heap.size ≤ j := by
  intro j hj
  rcases h with h | h
  · rw [h, hv] at hj; cases hj
  · rw [h] at hj; injection hj with hj; omega
theorem nat_small {N : Nat} (h : N ≤ 400) : (N : Int) < 9223372036854775808 := by omega
theorem end_push (D : XD wB w p g q pr gr qr n t S m has vP vO vX vY vL oM) (AW : Whole w bH 45 (arr20 vP vO vX vY vL)) (E0 : Else [p, g, pr, gr, bH] wB w) (O : XOrd wB p g q pr gr qr bH) (hu : u < 4) (em : m u = .idle) (ec : vO u = .pointer none) (hh : has u = l ++ rr) (h0 : l ≠ [])
    (U6 : Up w w6) (hb : w.heap.size ≤ b) (hr : w.heap.size ≤ r) (P : PushAt w6 b q (.slice (some ⟨r, 0, none⟩) l.length cap) l 0 0 (nxL b l.length 0)) (U7 : Up w6 w7) (R : RPushAt w7 rb qr rv l 0 0 false) (hrb : w6.heap.size ≤ rb) (frv : ∀ j, rv.ownBlock = some j → w6.heap.size ≤ j)
    (U9 : Up ((w7.setCell ⟨bH, u, none⟩ (.pointer (some ⟨b, 0, none⟩))).setCell ⟨bH, 8 + u, none⟩ (.pointer (some ⟨rb, 0, none⟩))) w9) (J : Ints w9 h (I rr)) (fh : ∀ j, h.ownBlock = some j → ((w7.setCell ⟨bH, u, none⟩ (.pointer (some ⟨b, 0, none⟩))).setCell ⟨bH, 8 + u, none⟩ (.pointer (some ⟨rb, 0, none⟩))).heap.size ≤ j) :
    PSt wB p g q pr gr qr n bH t (w9.setCell ⟨bH, 16 + u, none⟩ h) := by
  obtain ⟨o1, o2, o3, o4, o5, o6, o7⟩ := id O
  have hz := E0.size
  have z6 := U6.size
  have z7 := U7.size
  have zs : w7.heap.size ≤ ((w7.setCell ⟨bH, u, none⟩ (.pointer (some ⟨b, 0, none⟩))).setCell ⟨bH, 8 + u, none⟩ (.pointer (some ⟨rb, 0, none⟩))).heap.size := Nat.le_trans (size_set' _ _ _) (size_set' _ _ _)
  have hbl := P.top.lt
  have hrl := P.row.lt (k := r) rfl
  have hbr : b ≠ r := fun e => P.away (by rw [e]; rfl)
  have lrb := R.top.lt
  have lrv : ∀ j, rv.ownBlock = some j → j < w7.heap.size := fun j hj => R.row.lt hj
  have E7 : Else [bH] w7 (w9.setCell ⟨bH, 16 + u, none⟩ h) := ((((Else.refl _ w7).set (.inl (by simp)) _).set (.inl (by simp)) _).up U9).set (.inl (by simp)) _
  have ET : Else [bH] w (w9.setCell ⟨bH, 16 + u, none⟩ h) := (Else.of_up (U6.trans U7)).trans E7
  have P2 : PushM (w9.setCell ⟨bH, 16 + u, none⟩ h) b q (.slice (some ⟨r, 0, none⟩) l.length cap) l 0 0 := ((P.begins h0).up U7).else E7 (by simp; omega) (fun j hj e => by simp [Value.ownBlock] at e hj; omega)
  have R2 := R.else E7 (by simp; omega) (fun j hj e => by have := frv j e; simp at hj; omega)
  have J2 := J.else (l := [bH]) ((Else.refl [bH] w9).set (p := ⟨bH, 16 + u, none⟩) (.inl (by simp)) h) (fun j hj e => by have := fh j e; simp at hj; omega)
  have A1 := ((AW.up U6).up U7).set u (.pointer (some ⟨b, 0, none⟩))
  rw [(arr20_set hu _).1] at A1
  have A2 := A1.set (8 + u) (.pointer (some ⟨rb, 0, none⟩))
  rw [(arr20_set hu _).2.2.1] at A2
  have A3 := (A2.up U9).set (16 + u) h
  rw [(arr20_set hu _).2.2.2.2] at A3
  exact ⟨_, _, _, _, _, _, _, _, _, D.push_new hu em ec hz hh h0 ET (by simp; omega) (by simp; omega) (by simp; omega) P2 R2 J2 ⟨hb, hr, hbr, by omega, by omega⟩ (fun j hj => by have := frv j hj; exact ⟨by omega, by omega, fun e => R.away (by rw [hj, e])⟩) (fun j hj => by have := fh j hj; exact ⟨by omega, by omega, by omega, fun e => by have := lrv j e; omega⟩), A3, else5 E0 ET (by intro j hj; simp at hj ⊢; omega)⟩
set_option maxHeartbeats 4000000 in
theorem goes_pushnew (D : XD wB w p g q pr gr qr n t S m has vP vO vX vY vL oM) (AW : Whole w bH 45 (arr20 vP vO vX vY vL)) (E0 : Else [p, g, pr, gr, bH] wB w) (O : XOrd wB p g q pr gr qr bH) (hu : u < 4) (em : m u = .idle) (ea : vP u = .pointer none) (ec : vO u = .pointer none) (hn : n ≤ 400) {z : Int} (z0 : 0 ≤ z) (z1 : z < 64) (hnew : z % 2 = 1 ∧ 0 < (has u).length) :
    Calls Try.prog 15 #[.pointer (some ⟨bH, 0, none⟩), .pointer (some ⟨q, 0, none⟩), .pointer (some ⟨qr, 0, none⟩), .int .i64 (u : Int), .int .i64 z] w fun e w' => e = .returned (.bool true) ∧ ∃ t', t' ≤ t + 1 ∧ PSt wB p g q pr gr qr n bH t' w' := by
  obtain ⟨o1, o2, o3, o4, o5, o6, o7⟩ := id O
  have hz := E0.size
  obtain ⟨q1, q2, q3, q4, q5⟩ := arr20_get (a := vP) (b := vO) (c := vX) (d := vY) (e := vL) hu
  have k1 := AW.cell q1
  have k2 := AW.cell q2
  have k5 := AW.cell q5
  rw [ea] at k1
  rw [ec] at k2
  have il := D.il u hu
  obtain ⟨A5, c5, e5⟩ := il.slice
  rw [I_len] at e5
  rw [e5] at k5 il
  have hcap := il.cap
  have hsm := D.small hu
  have j0 : (0 : Int) ≤ (u : Int) := Int.natCast_nonneg _
  have j1 : (u : Int) < 4 := by omega
  obtain ⟨h1, hNp⟩ := hnew
  have e1 : z.tmod 2 = 1 := (Int.tmod_eq_emod_of_nonneg z0).trans h1
  obtain ⟨Nh, hNh⟩ : ∃ Nh, (has u).length = Nh := ⟨_, rfl⟩
  have e2 : (0 : Int) < (Nh : Int) := by omega
  obtain ⟨e', he', _, e0', e1'⟩ := emod_letter (z.tdiv 2) Nh e2
  obtain ⟨cc, hcc⟩ : ∃ cc : Nat, 1 + e' = cc := ⟨(1 + e').toNat, by omega⟩
  have cc1 : 1 ≤ cc := by omega
  have cc2 : cc ≤ Nh := by omega
  have hcx : cc ≤ c5 := by omega
  have HNM := Lib.hid he'
  have HCC := Lib.hid hcc
  have HNL := Lib.hid hNh
  have D2 := Lib.hid (show Nh ≤ 400 by omega)
  have x3 : 0 ≤ z.tdiv 2 := Int.tdiv_nonneg z0 (by decide)
  have x4 : z.tdiv 2 < 64 := by rw [Int.tdiv_eq_ediv_of_nonneg z0]; omega
  rw [hNh] at k5 il
  have HRH := Lib.hid (cutHi_rd (c := cc) il.rd (by rw [I_len, hNh]; exact cc2))
  have HRL := Lib.hid (cutLo_rd (c := cc) il.rd (by rw [I_len, hNh]; exact cc2) (by omega))
  rw [← I_tk'] at HRH
  rw [← I_dr'] at HRL
  have HH6 := Lib.hid (show ((I ((has u).take cc)).length ≤ 8000 ∧ (I ((has u).drop cc)).length ≤ 8000) by rw [I_len, I_len, List.length_take, List.length_drop]; omega)
  obtain ⟨s0, Y0, RE0⟩ := D.sys
  have HTD := Lib.hid (List.take_append_drop cc (has u)).symm
  have HGD := Lib.hid (Y0.good hu HTD.out)
  have HY0 := Lib.hid Y0
  have HNE : (has u).take cc ≠ [] := by
    intro e; have := congrArg List.length e
    rw [List.length_take, hNh] at this; simp at this; omega
  replace HNE := Lib.hid HNE
  have hown : ∀ j, (vL u).ownBlock = some j → wB.heap.size ≤ j ∧ j < w.heap.size := fun j hj => D.hlt hu hj
  rw [e5] at hown
  have HOW := Lib.hid hown
  have E5 := Lib.hid e5
  have HD_ := Lib.hid D
  have HAW := Lib.hid AW
  have HE0 := Lib.hid E0
  have HO := Lib.hid O
  have EM := Lib.hid em
  have EC := Lib.hid ec
  clear D AW E0 O em ea ec q1 q2 q3 q4 q5 e5 il hcap hsm he' hcc hNh Y0 RE0 hown h1 hNp
  have HE9 := Lib.hid (And.intro e0' (show e' < 400 by have := D2.out; omega))
  have HC9 := Lib.hid (And.intro cc1 (And.intro cc2 hcx))
  have HX34 := Lib.hid (And.intro x3 x4)
  have HN4 := Lib.hid hn
  rename_i hlet
  clear hlet e0' e1' cc1 cc2 hcx x3 x4 hn
  go_enter Try.func15, Try.ntmps15
  go_upto_region 18 with fail
  obtain ⟨e0', e1'⟩ := HE9.out
  obtain ⟨x3, x4⟩ := HX34.out
  go_upto_region 19 with (first
    | (go_at_call 10; (with_reducible refine (number_is HNM.out e2 (nat_small D2.out) _).mono ?_); rintro e w' ⟨rfl, rfl⟩))
  rw [HCC.out]
  obtain ⟨cc1, cc2, hcx⟩ := HC9.out
  have hcH := run_cutHi A5 Nh c5 cc hcx
  have hcL := run_cutLo A5 Nh c5 cc cc2
  clear cc1 cc2 hcx
  go_upto_region 21 with (first
    | (at_builtin; refine wpList_app (v := .slice none 0 0) rfl _ _ rfl rfl rfl (Ints.nil _) HRH.out (by have := HH6.out.1; simp; omega) ?_; intro v5 w5 J5 G5 A5; obtain ⟨A5v, N5, c5', rfl⟩ := shapeI J5; have HJ5 := Lib.hid J5; have HU5 := Lib.hid (up_app (Up.refl _) G5 (fresh_nil' _)); clear J5 G5 A5)
    | (go_at_call 25; refine (spush_yes (HY0.out.up HU5.out).env HJ5.out.rd HNE.out HGD.out.1 (by have := HGD.out.2; have := HN4.out; omega)).mono ?_; rintro e w6 ⟨pb, pr', pcap, rfl, P6, hb6, hr6, U6⟩; have HP6 := Lib.hid P6; have HU6 := Lib.hid (HU5.out.trans U6); have HB6 := Lib.hid hb6; have HR6 := Lib.hid hr6; clear P6 U6 hb6 hr6))
  obtain ⟨f, hf⟩ := (HP6.out.begins HNE.out).next
  have HFN := Lib.hid hf
  clear hf k1 k2 k5
  go_upto_region 23 with (first
    | (go_at_call 21; refine (pushDone_no HFN.out).mono ?_; rintro e w9 ⟨rfl, rfl⟩))
  go_region_held3 (fun _ => True) (exact trivial)
    (first
      | (go_at_call 43; refine (rpush_new ((HRH.out.up HU6.out).up (up_drew _)) HNE.out (by have := HH6.out.1; rw [I_len] at this; exact this)).mono ?_; rintro e w7 ⟨rb, rv, rfl, R7, hrb, frv, U7⟩; have AW7 := (HAW.out.up HU6.out).up ((up_drew w6).trans U7); have y1 := AW7.cell (arr20_get (a := vP) (b := vO) (c := vX) (d := vY) (e := vL) hu).1; have g1 := AW7.frozen u; have y3 := (AW7.set u (.pointer (some ⟨pb, 0, none⟩))).cell (i := 8 + u) (by rw [(arr20_set hu _).1]; exact (arr20_get hu).2.2.1); have g3 := (AW7.set u (.pointer (some ⟨pb, 0, none⟩))).frozen (8 + u)))
  have HU7 := Lib.hid ((up_drew w6).trans U7)
  have HR7 := Lib.hid R7
  have HRB := Lib.hid hrb
  have HFV := Lib.hid frv
  have AW8 := (AW7.set u (.pointer (some ⟨pb, 0, none⟩))).set (8 + u) (.pointer (some ⟨rb, 0, none⟩))
  rw [(arr20_set hu _).1, (arr20_set hu _).2.2.1] at AW8
  have HAW8 := Lib.hid AW8
  have k5 := AW8.cell (arr20_get hu).2.2.2.2
  rw [E5.out, HNL.out] at k5
  have HR8 := Lib.hid (Rd.else ((HRL.out.up HU6.out).up HU7.out) (((Else.refl [bH] w7).set (p := ⟨bH, u, none⟩) (.inl (by simp)) (.pointer (some ⟨pb, 0, none⟩))).set (p := ⟨bH, 8 + u, none⟩) (.inl (by simp)) (.pointer (some ⟨rb, 0, none⟩))) (fun j hj e => by rw [cutLo_own] at e; have := (HOW.out j (by rw [HNL.out]; exact e)).1; simp at hj; omega))
  clear AW8 AW7 R7 hrb frv U7
  go_upto_region 24 with fail
  clear y1 g1 y3 g3
  go_region_law (refine step_app (v := .slice none 0 0) (by rfl) _ _ (by rfl) (by rfl) (by rfl) (Ints.nil _) (HR8.out.up (up_drew _)) (by have := HH6.out.2; simp; omega) ?_; intro v9 w9 J9 G9 A9; obtain ⟨A9v, N9, c9, rfl⟩ := shapeI J9; have HJ9 := Lib.hid J9; have HU9 := Lib.hid (up_app (up_drew _) G9 (fresh_nil' _)); have HAT9 := Lib.hid (fresh_of' A9 rfl); have y5 := (HAW8.out.up HU9.out).cell (arr20_get hu).2.2.2.2; have g5 := (HAW8.out.up HU9.out).frozen (16 + u); clear J9 G9 A9)
  all_goals
    clear k5
    go_wp2_with fail
    go_ret
    exact ⟨rfl, t, by omega, end_push HD_.out HAW.out HE0.out HO.out hu EM.out EC.out HTD.out HNE.out HU6.out (Nat.le_trans HU5.out.size HB6.out) (Nat.le_trans HU5.out.size HR6.out) HP6.out HU7.out HR7.out HRB.out HFV.out HU9.out HJ9.out HAT9.out⟩
end
section
variable {wB w w' : World} {p g q pr gr qr n t u bH : Nat}
theorem goes_in (H : PSt wB p g q pr gr qr n bH t w) (O : XOrd wB p g q pr gr qr bH) (hu : u < 4) (hn : n ≤ 400) (ht : t < 4294967295) {z : Int} (z0 : 0 ≤ z) (z1 : z < 64) :
    Calls Try.prog 15 #[.pointer (some ⟨bH, 0, none⟩), .pointer (some ⟨q, 0, none⟩), .pointer (some ⟨qr, 0, none⟩), .int .i64 (u : Int), .int .i64 z] w fun e w' => e = .returned (.bool true) ∧ ∃ t', t' ≤ t + 1 ∧ PSt wB p g q pr gr qr n bH t' w' := by
  obtain ⟨S, m, has, vP, vO, vX, vY, vL, oM, D, AW, E0⟩ := H
  rcases (D.hm u hu).ways with ⟨em, ea, ec, eo⟩ | ⟨b, r, k, cap, rb, rv, l, i, old, em, ea, ec, ex, eo, P, R⟩ | ⟨b, rb, v, rv, l, most, i, deep, old, em, ea, ec, ey, eo, P, R⟩
  · by_cases hnew : z % 2 = 1 ∧ 0 < (has u).length
    · exact goes_pushnew D AW E0 O hu em ea ec hn z0 z1 hnew
    · exact goes_popnew D AW E0 O hu em ea ec z0 z1 hnew
  · exact goes_push D AW E0 O hu em ea ec ex eo P R ht z
  · exact goes_pop D AW E0 O hu em ea ec ey eo P R ht hn z
theorem PSt.up (H : PSt wB p g q pr gr qr n bH t w) (E : Up w w') : PSt wB p g q pr gr qr n bH t w' := by
  obtain ⟨S, m, has, vP, vO, vX, vY, vL, oM, D, AW, E0⟩ := H
  exact ⟨S, m, has, vP, vO, vX, vY, vL, oM, D.up E, AW.up E, E0.up E⟩
theorem rnew_is {n : Nat} {i : Int} (hi : i = n) (h1 : n ≤ 8388608) (w : World) :
    Calls Try.prog 13 #[.int .i64 i] w fun e w' => e = .returned (.pointer (some ⟨w.heap.size + 1, 0, none⟩)) ∧ Ref w' (w.heap.size + 1) w.heap.size (List.replicate n 0) 0 ∧ Up w w' := by subst hi; exact rnew_in n h1 w
end
end Go.Proofs.Ytalhbebpoohgkaa
