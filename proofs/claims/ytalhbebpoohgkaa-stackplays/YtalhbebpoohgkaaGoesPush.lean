/-
  The statement's own goes: a Push that goes on.
-/
import Derived.Test.YtalhbebpoohgkaaXHands
namespace Go.Proofs.Ytalhbebpoohgkaa
open Go.RowKit
set_option maxRecDepth 100000
/-- In which order the blocks were made. -/
def XOrd (wB : World) (p g q pr gr qr bH : Nat) : Prop := p < gr ∧ g < gr ∧ q < gr ∧ gr < pr ∧ pr < qr ∧ qr < bH ∧ bH < wB.heap.size
/-- The state behind so many steps. -/
def PSt (wB : World) (p g q pr gr qr n bH t : Nat) (w : World) : Prop := ∃ (S : List Nat) (m : Nat → Stk.Mach) (has : Nat → List Nat) (vP vO vX vY vL : Nat → Value) (oM : Nat → List Nat),
  XD wB w p g q pr gr qr n t S m has vP vO vX vY vL oM ∧ Whole w bH 45 (arr20 vP vO vX vY vL) ∧ Else [p, g, pr, gr, bH] wB w
theorem else5 {w w' : World} {p g pr gr bH : Nat} {wB : World} {x : List Nat} (E0 : Else [p, g, pr, gr, bH] wB w) (E : Else x w w') (hx : ∀ j ∈ x, j ∈ [p, g, pr, gr, bH] ∨ wB.heap.size ≤ j) : Else [p, g, pr, gr, bH] wB w' :=
  ⟨E.os.trans E0.os, E.tape.trans E0.tape, E.output.trans E0.output, Nat.le_trans E0.size E.size, fun k hk hs => (E.block k (Nat.lt_of_lt_of_le hk E0.size) (fun h => by
    rcases hx k h with h | h
    · exact hs h
    · omega)).trans (E0.block k hk hs)⟩
section
variable {wB w w1 w2 w' : World} {p g q pr gr qr n t t' u bH b r k cap rb i : Nat} {S S' l : List Nat} {m : Nat → Stk.Mach} {has : Nat → List Nat} {vP vO vX vY vL : Nat → Value} {oM : Nat → List Nat} {rv : Value} {old : Int} {s : St}
theorem else_six (E1 : Else [b, p, g] w w1) (E2 : Else [rb, pr, gr] w1 w2) : Else [b, p, g, rb, pr, gr] w w2 :=
  (E1.more (by intro j hj; simp at hj ⊢; rcases hj with h | h | h <;> simp [h])).trans (E2.more (by intro j hj; simp at hj ⊢; rcases hj with h | h | h <;> simp [h]))
theorem six_in (D : XD wB w p g q pr gr qr n t S m has vP vO vX vY vL oM) (eo : oM u = b :: r :: rb :: rv.ownBlock.toList) : ∀ j ∈ [b, p, g, rb, pr, gr], j ∈ oM u ∨ j < wB.heap.size := by
  obtain ⟨h1, h2, h3, h4, h5, h6⟩ := D.base
  intro j hj
  simp only [List.mem_cons, List.not_mem_nil, or_false] at hj
  rw [eo]
  rcases hj with h | h | h | h | h | h
  · left; simp [h]
  · right; omega
  · right; omega
  · left; simp [h]
  · right; omega
  · right; omega
theorem XD.push_go (D : XD wB w p g q pr gr qr n t S m has vP vO vX vY vL oM) (hu : u < 4) (ea : vP u = .pointer (some ⟨b, 0, none⟩)) (ec : vO u = .pointer none) (ex : vX u = .pointer (some ⟨rb, 0, none⟩)) (eo : oM u = b :: r :: rb :: rv.ownBlock.toList) (hb : wB.heap.size ≤ w.heap.size)
    (E : Else [b, p, g, rb, pr, gr] w w2) {i' : Nat} {old' : Int} (P : PushM w2 b q (.slice (some ⟨r, 0, none⟩) k cap) l i' old') (R : RPushAt w2 rb qr rv l i' old' false) (Y : Sys w2 p g q n s t S (Stk.upd m u (.push l i' old')) has) (RE : REnv w2 pr gr qr 0 2 n s.xs s.c) :
    XD wB w2 p g q pr gr qr n t S (Stk.upd m u (.push l i' old')) has vP vO vX vY vL oM := by
  have H := D.turn (t' := t) (S' := S) (M' := .push l i' old') (h' := has u) (a := vP u) (c := vO u) (X := vX u) (Yv := vY u) (h := vL u) (o := oM u) hu E (fun j hj => (six_in D eo j hj).imp (fun h => by simp [ow, h]) id) ⟨s, by rw [Stk.upd_id]; exact Y, RE⟩ (by rw [ea, ec, ex, eo]; exact .push P R) (D.ilK hu E (six_in D eo))
    (fun j hj => ⟨.inl hj, Nat.lt_of_lt_of_le (D.lo u hu j hj).2 E.size⟩) (D.nd u hu) hb
  simpa only [Stk.upd_id] using H
theorem XD.push_done (D : XD wB w p g q pr gr qr n t S m has vP vO vX vY vL oM) (hu : u < 4) (ec : vO u = .pointer none) (eo : oM u = b :: r :: rb :: rv.ownBlock.toList) (hb : wB.heap.size ≤ w.heap.size)
    (E : Else [b, p, g, rb, pr, gr] w w2) (Y : Sys w2 p g q n s t' S' (Stk.upd m u .idle) has) (RE : REnv w2 pr gr qr 0 2 n s.xs s.c) :
    XD wB w2 p g q pr gr qr n t' S' (Stk.upd m u .idle) has (Stk.upd vP u (.pointer none)) vO vX vY vL (Stk.upd oM u []) := by
  have H := D.turn (t' := t') (S' := S') (M' := .idle) (h' := has u) (a := .pointer none) (c := vO u) (X := vX u) (Yv := vY u) (h := vL u) (o := []) hu E (fun j hj => (six_in D eo j hj).imp (fun h => by simp [ow, h]) id) ⟨s, by rw [Stk.upd_id]; exact Y, RE⟩ (by rw [ec]; exact .idle) (D.ilK hu E (six_in D eo))
    (fun j hj => by
      have hj : j ∈ ow (oM u) (vL u) := by simp [ow] at hj ⊢; simp [hj]
      exact ⟨.inl hj, Nat.lt_of_lt_of_le (D.lo u hu j hj).2 E.size⟩)
    (by
      unfold ow
      cases (vL u).ownBlock <;> simp) hb
  simpa only [Stk.upd_id] using H
set_option maxHeartbeats 4000000 in
theorem goes_push (D : XD wB w p g q pr gr qr n t S m has vP vO vX vY vL oM) (AW : Whole w bH 45 (arr20 vP vO vX vY vL)) (E0 : Else [p, g, pr, gr, bH] wB w) (O : XOrd wB p g q pr gr qr bH) (hu : u < 4) (em : m u = .push l i old) (ea : vP u = .pointer (some ⟨b, 0, none⟩)) (ec : vO u = .pointer none) (ex : vX u = .pointer (some ⟨rb, 0, none⟩)) (eo : oM u = b :: r :: rb :: rv.ownBlock.toList)
    (P : PushM w b q (.slice (some ⟨r, 0, none⟩) k cap) l i old) (R : RPushAt w rb qr rv l i old false) (ht : t < 4294967295) (z : Int) :
    Calls Try.prog 15 #[.pointer (some ⟨bH, 0, none⟩), .pointer (some ⟨q, 0, none⟩), .pointer (some ⟨qr, 0, none⟩), .int .i64 (u : Int), .int .i64 z] w fun e w' => e = .returned (.bool true) ∧ ∃ t', t' ≤ t + 1 ∧ PSt wB p g q pr gr qr n bH t' w' := by
  obtain ⟨s, Y, RE⟩ := D.sys
  obtain ⟨o1, o2, o3, o4, o5, o6, o7⟩ := id O
  have ap1 := (D.apart (b := b) (v := .slice (some ⟨r, 0, none⟩) k cap) hu (by rw [eo]; simp) (by intro j hj; simp [Value.ownBlock] at hj; rw [eo]; simp [hj])).1
  have ap2 := (D.apart (b := rb) (v := rv) hu (by rw [eo]; simp) (by intro j hj; rw [eo]; simp [hj])).2
  have lb := D.lt (j := b) hu (by rw [eo]; simp)
  have lr := D.lt (j := r) hu (by rw [eo]; simp)
  have lrb := D.lt (j := rb) hu (by rw [eo]; simp)
  have nd := (D.parts hu).1
  rw [eo] at nd
  have nb : b ≠ rb := by
    intro e; rw [List.nodup_cons] at nd; exact nd.1 (by simp [e])
  have nrb : ∀ j, rv.ownBlock = some j → wB.heap.size ≤ j ∧ j ≠ b := by
    intro j hj
    refine ⟨(D.lt (j := j) hu (by rw [eo]; simp [hj])).1, fun e => ?_⟩
    rw [List.nodup_cons] at nd; exact nd.1 (by simp [hj, e])
  have nr2 : r ≠ rb := by
    intro e; rw [List.nodup_cons, List.nodup_cons] at nd; exact nd.2.1 (by simp [e])
  have hz := E0.size
  obtain ⟨xs', i', old', d, hlen, hok, hS, hR⟩ := push_both (Y.up (up_drew w)) hu em ht (P.up (up_drew w)) ap1 ap2
  have HS := Lib.hid hS
  have HRz := Lib.hid (fun w1 (E1 : Else [b, p, g] w.drew w1) => hR w1 ((RE.up (up_drew w)).else E1 (by simp; omega) (by simp; omega) (by simp; omega)) ((R.up (up_drew w)).else E1 (by simp; omega) (fun j hj e => by have := nrb j e; simp at hj; omega)))
  have HRE := Lib.hid RE
  obtain ⟨q1, q2, q3, q4, q5⟩ := arr20_get (a := vP) (b := vO) (c := vX) (d := vY) (e := vL) hu
  have k1 := AW.cell q1
  have k3 := AW.cell q3
  rw [ea] at k1
  rw [ex] at k3
  have hbb : bH ∉ [b, p, g] := by simp; omega
  have hbr : bH ∉ [rb, pr, gr] := by simp; omega
  have j0 : (0 : Int) ≤ (u : Int) := Int.natCast_nonneg _
  have j1 : (u : Int) < 4 := by omega
  have HD_ := Lib.hid D
  have HAW := Lib.hid AW
  have HE0 := Lib.hid E0
  have EA := Lib.hid ea
  have EC := Lib.hid ec
  have EX := Lib.hid ex
  have EO := Lib.hid eo
  have HNB := Lib.hid (And.intro nb (And.intro nr2 nrb))
  have HOK := Lib.hid hok
  have HLEN := Lib.hid hlen
  clear hS hR D AW E0 Y RE P R ea ec ex eo nd nb nrb nr2 hok hlen q1 q2 q3 q4 q5 O em
  go_enter Try.func15, Try.ntmps15
  go_upto_region 5 with fail
  go_region_held3 (fun w' => w'.cell? ⟨bH, u, none⟩ = some (.pointer (some ⟨b, 0, none⟩)) ∧ w'.cell? ⟨bH, 8 + u, none⟩ = some (.pointer (some ⟨rb, 0, none⟩))) ((first | exact ⟨k1, k3⟩ | exact ⟨E1.kept (p := ⟨bH, u, none⟩) k1 hbb, E1.kept (p := ⟨bH, 8 + u, none⟩) k3 hbb⟩ | exact ⟨E2.kept (p := ⟨bH, u, none⟩) (E1.kept (p := ⟨bH, u, none⟩) k1 hbb) hbr, E2.kept (p := ⟨bH, 8 + u, none⟩) (E1.kept (p := ⟨bH, 8 + u, none⟩) k3 hbb) hbr⟩))
    (first
      | (go_at_call 20; refine HS.out.mono ?_; rintro e w1 ⟨rfl, E1, B1⟩)
      | (go_at_call 40; refine (HRz.out w1 E1).mono ?_; rintro e w2 ⟨rfl, R2, M2, E2⟩))
  have HEE := Lib.hid (else_six ((Else.of_up (up_drew w)).trans E1) E2)
  have HE2 := Lib.hid E2
  have RE2 := Lib.hid ((((HRE.out.up (up_drew w)).else E1 (by simp; omega) (by simp; omega) (by simp; omega))).turn M2 E2 (by simp; omega) HOK.out HLEN.out)
  have AW2 := Lib.hid (E2.whole (E1.whole (HAW.out.up (up_drew w)) hbb) hbr)
  have HR2 := Lib.hid R2
  have HB1 := Lib.hid B1
  replace k1 := E2.kept (p := ⟨bH, u, none⟩) (E1.kept (p := ⟨bH, u, none⟩) ((up_drew w).kept k1) hbb) hbr
  replace k3 := E2.kept (p := ⟨bH, 8 + u, none⟩) (E1.kept (p := ⟨bH, 8 + u, none⟩) ((up_drew w).kept k3) hbb) hbr
  have c4r := R2.cells.2.2.2.2
  have hbE : b ∉ [rb, pr, gr] := by have := HNB.out.1; simp; omega
  have hrE : r ∉ [rb, pr, gr] := by have := HNB.out.2.1; simp; omega
  clear E1 E2 M2 R2 B1
  obtain ⟨s', hxs, hc, hways⟩ := HB1.out
  rw [← hxs, ← hc] at RE2
  rcases hways with ⟨rfl, ⟨f, hf⟩, P1, Y1⟩ | ⟨rfl, hf, Y1⟩
  · have C4 := Lib.hid (HE2.out.kept (p := ⟨b, 4, none⟩) hf hbE)
    have P2 := Lib.hid (P1.else HE2.out hbE (fun j hj e => by simp [Value.ownBlock] at e; subst e; exact hrE hj))
    have Y2 : Sys w2 p g q n s' t S (Stk.upd m u (.push l i' old')) has := ⟨Y1.env.else HE2.out (by simp; omega) (by simp; omega) (by simp; omega), Y1.len, Y1.gi⟩
    replace Y2 := Lib.hid Y2
    clear hf P1 Y1 hxs hc
    go_upto_region 6 with fail
    go_quiet (first
      | (go_at_call 21; (with_reducible exact quiet_eq (pushDone_no (f := f) (((Up.refl _).then_drewN _).kept C4.out)))))
    go_wp2_with fail
    go_ret
    exact ⟨rfl, t, by omega, S, _, has, vP, vO, vX, vY, vL, oM, (HD_.out.push_go hu EA.out EC.out EX.out EO.out hz HEE.out P2.out HR2.out Y2.out RE2.out).up (Up.drewN _ _), AW2.out.up (Up.drewN _ _), (else5 HE0.out HEE.out (by intro j hj; simp at hj ⊢; omega)).up (Up.drewN _ _)⟩
  · have C4 := Lib.hid (HE2.out.kept (p := ⟨b, 4, none⟩) hf hbE)
    have Y2 : Sys w2 p g q n s' (t + 1) (l ++ S) (Stk.upd m u .idle) has := ⟨Y1.env.else HE2.out (by simp; omega) (by simp; omega) (by simp; omega), Y1.len, Y1.gi⟩
    replace Y2 := Lib.hid Y2
    clear hf Y1 hxs hc
    have f1 := AW2.out.frozen u
    go_upto_region 6 with fail
    go_quiet (first
      | (go_at_call 21; (with_reducible exact quiet_eq (pushDone_yes (((Up.refl _).then_drewN _).kept C4.out)))))
    go_wp2_with fail
    go_ret
    have D3 := (HD_.out.push_done hu EC.out EO.out hz HEE.out Y2.out RE2.out).up (Up.drewN _ nq)
    have E3 : Else [bH] (w2.drewN nq) ((w2.drewN nq).setCell ⟨bH, u, none⟩ (.pointer none)) := (Else.refl _ _).set (.inl (by simp)) _
    have A3 := (AW2.out.up (Up.drewN _ nq)).set u (.pointer none)
    rw [(arr20_set hu _).1] at A3
    exact ⟨rfl, t + 1, by omega, _, _, has, _, vO, vX, vY, vL, _, D3.else E3 (by simp; omega) (by simp; omega) (by simp; omega), A3, else5 ((else5 HE0.out HEE.out (by intro j hj; simp at hj ⊢; omega)).up (Up.drewN _ _)) E3 (by intro j hj; simp at hj ⊢; omega)⟩
end
end Go.Proofs.Ytalhbebpoohgkaa
