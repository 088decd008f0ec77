/-
  Texts beneath SupplyAll, part 30: RefTake4, RefTake5, SupLook.
-/
import Derived.Test.YtkopplnjomkleaaGreatPart29
/-
  The reference's Take: its Step at its Pop.
-/
namespace Go.Proofs.YtkopplnjomkleaaGreat
open Go.RowKit
open W64
set_option maxRecDepth 100000
set_option linter.unusedSimpArgs false
section
variable {w w1 w' : World} {bt b k qs ql p g qp qsr qe lk n : Nat} {F O F' O' : List Nat} {m a ch sn seen : Int} {st : List Int} {R : Lb} {c : Cf} {xs : List Int} {cnt : Int} {pv : Value} {dn : Bool} {mc : Mc} {P P' : Po}
set_option maxHeartbeats 4000000 in
/-- The Pop is not at its end. -/
theorem rtkStep_go (I : TkIn w bt b k qs ql p g qp qsr qe c lk n F O m st R (.pop seen P) ch sn xs cnt) (hf : P.fin = false) (hg : (P.go n 0 lk xs).fin = false) :
    Calls Tryz.prog 36 #[.pointer (some ⟨bt, 0, none⟩)] w fun e w' => e = .returned (.bool true) ∧ TkOut w w' bt b k qs ql p g qp qsr qe c lk n F O m st R (.pop seen (P.go n 0 lk xs)) (-1) seen (P.xs 0 xs) (wrap64 (cnt + 1)) := by
  obtain ⟨bp, v, rfl, T, hcall⟩ := rtkPopGo I hf
  have hn1 : bp ≠ bt := by obtain ⟨_, _, bp', v', e, _, _, h, _⟩ := I.tk; injection e with _ e; injection e with e _; subst e; exact h
  have HI := Lib.hid I
  have HC := Lib.hid hcall
  have HG := Lib.hid hg
  have HN := Lib.hid hn1
  have t1 := T.cell (i := 1) (v := .int .i64 1) rfl
  have t4 := T.cell (i := 4) (v := .pointer (some ⟨bp, 0, none⟩)) rfl
  have t5 := T.cell (i := 5) (v := .bool false) rfl
  clear I hcall hg hn1 T
  go_enter Tryz.func36, Tryz.ntmps36
  go_upto_region 11 with (go_at_call 88; (with_reducible refine HC.out.mono ?_); rintro e w1 ⟨rfl, v', M1⟩; have HM1 := Lib.hid M1; clear M1)
  clear t1 t4 t5
  have t4 := HM1.out.top.cell (i := 4) (v := .pointer (some ⟨bp, 0, none⟩)) rfl
  have p6 := HM1.out.pm.at_.cells.2.2.2.2.2.2
  rw [HG.out] at p6
  go_wp2_with fail
  go_ret
  exact ⟨rfl, TkMid.out HI.out HM1.out HN.out⟩
theorem ints_head {A : Option Addr} {N cp x : Nat} {r : List Nat} (J : Ints w (.slice A N cp) (I (x :: r))) : ∃ q, A = some ⟨q, 0, none⟩ ∧ N = r.length + 1 ∧ N ≤ cp ∧ w.cell? ⟨q, 0, none⟩ = some (.int .i64 (x : Int)) := by
  obtain ⟨A', c', e⟩ := J.slice
  injection e with e1 e2 e3
  subst e1 e2 e3
  have hl : (I (x :: r)).length = r.length + 1 := by rw [I_len]; rfl
  obtain ⟨q, e, hc⟩ := own_cell (j := 0) J (by omega)
  refine ⟨q, e, hl, ?_, by rw [hc]; rfl⟩
  rcases J.2 with ⟨h, h0⟩ | ⟨_, cap, _, h, _, _, hnc, _⟩
  · omega
  · injection h with _ _ h3; subst h3; exact hnc
/-- Behind the end: the machine is done with the chunk x, its stash st'. -/
theorem TkMid.done {v v' : Value} {bp : Nat} {w3 : World} {st' : List Int} {x : Int} (J : TkIn w bt b k qs ql p g qp qsr qe c lk n F (bt :: bp :: blk v) m st R (.pop seen P) ch sn xs cnt) (M : TkMid w w1 bt b k qs ql p g qp qsr qe bp c lk n F m st R seen v v' P' (P.xs 0 xs) (wrap64 (cnt + 1)))
    (T : Whole w3 bt 141 (rtkRow b 1 x seen (.pointer (some ⟨bp, 0, none⟩)) true)) (E3 : RSu w3 b k qs ql F' m st' R) (N : Next w1 F F') (X2 : Else (bt :: F) w1 w3) :
    TkOut w w3 bt b k qs ql p g qp qsr qe c lk n F (bt :: bp :: blk v) m st' R .idle x seen (P.xs 0 xs) (wrap64 (cnt + 1)) := by
  have far := J.far
  have hbt := far bt (.inr (by simp))
  have s1 := M.he.size
  have N0 : Next w F F' := fun y hy => (N y hy).imp id (fun h => by omega)
  obtain ⟨l1, l2, l3, l4⟩ := J.rp.lts
  have nb : bt ∉ F := J.dis bt (by simp)
  have nb' : bt ∉ F' := fun h => by
    rcases N0 bt h with h | h
    · exact nb h
    · obtain ⟨_, _, bp2, v2, e, T0, _⟩ := J.tk
      have := T0.lt
      omega
  refine ⟨F', [bt], ⟨E3, ⟨by simp, fun y hy => by simp at hy; subst hy; exact T.lt, _, _, T⟩, M.rp.else X2 ⟨fun h => ?_, fun h => ?_, fun h => ?_, fun h => ?_⟩, fun y hy => by simp at hy; subst hy; exact nb', ?_⟩, N0, fun y hy => .inl (by simp at hy; simp [hy]), ?_⟩
  · rcases List.mem_cons.1 h with h | h
    · exact hbt.1 h.symm
    · exact (far p (.inl h)).1 rfl
  · rcases List.mem_cons.1 h with h | h
    · exact hbt.2.1 h.symm
    · exact (far g (.inl h)).2.1 rfl
  · rcases List.mem_cons.1 h with h | h
    · exact hbt.2.2.2 h.symm
    · exact (far qp (.inl h)).2.2.2 rfl
  · rcases List.mem_cons.1 h with h | h
    · exact hbt.2.2.1 h.symm
    · exact (far k (.inl h)).2.2.1 rfl
  · exact far_next (O := bt :: bp :: blk v) N0 (fun y hy => .inl (by simp at hy; simp [hy])) far l1 l2 l3 l4
  · refine (M.he.more (fun y hy => ?_)).trans (X2.more (fun y hy => ?_))
    · simp at hy ⊢
      rcases hy with h | h | h | h | h <;> simp [h]
    · simp at hy ⊢
      rcases hy with h | h <;> simp [h]
set_option maxHeartbeats 8000000 in
/-- The Pop is at its end, with nothing. -/
theorem rtkStep_none (I : TkIn w bt b k qs ql p g qp qsr qe c lk n F O m st R (.pop seen P) ch sn xs cnt) (hf : P.fin = false) (hg : (P.go n 0 lk xs).fin = true) (hl : (P.go n 0 lk xs).l = []) :
    Calls Tryz.prog 36 #[.pointer (some ⟨bt, 0, none⟩)] w fun e w' => e = .returned (.bool true) ∧ TkOut w w' bt b k qs ql p g qp qsr qe c lk n F O m st R .idle (-1) seen (P.xs 0 xs) (wrap64 (cnt + 1)) := by
  obtain ⟨bp, v, rfl, T, hcall⟩ := rtkPopGo I hf
  have HI := Lib.hid I
  have HC := Lib.hid hcall
  have HG := Lib.hid hg
  have HL := Lib.hid hl
  have t1 := T.cell (i := 1) (v := .int .i64 1) rfl
  have t4 := T.cell (i := 4) (v := .pointer (some ⟨bp, 0, none⟩)) rfl
  have t5 := T.cell (i := 5) (v := .bool false) rfl
  clear I hcall hg T hl
  go_enter Tryz.func36, Tryz.ntmps36
  go_upto_region 11 with (go_at_call 88; (with_reducible refine HC.out.mono ?_); rintro e w1 ⟨rfl, v', M1⟩; have HM1 := Lib.hid M1; clear M1)
  clear t1 t4 t5
  have t4 := HM1.out.top.cell (i := 4) (v := .pointer (some ⟨bp, 0, none⟩)) rfl
  have p6 := HM1.out.pm.at_.cells.2.2.2.2.2.2
  rw [HG.out] at p6
  go_upto_region 14 with (go_at_call 89; (with_reducible refine (rpopGot HM1.out.pm).mono ?_); rintro e w2 ⟨o, rfl, J2, F2, U2⟩; rw [HG.out, if_pos rfl, HL.out] at J2; obtain ⟨A2, c2, rfl⟩ := J2.slice; have HM2 := Lib.hid (HM1.out.up U2); have HU2 := Lib.hid U2; clear J2 F2 U2)
  clear t4 p6
  have t5 := HM2.out.top.cell (i := 5) (v := .bool false) rfl
  have f5 := HM2.out.top.frozen 5
  go_wp2_with fail
  go_ret
  have u : Else [bt] w2 (w2.setCell ⟨bt, 5, none⟩ (.bool true)) := (Else.refl [bt] w2).set (.inl (by simp)) _
  have nb : bt ∉ F := HI.out.dis bt (by simp)
  exact ⟨rfl, TkMid.done HI.out HM2.out (HM2.out.top.set 5 (.bool true)) (HM2.out.su.else u (fun x hx => by simp; rintro rfl; exact nb hx)) (Next.refl _ _) (u.more (fun y hy => by simp at hy; simp [hy]))⟩
set_option maxHeartbeats 8000000 in
/-- The Pop is at its end: the first is the chunk, the others are given to the stash. -/
theorem rtkStep_some {x : Nat} {r : List Nat} (J : TkIn w bt b k qs ql p g qp qsr qe c lk n F O m st R (.pop seen P) ch sn xs cnt) (hf : P.fin = false) (hg : (P.go n 0 lk xs).fin = true) (hl : (P.go n 0 lk xs).l = x :: r) (hs : st.length + r.length ≤ 8000) :
    Calls Tryz.prog 36 #[.pointer (some ⟨bt, 0, none⟩)] w fun e w' => e = .returned (.bool true) ∧ TkOut w w' bt b k qs ql p g qp qsr qe c lk n F O m (st ++ I r) R .idle (x : Int) seen (P.xs 0 xs) (wrap64 (cnt + 1)) := by
  obtain ⟨bp, v, rfl, T, hcall⟩ := rtkPopGo J hf
  have HI := Lib.hid J
  have HC := Lib.hid hcall
  have HG := Lib.hid hg
  have HL := Lib.hid hl
  have HS := Lib.hid (show st.length + (I r).length ≤ 8192 by rw [I_len]; omega)
  have t1 := T.cell (i := 1) (v := .int .i64 1) rfl
  have t4 := T.cell (i := 4) (v := .pointer (some ⟨bp, 0, none⟩)) rfl
  have t5 := T.cell (i := 5) (v := .bool false) rfl
  clear J hcall hg T hl hs
  go_enter Tryz.func36, Tryz.ntmps36
  go_upto_region 11 with (go_at_call 88; (with_reducible refine HC.out.mono ?_); rintro e w1 ⟨rfl, v', M1⟩; have HM1 := Lib.hid M1; clear M1)
  clear t1 t4 t5
  have t4 := HM1.out.top.cell (i := 4) (v := .pointer (some ⟨bp, 0, none⟩)) rfl
  have p6 := HM1.out.pm.at_.cells.2.2.2.2.2.2
  rw [HG.out] at p6
  go_upto_region 14 with (go_at_call 89; (with_reducible refine (rpopGot HM1.out.pm).mono ?_); rintro e w2 ⟨o, rfl, J2, F2, U2⟩; rw [HG.out, if_pos rfl, HL.out] at J2; obtain ⟨A2, N, c2, rfl⟩ := shapeI J2; have HJ2 := Lib.hid J2; have HM2 := Lib.hid (HM1.out.up U2); have HU2 := Lib.hid U2; clear J2 F2 U2)
  clear t4 p6
  obtain ⟨q2, hA2, hN, hcap, hc2⟩ := ints_head HJ2.out
  subst hA2
  have HN := Lib.hid (And.intro hN hcap)
  have g0 : (0 : Int) < (N : Int) := by omega
  clear hN hcap
  have t2 := HM2.out.top.cell (i := 2) (v := .int .i64 (-1)) rfl
  have f2 := HM2.out.top.frozen 2
  go_upto_region 16 with fail
  have hq2 : q2 ≠ bt := fun h => by
    have := ints_off HJ2.out HM2.out.top (by decide)
    exact this (by simp [Value.ownBlock, h])
  have u3 : Else [bt] w2 (w2.setCell ⟨bt, 2, none⟩ (.int .i64 (x : Int))) := (Else.refl [bt] w2).set (.inl (by simp)) _
  have nb : bt ∉ F := HI.out.dis bt (by simp)
  have HT3 := Lib.hid (show Whole (w2.setCell ⟨bt, 2, none⟩ (.int .i64 (x : Int))) bt 141 (rtkRow b 1 (x : Int) seen (.pointer (some ⟨bp, 0, none⟩)) false) from HM2.out.top.set 2 _)
  have HE3 := Lib.hid (HM2.out.su.else u3 (fun y hy => by simp; rintro rfl; exact nb hy))
  have HJ3 := Lib.hid (HJ2.out.else u3 (fun y hy => by simp at hy; subst hy; exact ints_off HJ2.out HM2.out.top (by decide)))
  have HU3 := Lib.hid u3
  have HNB := Lib.hid nb
  clear t2 f2 hc2 hq2 u3 nb
  generalize w2.setCell ⟨bt, 2, none⟩ (.int .i64 (x : Int)) = w3 at *
  have hcut : ∀ w0, (Instr.slice 22 (.slice (some ⟨q2, 0, none⟩) N c2) (some (.int .i64 1)) none none).run Tryz.prog w0 = .ok (cutLo (some ⟨q2, 0, none⟩) 1 N c2) w0 := fun w0 => run_cutLo (some ⟨q2, 0, none⟩) N c2 1 (by have := HN.out.1; omega) w0
  have HRD := Lib.hid (show Rd w3.drew (cutLo (some ⟨q2, 0, none⟩) 1 N c2) (I r) from by
    have h := cutLo_rd (c := 1) HJ3.out.rd (by rw [I_len]; simp) HN.out.2
    exact (show Rd w3 _ (I r) from h).up (up_drew w3))
  have HE4 := Lib.hid (HE3.out.up (up_drew w3))
  have HQ := Lib.hid (show w3.drew.cell? ⟨bt, 0, none⟩ = some (.pointer (some ⟨b, 0, none⟩)) ∧ w3.drew.cell? ⟨b, 1, none⟩ = some (.pointer (some ⟨qs, 0, none⟩)) from ⟨(up_drew w3).kept (HT3.out.cell rfl), HE4.out.cells.2.1⟩)
  go_region_held3 (fun w' => w'.cell? ⟨bt, 0, none⟩ = some (.pointer (some ⟨b, 0, none⟩)) ∧ w'.cell? ⟨b, 1, none⟩ = some (.pointer (some ⟨qs, 0, none⟩)))
    ((first | with_reducible exact HQ5.out | with_reducible exact HQ.out))
    (first
      | (go_at_call 44; refine (rsuGive HE4.out HRD.out HS.out).mono ?_; rintro e w5 ⟨rfl, T5⟩; have HT5 := Lib.hid T5; have HX5 := Lib.hid (T5.choose_spec.2.2.whole (show Whole w3.drew bt 141 _ from HT3.out.up (up_drew w3)) HNB.out); have HQ5 := Lib.hid (show w5.cell? ⟨bt, 0, none⟩ = some (.pointer (some ⟨b, 0, none⟩)) ∧ w5.cell? ⟨b, 1, none⟩ = some (.pointer (some ⟨qs, 0, none⟩)) from ⟨HX5.out.cell rfl, T5.choose_spec.1.cells.2.1⟩); clear T5))
  have t5 := HX5.out.cell (i := 5) (v := .bool false) rfl
  have f5 := HX5.out.frozen 5
  go_wp2_with fail
  go_ret
  have u6 : Else [bt] w5 (w5.setCell ⟨bt, 5, none⟩ (.bool true)) := (Else.refl [bt] w5).set (.inl (by simp)) _
  obtain ⟨F5, E5, N5, X5⟩ := HT5.out
  have hbt := HT3.out.lt
  have nb5 : bt ∉ F5 := fun h => by
    rcases N5 bt h with h | h
    · exact HNB.out h
    · have : w3.drew.heap.size = w3.heap.size := rfl
      omega
  have hX : Else (bt :: F) w2 (w5.setCell ⟨bt, 5, none⟩ (.bool true)) :=
    (((HU3.out.more (fun y hy => by simp at hy; simp [hy])).trans (Else.of_up (up_drew w3))).trans (X5.more (fun y hy => by simp [hy]))).trans (u6.more (fun y hy => by simp at hy; simp [hy]))
  have hsz : w2.heap.size ≤ w3.drew.heap.size := HU3.out.size
  exact ⟨rfl, TkMid.done HI.out HM2.out (HX5.out.set 5 (.bool true)) (E5.else u6 (fun y hy => by simp; rintro rfl; exact nb5 hy)) (fun y hy => (N5 y hy).imp id (fun h => by omega)) hX⟩
end
end Go.Proofs.YtkopplnjomkleaaGreat

/-
  The reference's Take: its Step at the Load of the epoch.
-/
namespace Go.Proofs.YtkopplnjomkleaaGreat
open Go.RowKit
open W64
set_option maxRecDepth 100000
set_option linter.unusedSimpArgs false
/-- The epoch that a word tells. -/
def cutE (x : Int) : Int := if x ≤ 4611686018427387903 then x else 4611686018427387903
theorem cutE_in {x : Int} (h : 0 ≤ x) : 0 ≤ cutE x ∧ cutE x ≤ 4611686018427387903 := by unfold cutE; split <;> omega
theorem rcut_to {x y : Int} (e : cutE x = y) (h0 : 0 ≤ x) (w : World) :
    Calls Tryz.prog 84 #[.int .u64 x] w fun e w' => e = .returned (.int .i64 y) ∧ w = w' := by
  subst e
  by_cases h : x ≤ 4611686018427387903
  · have e : cutE x = x := by unfold cutE; rw [if_pos h]
    rw [e]
    have e1 : IntKind.i64.wrap x = x := IntWalk.i64_in _ (by omega)
    have h2 : ¬ 4611686018427387903 < x := by omega
    go_enter Tryz.func84, Tryz.ntmps84
    go_wp2
    go_ret
    exact ⟨ret_int (by first | rfl | exact e1 | omega), rfl⟩
  · have e : cutE x = 4611686018427387903 := by unfold cutE; rw [if_neg h]
    rw [e]
    have h2 : 4611686018427387903 < x := by omega
    go_enter Tryz.func84, Tryz.ntmps84
    go_wp2
    go_ret
    exact ⟨ret_int (by first | rfl | decide), rfl⟩
section
variable {w w1 w' : World} {bt b k qs ql p g qp qsr qe lk n : Nat} {F O F' O' : List Nat} {m a ch sn seen now : Int} {st : List Int} {R : Lb} {c : Cf} {xs : List Int} {cnt cnt' : Int} {pv : Value} {dn : Bool} {mc : Mc} {P P' : Po}
/-- Behind the Load and the Ready: what is at hand. -/
structure TkSeen (w w' : World) (bt b k qs ql p g qp qsr qe : Nat) (c : Cf) (lk n : Nat) (F : List Nat) (m : Int) (st : List Int) (R : Lb) (now : Int) (xs : List Int) (cnt : Int) (F' : List Nat) : Prop where
  su : RSu w' b k qs ql F' m st R
  top : Whole w' bt 141 (rtkRow b 0 (-1) now (.pointer none) false)
  rp : RP w' k p g qp qsr qe c lk n xs cnt
  nx : Next w F F'
  he : Else (p :: g :: bt :: F) w w'
  nb : bt ∉ F'
  fk : k ∉ F' ∧ bt ≠ k ∧ bt ≠ b
theorem TkSeen.up (M : TkSeen w w1 bt b k qs ql p g qp qsr qe c lk n F m st R now xs cnt F') (u : Up w1 w') : TkSeen w w' bt b k qs ql p g qp qsr qe c lk n F m st R now xs cnt F' := ⟨M.su.up u, M.top.up u, M.rp.up u, M.nx, M.he.up u, M.nb, M.fk⟩
theorem look_mem (J : TkIn w bt b k qs ql p g qp qsr qe c lk n F O m st R .look ch sn xs cnt) (M : Ref w1 p g xs cnt') (E : Else [p, g] w w1) :
    Whole w1 bt 141 (rtkRow b 0 (-1) (-1) (.pointer none) false) ∧ RSu w1 b k qs ql F m st R ∧ RP w1 k p g qp qsr qe c lk n xs cnt' ∧ bt ∉ F := by
  obtain ⟨rfl, _, _, T⟩ := J.tk
  have hbt := J.far bt (.inr (by simp))
  refine ⟨E.whole T (by simp [hbt.1, hbt.2.1]), J.su.else E (fun x hx => by have := J.far x (.inl hx); simp [this.1, this.2.1]), J.rp.turn M E (by simp [J.rp.kp, J.rp.kg]) (by simp [J.rp.env.np, J.rp.env.ng]) J.rp.env.ok rfl, J.dis bt (by simp)⟩
theorem look_store (J : TkIn w bt b k qs ql p g qp qsr qe c lk n F O m st R .look ch sn xs cnt) (T : Whole w1 bt 141 (rtkRow b 0 (-1) (-1) (.pointer none) false)) (S : RSu w1 b k qs ql F m st R) (Q : RP w1 k p g qp qsr qe c lk n xs cnt') (E : Else [p, g] w w1) (now : Int) :
    TkSeen w (w1.setCell ⟨bt, 3, none⟩ (.int .i64 now)) bt b k qs ql p g qp qsr qe c lk n F m st R now xs cnt' F := by
  obtain ⟨rfl, _, _, T0⟩ := J.tk
  have hbt := J.far bt (.inr (by simp))
  have nb := J.dis bt (by simp)
  have u : Else [bt] w1 (w1.setCell ⟨bt, 3, none⟩ (.int .i64 now)) := (Else.refl [bt] w1).set (.inl (by simp)) _
  have hb : b ∈ F := by obtain ⟨_, _, S⟩ := J.su; exact S.bF
  exact ⟨S.else u (fun x hx => by simp; rintro rfl; exact nb hx), T.set 3 _, Q.else u (by simp [hbt.1.symm, hbt.2.1.symm, hbt.2.2.1.symm, hbt.2.2.2.symm]), Next.refl _ _, (E.more (fun x hx => by simp at hx ⊢; rcases hx with h | h <;> simp [h])).trans (u.more (fun x hx => by simp at hx; simp [hx])), nb, fun h => (J.far k (.inl h)).2.2.1 rfl, hbt.2.2.1, fun h => nb (h ▸ hb)⟩
theorem look_ready {st' : List Int} {R' : Lb} (J : TkIn w bt b k qs ql p g qp qsr qe c lk n F O m st R .look ch sn xs cnt) (M : TkSeen w w1 bt b k qs ql p g qp qsr qe c lk n F m st R now xs cnt' F) (T : Turned w1 w' F fun F' => RSu w' b k qs ql F' m st' R') :
    ∃ F', TkSeen w w' bt b k qs ql p g qp qsr qe c lk n F m st' R' now xs cnt' F' := by
  obtain ⟨F', S, N, X⟩ := T
  have hsz := M.he.size
  obtain ⟨l1, l2, l3, l4⟩ := J.rp.lts
  have hbl := M.top.lt
  have hbw : bt < w.heap.size := by obtain ⟨rfl, _, _, T0⟩ := J.tk; exact T0.lt
  have N0 : Next w F F' := fun y hy => (N y hy).imp id (fun h => by omega)
  have nf : ∀ y, y ∉ F → y < w.heap.size → y ∉ F' := fun y h1 h2 h => by
    rcases N0 y h with h | h
    · exact h1 h
    · omega
  refine ⟨F', S, X.whole M.top M.nb, M.rp.else X ⟨fun h => (J.far p (.inl h)).1 rfl, fun h => (J.far g (.inl h)).2.1 rfl, fun h => (J.far qp (.inl h)).2.2.2 rfl, fun h => (J.far k (.inl h)).2.2.1 rfl⟩, N0, M.he.trans (X.more (fun y hy => by simp [hy])), nf bt M.nb hbw, nf k M.fk.1 l3, M.fk.2⟩
end
end Go.Proofs.YtkopplnjomkleaaGreat

/-
  Package supply: a Take's access at the Load of the epoch (loadEpoch); its Step, whole.
-/
namespace Go.Proofs.YtkopplnjomkleaaGreat
open Go.RowKit
open W64
set_option maxRecDepth 100000
set_option linter.unusedSimpArgs false
section
variable {w w1 w' : World} {bt b p g q qs ql lk n bp most : Nat} {F F' O : List Nat} {m ba sn ch now : Int} {st ys zs : List Int} {R R' : Lb} {s s' : St} {v : Value} {mc : Mc}
/-- Behind the Load, and behind the Ready: what is at hand. -/
structure UTkSeen (w w' : World) (bt b p g q lk n : Nat) (s' : St) (ba : Int) (qs ql : Nat) (F : List Nat) (m : Int) (st : List Int) (R : Lb) (now : Int) (F' : List Nat) : Prop where
  su : PSu w' b (suRow p q ba qs ql) qs ql F' m st R
  top : Whole w' bt 127 (utRow (meth 67 bt) b (.pointer none) now 0 false)
  env : Env w' p g q 0 lk n s'
  nx : Next w F F'
  he : Else (p :: g :: bt :: F) w w'
  nb : bt ∉ F'
theorem UTkSeen.up (M : UTkSeen w w1 bt b p g q lk n s' ba qs ql F m st R now F') (u : Up w1 w') : UTkSeen w w' bt b p g q lk n s' ba qs ql F m st R now F' := ⟨M.su.up u, M.top.up u, M.env.up u, M.nx, M.he.up u, M.nb⟩
theorem UTkSeen.looks (M : UTkSeen w w1 bt b p g q lk n s' ba qs ql F m st R now F') (u : Up w1 w') : w'.cell? ⟨bt, 1, none⟩ = some (.pointer (some ⟨b, 0, none⟩)) ∧ w'.cell? ⟨bt, 3, none⟩ = some (.int .i64 now) := ⟨u.kept (M.top.cell rfl), u.kept (M.top.cell rfl)⟩
theorem ulook_mem (J : UTkIn w bt b p g q lk n s ba qs ql F O m st R .look ch sn) (M : Mem w1 p g (s.hit 1 ((2 : Nat) : Int) (s.get ((2 : Nat) : Int)) true)) (E : Else [p, g] w w1) :
    UTkSeen w w1 bt b p g q lk n (s.hit 1 ((2 : Nat) : Int) (s.get ((2 : Nat) : Int)) true) ba qs ql F m st R (-1) F := by
  obtain ⟨rfl, _, _, T⟩ := J.tk
  have hbt := J.far bt (.inr (by simp))
  exact ⟨J.su.else E (fun x hx => by have := J.far x (.inl hx); simp [this.1, this.2.1]), E.whole T (by simp [hbt.1, hbt.2.1]), J.env.read M E (by simp [J.env.np, J.env.ng]), Next.refl _ _, E.more (fun x hx => by simp at hx ⊢; rcases hx with h | h <;> simp [h]), J.dis bt (by simp)⟩
theorem ulook_store (J : UTkIn w bt b p g q lk n s ba qs ql F O m st R .look ch sn) (M : UTkSeen w w1 bt b p g q lk n s' ba qs ql F m st R (-1) F) (now : Int) :
    UTkSeen w (w1.setCell ⟨bt, 3, none⟩ (.int .i64 now)) bt b p g q lk n s' ba qs ql F m st R now F := by
  obtain ⟨rfl, _, _, T0⟩ := J.tk
  have hbt := J.far bt (.inr (by simp))
  have u : Else [bt] w1 (w1.setCell ⟨bt, 3, none⟩ (.int .i64 now)) := (Else.refl [bt] w1).set (.inl (by simp)) _
  exact ⟨M.su.else u (fun x hx => by simp; rintro rfl; exact M.nb hx), M.top.set 3 _, M.env.else u (by simp; exact hbt.1.symm) (by simp; exact hbt.2.1.symm) (by simp; exact hbt.2.2.symm), M.nx, M.he.trans (u.more (fun x hx => by simp at hx; simp [hx])), M.nb⟩
theorem ulook_ready {st' : List Int} (J : UTkIn w bt b p g q lk n s ba qs ql F O m st R .look ch sn) (M : UTkSeen w w1 bt b p g q lk n s' ba qs ql F m st R now F) (T : Turned w1 w' F fun F' => PSu w' b (suRow p q ba qs ql) qs ql F' m st' R') :
    ∃ F', UTkSeen w w' bt b p g q lk n s' ba qs ql F m st' R' now F' := by
  obtain ⟨F', S, N, X⟩ := T
  have hsz := M.he.size
  have hbw : bt < w.heap.size := by obtain ⟨rfl, _, _, T0⟩ := J.tk; exact T0.lt
  have N0 : Next w F F' := fun y hy => (N y hy).imp id (fun h => by omega)
  refine ⟨F', S, X.whole M.top M.nb, M.env.else X (fun h => (J.far p (.inl h)).1 rfl) (fun h => (J.far g (.inl h)).2.1 rfl) (fun h => (J.far q (.inl h)).2.2 rfl), N0, M.he.trans (X.more (fun y hy => by simp [hy])), fun h => ?_⟩
  rcases N0 bt h with h | h
  · exact M.nb h
  · omega
theorem ulook_done {y : Int} {st' : List Int} {w3 : World} {pv : Value} (J : UTkIn w bt b p g q lk n s ba qs ql F O m st R .look ch sn) (M : UTkSeen w w3 bt b p g q lk n s' ba qs ql F m zs R' now F') (hy : 0 ≤ y) (T : Whole w' bt 127 (utRow .nilFunc b pv now y true))
    (U : Turned w3 w' (bt :: F') fun F2 => ∃ F'', F2 = bt :: F'' ∧ PSu w' b (suRow p q ba qs ql) qs ql F'' m st' R' ∧ bt ∉ F'') : UTkOut w w' bt b p g q lk n s'.c s'.xs ba qs ql F O m st' R' .idle y now := by
  obtain ⟨rfl, _, _, T0⟩ := J.tk
  obtain ⟨_, ⟨F'', rfl, S, nb⟩, N, X⟩ := U
  have hsz := M.he.size
  obtain ⟨l1, l2, l3⟩ := J.env.lts
  have hbt := J.far bt (.inr (by simp))
  have hF' : ∀ y, y ∈ bt :: F' → y ∈ F ∨ y = bt ∨ w.heap.size ≤ y := fun y hy => by
    rcases List.mem_cons.1 hy with h | h
    · exact .inr (.inl h)
    · rcases M.nx y h with h | h
      · exact .inl h
      · exact .inr (.inr h)
  have N0 : Next w F F'' := fun y hy => by
    rcases N y (by simp [hy]) with h | h
    · rcases hF' y h with h | h | h
      · exact .inl h
      · exact absurd (h ▸ hy) nb
      · exact .inr h
    · exact .inr (by omega)
  have na : ∀ z, z < w.heap.size → z ∉ F → z ≠ bt → z ∉ bt :: F' := fun z h1 h2 h3 h => by
    rcases hF' z h with h | h | h
    · exact h2 h
    · exact h3 h
    · omega
  refine ⟨F'', [bt], s', rfl, rfl, ⟨S, ⟨by simp, fun z hz => by simp at hz; subst hz; exact T.lt, pv, by rw [show chI y = y by unfold chI; rw [if_neg (by omega)], show chB y = true by unfold chB; exact decide_eq_true hy]; exact T⟩, M.env.else X (na p l1 (fun h => (J.far p (.inl h)).1 rfl) hbt.1.symm) (na g l2 (fun h => (J.far g (.inl h)).2.1 rfl) hbt.2.1.symm) (na q l3 (fun h => (J.far q (.inl h)).2.2 rfl) hbt.2.2.symm), fun z hz => by simp at hz; subst hz; exact nb, ufar_next N0 (Next.refl _ _) J.far l1 l2 l3⟩, N0, Next.refl _ _, ?_⟩
  refine Else.into (M.he.more (fun y hy => by simp at hy ⊢; rcases hy with h | h | h | h <;> simp [h])) X (fun y hy => ?_)
  rcases hF' y hy with h | h | h
  · exact .inl (by simp [h])
  · exact .inl (by simp [h])
  · exact .inr h
theorem ulook_pop {w3 : World} (J : UTkIn w bt b p g q lk n s ba qs ql F O m st R .look ch sn) (M : UTkSeen w w3 bt b p g q lk n s' ba qs ql F m zs R' now F') (T : Whole w' bt 127 (utRow (meth 113 bt) b (.pointer (some ⟨bp, 0, none⟩)) now 0 false))
    (Q : PoM w' bp q n (.slice none 0 0) (Po.new most)) (hb : w3.heap.size ≤ bp) (X : Else [bt] w3 w') : UTkOut w w' bt b p g q lk n s'.c s'.xs ba qs ql F O m zs R' (.pop now (Po.new most)) (-1) now := by
  obtain ⟨rfl, _, _, T0⟩ := J.tk
  have hsz := M.he.size
  have h3 := M.top.lt
  obtain ⟨l1, l2, l3⟩ := J.env.lts
  have hbt := J.far bt (.inr (by simp))
  have NO : Next w [bt] (bt :: bp :: blk (.slice none 0 0)) := fun y hy => by
    simp [blk, Value.ownBlock] at hy
    rcases hy with h | h
    · exact .inl (by simp [h])
    · exact .inr (by omega)
  refine ⟨F', bt :: bp :: blk (.slice none 0 0), s', rfl, rfl, ⟨M.su.else X (fun y hy => by simp; rintro rfl; exact M.nb hy), ⟨rfl, rfl, bp, _, rfl, T, Q, by omega, by simp [Value.ownBlock], by simp [Value.ownBlock]⟩, M.env.else X (by simp; exact hbt.1.symm) (by simp; exact hbt.2.1.symm) (by simp; exact hbt.2.2.symm), fun y hy h => ?_, ufar_next M.nx NO J.far l1 l2 l3⟩, M.nx, NO, (M.he.more (fun y hy => by simp at hy ⊢; rcases hy with h | h | h | h <;> simp [h])).trans (X.more (fun y hy => by simp at hy; simp [hy]))⟩
  simp [blk, Value.ownBlock] at hy
  rcases hy with e | e
  · exact M.nb (e ▸ h)
  · have := M.su.lt y h; omega
theorem ulook_xs (s : St) : (s.hit 1 ((2 : Nat) : Int) (s.get ((2 : Nat) : Int)) true).xs = s.xs ∧ (s.hit 1 ((2 : Nat) : Int) (s.get ((2 : Nat) : Int)) true).c = wrap64 (s.c + 1) := ⟨read_xs _ _ _ _, rfl⟩
set_option maxHeartbeats 8000000 in
/-- Something is ready: it is done. -/
theorem utkLook_yes {y : Int} (J : UTkIn w bt b p g q lk n s ba qs ql F O m [] R .look ch sn) (hx : cutE (s.xs.getD 2 0) = now) (h2 : 2 < s.xs.length) (hr : R.outs now = ys ++ [y]) (hy : 0 ≤ y) (hs : R.size ≤ 8000) (hl : (R.outs now).length ≤ 8000) :
    Calls Tryz.prog 67 #[.pointer (some ⟨bt, 0, none⟩)] w fun e w' => e = .returned (.tuple #[]) ∧ UTkOut w w' bt b p g q lk n (wrap64 (s.c + 1)) s.xs ba qs ql F O m ys (R.rest now) .idle y now := by
  have hw := J.env.ok.words 2
  have hn := cutE_in hw.1
  rw [hx] at hn
  obtain ⟨x, hxx⟩ : ∃ x, s.xs.getD 2 0 = x := ⟨_, rfl⟩
  rw [hxx] at hw hx
  have HJ := Lib.hid J
  have HX := Lib.hid hxx
  have H2 := Lib.hid h2
  have HR := Lib.hid hr
  obtain ⟨d, hd⟩ : ∃ d, (R.outs now).length = d := ⟨_, rfl⟩
  have HD := Lib.hid hd
  have HS := Lib.hid (show R.size ≤ 8000 ∧ ([] : List Int).length + (R.outs now).length ≤ 8192 from ⟨hs, by simp; omega⟩)
  have HY := Lib.hid hy
  have T0 : Whole w bt 127 (utRow (meth 67 bt) b (.pointer none) (-1) 0 false) := by obtain ⟨_, _, _, T⟩ := J.tk; exact T
  have t1 := T0.cell (i := 1) (v := .pointer (some ⟨b, 0, none⟩)) rfl
  obtain ⟨c0, _, _, _, _⟩ := J.su.cells (Up.refl _)
  clear J h2 hr hs hl hxx T0 hn hd hy
  by_cases hc : x ≤ 4611686018427387903
  · have e0 : now = x := by rw [← hx]; unfold cutE; rw [if_pos hc]
    have h3 : ¬ 4611686018427387903 < x := by omega
    have e1 : IntKind.i64.wrap x = x := IntWalk.i64_in _ (by omega)
    clear hx hc hw
    subst e0
    go_enter Tryz.func67, Tryz.ntmps67
    go_upto_region 2 with (first
      | (go_at_call 110; (with_reducible refine (loadj_to (j := 2) two_is HJ.out.env.mem H2.out HX.out).mono ?_); rintro e w1 ⟨rfl, M1, E1⟩; have HM1 := Lib.hid (ulook_mem HJ.out M1 E1); have s3 := HM1.out.top.cell (i := 3) (v := .int .i64 (-1)) rfl; have f3 := HM1.out.top.frozen 3; clear M1 E1))
    clear t1 c0 s3 f3
    have HS2 := Lib.hid (ulook_store HJ.out HM1.out now)
    generalize w1.setCell ⟨bt, 3, none⟩ (.int .i64 now) = w2 at *
    have HQ := Lib.hid (HS2.out.looks (up_drew w2))
    have HU := Lib.hid (HS2.out.up (up_drew w2))
    go_region_held3 (fun w' => w'.cell? ⟨bt, 1, none⟩ = some (.pointer (some ⟨b, 0, none⟩)) ∧ w'.cell? ⟨bt, 3, none⟩ = some (.int .i64 now))
      ((first | with_reducible exact HQ3.out | with_reducible exact HQ.out))
      (first
        | (go_at_call 49; (with_reducible refine (suReady HU.out.su _ HS.out.1 HS.out.2 HD.out).mono ?_); rintro e w3 ⟨rfl, T3⟩; obtain ⟨F3, M3⟩ := ulook_ready HJ.out HU.out T3; have HM3 := Lib.hid M3; have HQ3 := Lib.hid (M3.looks (Up.refl _)); clear T3 M3))
    have HE3 := Lib.hid (show PSu w3 b (suRow p q ba qs ql) qs ql F3 m (ys ++ [y]) (R.rest now) by have h := HM3.out.su; rw [HR.out] at h; simpa using h)
    go_wp2_with (go_at_call 68; refine (utkKept HE3.out HM3.out.top HM3.out.nb).mono ?_; rintro e w4 ⟨rfl, T4, U4⟩; have HT4 := Lib.hid T4; have HU4 := Lib.hid U4; clear T4 U4)
    go_end0
    have h := ulook_done HJ.out HM3.out HY.out HT4.out HU4.out
    rw [(ulook_xs s).1, (ulook_xs s).2] at h
    exact ⟨rfl, h⟩
  · have e0 : now = 4611686018427387903 := by rw [← hx]; unfold cutE; rw [if_neg hc]
    have h3 : 4611686018427387903 < x := by omega
    clear hx hc hw
    subst e0
    go_enter Tryz.func67, Tryz.ntmps67
    go_upto_region 2 with (first
      | (go_at_call 110; (with_reducible refine (loadj_to (j := 2) two_is HJ.out.env.mem H2.out HX.out).mono ?_); rintro e w1 ⟨rfl, M1, E1⟩; have HM1 := Lib.hid (ulook_mem HJ.out M1 E1); have s3 := HM1.out.top.cell (i := 3) (v := .int .i64 (-1)) rfl; have f3 := HM1.out.top.frozen 3; clear M1 E1))
    clear t1 c0 s3 f3
    have HS2 := Lib.hid (ulook_store HJ.out HM1.out 4611686018427387903)
    generalize w1.setCell ⟨bt, 3, none⟩ (.int .i64 4611686018427387903) = w2 at *
    have HQ := Lib.hid (HS2.out.looks (up_drew w2))
    have HU := Lib.hid (HS2.out.up (up_drew w2))
    go_region_held3 (fun w' => w'.cell? ⟨bt, 1, none⟩ = some (.pointer (some ⟨b, 0, none⟩)) ∧ w'.cell? ⟨bt, 3, none⟩ = some (.int .i64 4611686018427387903))
      ((first | with_reducible exact HQ3.out | with_reducible exact HQ.out))
      (first
        | (go_at_call 49; (with_reducible refine (suReady HU.out.su _ HS.out.1 HS.out.2 HD.out).mono ?_); rintro e w3 ⟨rfl, T3⟩; obtain ⟨F3, M3⟩ := ulook_ready HJ.out HU.out T3; have HM3 := Lib.hid M3; have HQ3 := Lib.hid (M3.looks (Up.refl _)); clear T3 M3))
    have HE3 := Lib.hid (show PSu w3 b (suRow p q ba qs ql) qs ql F3 m (ys ++ [y]) (R.rest 4611686018427387903) by have h := HM3.out.su; rw [HR.out] at h; simpa using h)
    go_wp2_with (go_at_call 68; refine (utkKept HE3.out HM3.out.top HM3.out.nb).mono ?_; rintro e w4 ⟨rfl, T4, U4⟩; have HT4 := Lib.hid T4; have HU4 := Lib.hid U4; clear T4 U4)
    go_end0
    have h := ulook_done HJ.out HM3.out HY.out HT4.out HU4.out
    rw [(ulook_xs s).1, (ulook_xs s).2] at h
    exact ⟨rfl, h⟩
set_option maxHeartbeats 8000000 in
/-- Nothing is ready: the Pop comes next. -/
theorem utkLook_pop (J : UTkIn w bt b p g q lk n s ba qs ql F O m [] R .look ch sn) (hx : cutE (s.xs.getD 2 0) = now) (h2 : 2 < s.xs.length) (hr : R.outs now = []) (hm : min (max ba 1) 8 = most) (hs : R.size ≤ 8000) (hl : (R.outs now).length ≤ 8000) :
    Calls Tryz.prog 67 #[.pointer (some ⟨bt, 0, none⟩)] w fun e w' => e = .returned (.tuple #[]) ∧ UTkOut w w' bt b p g q lk n (wrap64 (s.c + 1)) s.xs ba qs ql F O m [] (R.rest now) (.pop now (Po.new most)) (-1) now := by
  have hw := J.env.ok.words 2
  have hn := cutE_in hw.1
  rw [hx] at hn
  obtain ⟨x, hxx⟩ : ∃ x, s.xs.getD 2 0 = x := ⟨_, rfl⟩
  rw [hxx] at hw hx
  have HJ := Lib.hid J
  have HX := Lib.hid hxx
  have H2 := Lib.hid h2
  have HR := Lib.hid hr
  obtain ⟨d, hd⟩ : ∃ d, (R.outs now).length = d := ⟨_, rfl⟩
  have HD := Lib.hid hd
  have HS := Lib.hid (show R.size ≤ 8000 ∧ ([] : List Int).length + (R.outs now).length ≤ 8192 from ⟨hs, by simp; omega⟩)
  have HM := Lib.hid hm
  have T0 : Whole w bt 127 (utRow (meth 67 bt) b (.pointer none) (-1) 0 false) := by obtain ⟨_, _, _, T⟩ := J.tk; exact T
  have t1 := T0.cell (i := 1) (v := .pointer (some ⟨b, 0, none⟩)) rfl
  obtain ⟨c0, _, _, _, _⟩ := J.su.cells (Up.refl _)
  clear J h2 hr hs hl hxx T0 hn hd hm
  by_cases hc : x ≤ 4611686018427387903
  · have e0 : now = x := by rw [← hx]; unfold cutE; rw [if_pos hc]
    have h3 : ¬ 4611686018427387903 < x := by omega
    have e1 : IntKind.i64.wrap x = x := IntWalk.i64_in _ (by omega)
    clear hx hc hw
    subst e0
    go_enter Tryz.func67, Tryz.ntmps67
    go_upto_region 2 with (first
      | (go_at_call 110; (with_reducible refine (loadj_to (j := 2) two_is HJ.out.env.mem H2.out HX.out).mono ?_); rintro e w1 ⟨rfl, M1, E1⟩; have HM1 := Lib.hid (ulook_mem HJ.out M1 E1); have s3 := HM1.out.top.cell (i := 3) (v := .int .i64 (-1)) rfl; have f3 := HM1.out.top.frozen 3; clear M1 E1))
    clear t1 c0 s3 f3
    have HS2 := Lib.hid (ulook_store HJ.out HM1.out now)
    generalize w1.setCell ⟨bt, 3, none⟩ (.int .i64 now) = w2 at *
    have HQ := Lib.hid (HS2.out.looks (up_drew w2))
    have HU := Lib.hid (HS2.out.up (up_drew w2))
    go_region_held3 (fun w' => w'.cell? ⟨bt, 1, none⟩ = some (.pointer (some ⟨b, 0, none⟩)) ∧ w'.cell? ⟨bt, 3, none⟩ = some (.int .i64 now))
      ((first | with_reducible exact HQ3.out | with_reducible exact HQ.out))
      (first
        | (go_at_call 49; (with_reducible refine (suReady HU.out.su _ HS.out.1 HS.out.2 HD.out).mono ?_); rintro e w3 ⟨rfl, T3⟩; obtain ⟨F3, M3⟩ := ulook_ready HJ.out HU.out T3; have HM3 := Lib.hid M3; have HQ3 := Lib.hid (M3.looks (Up.refl _)); clear T3 M3))
    have HE3 := Lib.hid (show PSu w3 b (suRow p q ba qs ql) qs ql F3 m [] (R.rest now) by have h := HM3.out.su; rw [HR.out] at h; simpa using h)
    go_wp2_with (go_at_call 68; refine (utkPool HE3.out HM3.out.top HM3.out.nb HM.out n).mono ?_; rintro e w4 ⟨rfl, bp, T4, M4, b4, X4⟩; have HT4 := Lib.hid T4; have HM4 := Lib.hid M4; have HB4 := Lib.hid b4; have HX4 := Lib.hid X4; clear T4 M4 b4 X4)
    go_end0
    have M5 : UTkSeen w w3 bt b p g q lk n _ ba qs ql F m [] (R.rest now) now F3 := ⟨HE3.out, HM3.out.top, HM3.out.env, HM3.out.nx, HM3.out.he, HM3.out.nb⟩
    have h := ulook_pop HJ.out M5 HT4.out HM4.out HB4.out HX4.out
    rw [(ulook_xs s).1, (ulook_xs s).2] at h
    exact ⟨rfl, h⟩
  · have e0 : now = 4611686018427387903 := by rw [← hx]; unfold cutE; rw [if_neg hc]
    have h3 : 4611686018427387903 < x := by omega
    clear hx hc hw
    subst e0
    go_enter Tryz.func67, Tryz.ntmps67
    go_upto_region 2 with (first
      | (go_at_call 110; (with_reducible refine (loadj_to (j := 2) two_is HJ.out.env.mem H2.out HX.out).mono ?_); rintro e w1 ⟨rfl, M1, E1⟩; have HM1 := Lib.hid (ulook_mem HJ.out M1 E1); have s3 := HM1.out.top.cell (i := 3) (v := .int .i64 (-1)) rfl; have f3 := HM1.out.top.frozen 3; clear M1 E1))
    clear t1 c0 s3 f3
    have HS2 := Lib.hid (ulook_store HJ.out HM1.out 4611686018427387903)
    generalize w1.setCell ⟨bt, 3, none⟩ (.int .i64 4611686018427387903) = w2 at *
    have HQ := Lib.hid (HS2.out.looks (up_drew w2))
    have HU := Lib.hid (HS2.out.up (up_drew w2))
    go_region_held3 (fun w' => w'.cell? ⟨bt, 1, none⟩ = some (.pointer (some ⟨b, 0, none⟩)) ∧ w'.cell? ⟨bt, 3, none⟩ = some (.int .i64 4611686018427387903))
      ((first | with_reducible exact HQ3.out | with_reducible exact HQ.out))
      (first
        | (go_at_call 49; (with_reducible refine (suReady HU.out.su _ HS.out.1 HS.out.2 HD.out).mono ?_); rintro e w3 ⟨rfl, T3⟩; obtain ⟨F3, M3⟩ := ulook_ready HJ.out HU.out T3; have HM3 := Lib.hid M3; have HQ3 := Lib.hid (M3.looks (Up.refl _)); clear T3 M3))
    have HE3 := Lib.hid (show PSu w3 b (suRow p q ba qs ql) qs ql F3 m [] (R.rest 4611686018427387903) by have h := HM3.out.su; rw [HR.out] at h; simpa using h)
    go_wp2_with (go_at_call 68; refine (utkPool HE3.out HM3.out.top HM3.out.nb HM.out n).mono ?_; rintro e w4 ⟨rfl, bp, T4, M4, b4, X4⟩; have HT4 := Lib.hid T4; have HM4 := Lib.hid M4; have HB4 := Lib.hid b4; have HX4 := Lib.hid X4; clear T4 M4 b4 X4)
    go_end0
    have M5 : UTkSeen w w3 bt b p g q lk n _ ba qs ql F m [] (R.rest 4611686018427387903) 4611686018427387903 F3 := ⟨HE3.out, HM3.out.top, HM3.out.env, HM3.out.nx, HM3.out.he, HM3.out.nb⟩
    have h := ulook_pop HJ.out M5 HT4.out HM4.out HB4.out HX4.out
    rw [(ulook_xs s).1, (ulook_xs s).2] at h
    exact ⟨rfl, h⟩
end
end Go.Proofs.YtkopplnjomkleaaGreat
