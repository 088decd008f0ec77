/-
  LayMay: each number of a configuration at its last place may be, and beyond it may not; of what may not be there are no cells.
-/
import Derived.Test.YtfimnhajokecbaaRows
import Derived.Test.YtfimnhajokecbaaLayLaws
import Derived.Test.YtfimnhajokecbaaConfig
import Derived.Test.YtfimnhajokecbaaOpen
import Derived.Test.YtfimnhajokecbaaTake
import Derived.WalkKit
import Derived.ProofKit
import Derived.OpenShut
import Derived.ShutString
import Derived.ChangeOld
import Derived.Below
import Derived.Carry
import Derived.Lib.SmallJoins
import Derived.Deep.DeepCutAuto
import Derived.Deep.CutBlock
namespace Go.Proofs.Ytfimnhajokecbaa.layMay
open Go.ChangeShapes Go.WideShapes Go.ChangeAt Go.RowKit Go.Joins Go.Proofs.Ytfimnhajokecbaa W64
open Go.ChangeMaps (open_string shut_string)
set_option linter.unusedVariables false

theorem own : ownKnob Try.prog.godebug = none := by kernel_rfl
theorem laidOut : laidOutB Try.prog = true := by kernel_rfl

abbrev mostC : Cf := ⟨64, 4096, 1024, 4096, 64, 8⟩
abbrev leastC : Cf := ⟨1, 1, 8, 1, 0, 1⟩
theorem two_with {W w' : World} {b d : Nat} (h : mostC.At W b) (k : leastC.At W d) (u : Up W w') :
  w'.cell? ⟨b, 0, none⟩ = some (.int .i64 64) ∧ w'.cell? ⟨b, 1, none⟩ = some (.int .i64 4096) ∧ w'.cell? ⟨b, 2, none⟩ = some (.int .i64 1024) ∧ w'.cell? ⟨b, 3, none⟩ = some (.int .i64 4096) ∧ w'.cell? ⟨b, 4, none⟩ = some (.int .i64 64) ∧ w'.cell? ⟨b, 5, none⟩ = some (.int .i64 8) ∧ w'.cell? ⟨d, 0, none⟩ = some (.int .i64 1) ∧ w'.cell? ⟨d, 1, none⟩ = some (.int .i64 1) ∧ w'.cell? ⟨d, 2, none⟩ = some (.int .i64 8) ∧ w'.cell? ⟨d, 3, none⟩ = some (.int .i64 1) ∧ w'.cell? ⟨d, 4, none⟩ = some (.int .i64 0) ∧ w'.cell? ⟨d, 5, none⟩ = some (.int .i64 1) ∧ Up W w' := by
  obtain ⟨h0, h1, h2, h3, h4, h5⟩ := h.up u
  obtain ⟨k0, k1, k2, k3, k4, k5⟩ := k.up u
  exact ⟨h0, h1, h2, h3, h4, h5, k0, k1, k2, k3, k4, k5, u⟩
/-- The variable c, behind its making: a configuration in a block of its own, that may be written. -/
def Made (W : World) (c : Cf) (s : Value) (w' : World) : Prop :=
  ∃ g, s = .pointer (some ⟨g, 0, none⟩) ∧ W.heap.size ≤ g ∧ c.At w' g ∧ (∀ i, w'.frozen? ⟨g, i, none⟩ = false) ∧ Up W w'
theorem made_last {W : World} {c : Cf} {o : Obj} {n : Nat} (hn : n = W.heap.size + 1) : Made W c (.pointer (some ⟨n, 0, none⟩)) ((W.alloc o).alloc c.box).drew := by
  have e : (W.alloc o).heap.size = W.heap.size + 1 := by simp
  have h := (c.at_new (W.alloc o)).up (up_drew _)
  rw [e, ← hn] at h
  refine ⟨n, rfl, by omega, h, fun i => ?_, ((Up.alloc _ _).then_alloc _).then_drew⟩
  show ((W.alloc o).alloc c.box).frozen? ⟨n, i, none⟩ = false
  exact World.frozen?_alloc_at _ _ _ _ (by rw [e, hn])
theorem made_early {W : World} {c : Cf} {o : Obj} {n : Nat} (hn : n = W.heap.size) : Made W c (.pointer (some ⟨n, 0, none⟩)) ((W.alloc c.box).alloc o).drew := by
  subst hn
  have h := ((c.at_new W).up (Up.alloc _ o)).up (up_drew _)
  refine ⟨_, rfl, Nat.le_refl _, h, fun i => ?_, ((Up.alloc _ _).then_alloc _).then_drew⟩
  show ((W.alloc c.box).alloc o).frozen? ⟨W.heap.size, i, none⟩ = false
  rw [World.frozen?_alloc_past _ _ _ (by simp)]
  exact World.frozen?_alloc_at _ _ _ _ rfl
theorem At.set0 {c : Cf} {w : World} {g : Nat} (h : c.At w g) (x : Int) : Cf.At { c with wk := x } (w.setCell ⟨g, 0, none⟩ (.int .i64 x)) g := by
  obtain ⟨h0, h1, h2, h3, h4, h5⟩ := h
  exact ⟨World.cell?_setCell_same _ _ _ h0, (World.cell?_setCell_other _ _ _ _ (by simp)).trans h1, (World.cell?_setCell_other _ _ _ _ (by simp)).trans h2, (World.cell?_setCell_other _ _ _ _ (by simp)).trans h3, (World.cell?_setCell_other _ _ _ _ (by simp)).trans h4, (World.cell?_setCell_other _ _ _ _ (by simp)).trans h5⟩
theorem At.set1 {c : Cf} {w : World} {g : Nat} (h : c.At w g) (x : Int) : Cf.At { c with ch := x } (w.setCell ⟨g, 1, none⟩ (.int .i64 x)) g := by
  obtain ⟨h0, h1, h2, h3, h4, h5⟩ := h
  exact ⟨(World.cell?_setCell_other _ _ _ _ (by simp)).trans h0, World.cell?_setCell_same _ _ _ h1, (World.cell?_setCell_other _ _ _ _ (by simp)).trans h2, (World.cell?_setCell_other _ _ _ _ (by simp)).trans h3, (World.cell?_setCell_other _ _ _ _ (by simp)).trans h4, (World.cell?_setCell_other _ _ _ _ (by simp)).trans h5⟩
theorem At.set2 {c : Cf} {w : World} {g : Nat} (h : c.At w g) (x : Int) : Cf.At { c with wo := x } (w.setCell ⟨g, 2, none⟩ (.int .i64 x)) g := by
  obtain ⟨h0, h1, h2, h3, h4, h5⟩ := h
  exact ⟨(World.cell?_setCell_other _ _ _ _ (by simp)).trans h0, (World.cell?_setCell_other _ _ _ _ (by simp)).trans h1, World.cell?_setCell_same _ _ _ h2, (World.cell?_setCell_other _ _ _ _ (by simp)).trans h3, (World.cell?_setCell_other _ _ _ _ (by simp)).trans h4, (World.cell?_setCell_other _ _ _ _ (by simp)).trans h5⟩
theorem At.set3 {c : Cf} {w : World} {g : Nat} (h : c.At w g) (x : Int) : Cf.At { c with sl := x } (w.setCell ⟨g, 3, none⟩ (.int .i64 x)) g := by
  obtain ⟨h0, h1, h2, h3, h4, h5⟩ := h
  exact ⟨(World.cell?_setCell_other _ _ _ _ (by simp)).trans h0, (World.cell?_setCell_other _ _ _ _ (by simp)).trans h1, (World.cell?_setCell_other _ _ _ _ (by simp)).trans h2, World.cell?_setCell_same _ _ _ h3, (World.cell?_setCell_other _ _ _ _ (by simp)).trans h4, (World.cell?_setCell_other _ _ _ _ (by simp)).trans h5⟩
theorem At.set4 {c : Cf} {w : World} {g : Nat} (h : c.At w g) (x : Int) : Cf.At { c with ca := x } (w.setCell ⟨g, 4, none⟩ (.int .i64 x)) g := by
  obtain ⟨h0, h1, h2, h3, h4, h5⟩ := h
  exact ⟨(World.cell?_setCell_other _ _ _ _ (by simp)).trans h0, (World.cell?_setCell_other _ _ _ _ (by simp)).trans h1, (World.cell?_setCell_other _ _ _ _ (by simp)).trans h2, (World.cell?_setCell_other _ _ _ _ (by simp)).trans h3, World.cell?_setCell_same _ _ _ h4, (World.cell?_setCell_other _ _ _ _ (by simp)).trans h5⟩
theorem At.set5 {c : Cf} {w : World} {g : Nat} (h : c.At w g) (x : Int) : Cf.At { c with ba := x } (w.setCell ⟨g, 5, none⟩ (.int .i64 x)) g := by
  obtain ⟨h0, h1, h2, h3, h4, h5⟩ := h
  exact ⟨(World.cell?_setCell_other _ _ _ _ (by simp)).trans h0, (World.cell?_setCell_other _ _ _ _ (by simp)).trans h1, (World.cell?_setCell_other _ _ _ _ (by simp)).trans h2, (World.cell?_setCell_other _ _ _ _ (by simp)).trans h3, (World.cell?_setCell_other _ _ _ _ (by simp)).trans h4, World.cell?_setCell_same _ _ _ h5⟩
/-- The variable c, behind the switch: a configuration that may not be. -/
def Bent (W : World) (g : Nat) (w' : World) : Prop := ∃ c : Cf, c.At w' g ∧ mayB c = false ∧ Up W w'
theorem bent_of {W w' : World} {g : Nat} {c : Cf} (h : c.At w' g) (hb : ¬ c.May) (hu : Up W w') : Bent W g w' := ⟨c, h, mayB_not.2 hb, hu⟩
abbrev oddC (o : Int) : Cf := ⟨1, 1, 9 + o, 1, 0, 1⟩
theorem odd_not {o : Int} (h0 : 0 ≤ o) (h1 : o < 7) : mayB (oddC o) = false := mayB_not.2 fun ⟨_, _, ⟨_, _, h⟩, _⟩ => by
  have : (9 + o) % 8 = 0 := h
  omega
theorem most_may : mayB mostC = true := by decide
theorem least_may : mayB leastC = true := by decide
theorem most_len : lenN mostC = 4206659 := by decide
theorem least_len : lenN leastC = 15 := by decide
theorem far_set {c : Cf} {w : World} {b g i : Nat} {v : Value} (h : c.At w b) (hn : b < g) : c.At (w.setCell ⟨g, i, none⟩ v) b := by
  obtain ⟨h0, h1, h2, h3, h4, h5⟩ := h
  exact ⟨(World.cell?_setCell_other _ _ _ _ (fun hh => by injection hh; omega)).trans h0, (World.cell?_setCell_other _ _ _ _ (fun hh => by injection hh; omega)).trans h1, (World.cell?_setCell_other _ _ _ _ (fun hh => by injection hh; omega)).trans h2, (World.cell?_setCell_other _ _ _ _ (fun hh => by injection hh; omega)).trans h3, (World.cell?_setCell_other _ _ _ _ (fun hh => by injection hh; omega)).trans h4, (World.cell?_setCell_other _ _ _ _ (fun hh => by injection hh; omega)).trans h5⟩
theorem no_word {c : Cf} (h : mayB c = false) (k i : Int) : wordN c k i = -1 := wordN_no (.inl h)
theorem no_pin {c : Cf} (h : mayB c = false) (i : Int) : pinN c i = -1 := atN_no (.inl h)

set_option maxHeartbeats 4000000 in
set_option maxRecDepth 100000 in
theorem walk (a0 : Int) (a1 : Int) (w : World) (w0 : (Lit.int .i64 a0).wf = true) (w1 : (Lit.int .i64 a1).wf = true) :
    Calls Try.prog 6 #[.int .i64 a0, .int .i64 a1] w fun e w' => e = .returned (.bool true) ∧ Up w w' := by
  clear w0 w1
  obtain ⟨j, J0, _, j0, j1⟩ := emod_letter a0 2 (by decide)
  obtain ⟨m, M0, _, m0, m1⟩ := emod_letter (wrap64 (a0.tdiv 2)) 6 (by decide)
  obtain ⟨k, K0, _, k0, k1⟩ := emod_letter a1 1000 (by decide)
  obtain ⟨o, O0, _, o0, o1⟩ := emod_letter a1 7 (by decide)
  have J := Lib.hid J0
  have M := Lib.hid M0
  have KK := Lib.hid K0
  have O := Lib.hid O0
  clear J0 M0 K0 O0
  rcases (show j = 0 ∨ j = 1 by omega) with rfl | rfl
  · go_enter Try.func6, Try.ntmps6
    go_upto_region 7 with (first
      | (go_at_call 7; refine (first_any _).mono ?_; rintro e w1 ⟨rfl, u1⟩)
      | (go_at_call 25; (with_reducible refine (number_is KK.out (by decide) (by decide) _).mono ?_); rintro e w' ⟨rfl, rfl⟩))
    have hm : mostC.At ((w1.alloc mostC.box).alloc leastC.box) w1.heap.size := (mostC.at_new w1).up (Up.alloc _ _)
    have hl : leastC.At ((w1.alloc mostC.box).alloc leastC.box) (w1.heap.size + 1) := by
      have h := leastC.at_new (w1.alloc mostC.box)
      rwa [show (w1.alloc mostC.box).heap.size = w1.heap.size + 1 by simp] at h
    go_cut [9] (fun s9 wx => Made ((w1.alloc mostC.box).alloc leastC.box) mostC s9 wx)
    case first =>
      refine wp_region_noPanic ?_
      refine wp_region_held_drew (S := fun w' => w'.cell? ⟨w1.heap.size, 0, none⟩ = some (.int .i64 64) ∧ w'.cell? ⟨w1.heap.size, 1, none⟩ = some (.int .i64 4096) ∧ w'.cell? ⟨w1.heap.size, 2, none⟩ = some (.int .i64 1024) ∧ w'.cell? ⟨w1.heap.size, 3, none⟩ = some (.int .i64 4096) ∧ w'.cell? ⟨w1.heap.size, 4, none⟩ = some (.int .i64 64) ∧ w'.cell? ⟨w1.heap.size, 5, none⟩ = some (.int .i64 8) ∧ w'.cell? ⟨w1.heap.size + 1, 0, none⟩ = some (.int .i64 1) ∧ w'.cell? ⟨w1.heap.size + 1, 1, none⟩ = some (.int .i64 1) ∧ w'.cell? ⟨w1.heap.size + 1, 2, none⟩ = some (.int .i64 8) ∧ w'.cell? ⟨w1.heap.size + 1, 3, none⟩ = some (.int .i64 1) ∧ w'.cell? ⟨w1.heap.size + 1, 4, none⟩ = some (.int .i64 0) ∧ w'.cell? ⟨w1.heap.size + 1, 5, none⟩ = some (.int .i64 1) ∧ Up ((w1.alloc mostC.box).alloc leastC.box) w') (by kernel_rfl) ?_ (fun hHeld => ?_)
      · (refine two_with hm hl ?_; (repeat (first | (with_reducible exact Up.refl _) | (with_reducible refine Up.then_drew ?_) | (with_reducible refine Up.then_alloc ?_ _) | refine Up.setCell ?_ (by simp) _)))
      apply take_yes (i := 0) (oi := ⟨some 19, _, _, _, _, _⟩) rfl (by kernel_rfl) (by kernel_rfl) (by kernel_rfl) (by rfl) (by assumption)
      · (intro wz hSw; (try dsimp only at hSw); go_simp; (try (with_reducible rfl)))
      try simp only [Act.put, List.setIfInBounds_toArray, List.set_cons_zero, List.set_cons_succ]
      apply take_yes (i := 1) (oi := ⟨some 20, _, _, _, _, _⟩) rfl (by kernel_rfl) (by kernel_rfl) (by kernel_rfl) (by rfl) (by assumption)
      · (intro wz hSw; (try dsimp only at hSw); go_simp; (try (with_reducible rfl)))
      try simp only [Act.put, List.setIfInBounds_toArray, List.set_cons_zero, List.set_cons_succ]
      apply take_yes (i := 3) (oi := ⟨some 22, _, _, _, _, _⟩) rfl (by kernel_rfl) (by kernel_rfl) (by kernel_rfl) (by rfl) (by assumption)
      · (intro wz hSw; (try dsimp only at hSw); go_simp; (try (with_reducible rfl)))
      try simp only [Act.put, List.setIfInBounds_toArray, List.set_cons_zero, List.set_cons_succ]
      refine wpAnyH_ready (rs := [2, 4, 7]) (by kernel_rfl) (by simp) ?_
      refine AllReadyH.cons (o := ⟨some 21, _, _, _, _, _⟩) rfl (fun K hK => ?_) ?_
      · go_simp
        refine hK.out _ _ ?_ (fun hHeld2 => ?_)
        · (refine two_with hm hl ?_; (repeat (first | (with_reducible exact Up.refl _) | (with_reducible refine Up.then_drew ?_) | (with_reducible refine Up.then_alloc ?_ _) | refine Up.setCell ?_ (by simp) _)))
        clear hK K hHeld
        have hHeld := hHeld2
        clear hHeld2
        try simp only [Act.put, List.setIfInBounds_toArray, List.set_cons_zero, List.set_cons_succ]
        refine wpAnyH_ready (rs := [4, 7]) (by kernel_rfl) (by simp) ?_
        refine AllReadyH.cons (o := ⟨some 23, _, _, _, _, _⟩) rfl (fun K hK => ?_) ?_
        · go_simp
          (go_at_call 25; (with_reducible refine (number_is J.out (by decide) (by decide) _).mono ?_); rintro e w' ⟨rfl, rfl⟩)
          go_wp2_with fail
          refine hK.out _ _ ?_ (fun hHeld2 => ?_)
          · (refine two_with hm hl ?_; (repeat (first | (with_reducible exact Up.refl _) | (with_reducible refine Up.then_drew ?_) | (with_reducible refine Up.then_alloc ?_ _) | refine Up.setCell ?_ (by simp) _)))
          clear hK K hHeld
          have hHeld := hHeld2
          clear hHeld2
          try simp only [Act.put, List.setIfInBounds_toArray, List.set_cons_zero, List.set_cons_succ]
          apply take_yes (i := 5) (oi := ⟨some 24, _, _, _, _, _⟩) rfl (by kernel_rfl) (by kernel_rfl) (by kernel_rfl) (by rfl) (by assumption)
          · (intro wz hSw; (try dsimp only at hSw); go_simp; (try (with_reducible rfl)))
          try simp only [Act.put, List.setIfInBounds_toArray, List.set_cons_zero, List.set_cons_succ]
          refine wpAnyH_ready (rs := [6, 7]) (by kernel_rfl) (by simp) ?_
          refine AllReadyH.cons (o := ⟨some 25, _, _, _, _, _⟩) rfl (fun K hK => ?_) ?_
          · go_simp
            refine hK.out _ _ ?_ (fun hHeld2 => ?_)
            · (refine two_with hm hl ?_; (repeat (first | (with_reducible exact Up.refl _) | (with_reducible refine Up.then_drew ?_) | (with_reducible refine Up.then_alloc ?_ _) | refine Up.setCell ?_ (by simp) _)))
            clear hK K hHeld
            have hHeld := hHeld2
            clear hHeld2
            try simp only [Act.put, List.setIfInBounds_toArray, List.set_cons_zero, List.set_cons_succ]
            refine wpAnyH_ready (rs := [7]) (by kernel_rfl) (by simp) ?_
            refine AllReadyH.cons (o := ⟨some 9, _, _, _, _, _⟩) rfl (fun K hK => ?_) ?_
            · go_simp
              refine hK.out _ _ ?_ (fun hHeld2 => ?_)
              · (refine two_with hm hl ?_; (repeat (first | (with_reducible exact Up.refl _) | (with_reducible refine Up.then_drew ?_) | (with_reducible refine Up.then_alloc ?_ _) | refine Up.setCell ?_ (by simp) _)))
              clear hK K hHeld
              have hHeld := hHeld2
              clear hHeld2
              try simp only [Act.put, List.setIfInBounds_toArray, List.set_cons_zero, List.set_cons_succ]
              refine wpAnyH_ready (rs := [8]) (by kernel_rfl) (by simp) ?_
              refine AllReadyH.cons (o := ⟨none, _, _, _, _, _⟩) rfl (fun K hK => ?_) ?_
              · go_simp
                refine hK.out _ _ ?_ (fun hHeld2 => ?_)
                · (refine two_with hm hl ?_; (repeat (first | (with_reducible exact Up.refl _) | (with_reducible refine Up.then_drew ?_) | (with_reducible refine Up.then_alloc ?_ _) | refine Up.setCell ?_ (by simp) _)))
                clear hK K hHeld
                have hHeld := hHeld2
                clear hHeld2
                try simp only [Act.put, List.setIfInBounds_toArray, List.set_cons_zero, List.set_cons_succ]
                refine wpAnyH_done (by kernel_rfl) ?_ _
                refine NoPanic.normal ?_
                go_wp2_with fail
                go_meet
                first | exact made_last (by simp) | exact made_early (by simp)
              exact AllReadyH.nil
            exact AllReadyH.nil
          refine AllReadyH.cons (o := ⟨some 9, _, _, _, _, _⟩) rfl (fun K hK => ?_) ?_
          · go_simp
            refine hK.out _ _ ?_ (fun hHeld2 => ?_)
            · (refine two_with hm hl ?_; (repeat (first | (with_reducible exact Up.refl _) | (with_reducible refine Up.then_drew ?_) | (with_reducible refine Up.then_alloc ?_ _) | refine Up.setCell ?_ (by simp) _)))
            clear hK K hHeld
            have hHeld := hHeld2
            clear hHeld2
            try simp only [Act.put, List.setIfInBounds_toArray, List.set_cons_zero, List.set_cons_succ]
            refine wpAnyH_ready (rs := [6]) (by kernel_rfl) (by simp) ?_
            refine AllReadyH.cons (o := ⟨some 25, _, _, _, _, _⟩) rfl (fun K hK => ?_) ?_
            · go_simp
              refine hK.out _ _ ?_ (fun hHeld2 => ?_)
              · (refine two_with hm hl ?_; (repeat (first | (with_reducible exact Up.refl _) | (with_reducible refine Up.then_drew ?_) | (with_reducible refine Up.then_alloc ?_ _) | refine Up.setCell ?_ (by simp) _)))
              clear hK K hHeld
              have hHeld := hHeld2
              clear hHeld2
              try simp only [Act.put, List.setIfInBounds_toArray, List.set_cons_zero, List.set_cons_succ]
              refine wpAnyH_ready (rs := [8]) (by kernel_rfl) (by simp) ?_
              refine AllReadyH.cons (o := ⟨none, _, _, _, _, _⟩) rfl (fun K hK => ?_) ?_
              · go_simp
                refine hK.out _ _ ?_ (fun hHeld2 => ?_)
                · (refine two_with hm hl ?_; (repeat (first | (with_reducible exact Up.refl _) | (with_reducible refine Up.then_drew ?_) | (with_reducible refine Up.then_alloc ?_ _) | refine Up.setCell ?_ (by simp) _)))
                clear hK K hHeld
                have hHeld := hHeld2
                clear hHeld2
                try simp only [Act.put, List.setIfInBounds_toArray, List.set_cons_zero, List.set_cons_succ]
                refine wpAnyH_done (by kernel_rfl) ?_ _
                refine NoPanic.normal ?_
                go_wp2_with fail
                go_meet
                first | exact made_last (by simp) | exact made_early (by simp)
              exact AllReadyH.nil
            exact AllReadyH.nil
          exact AllReadyH.nil
        refine AllReadyH.cons (o := ⟨some 9, _, _, _, _, _⟩) rfl (fun K hK => ?_) ?_
        · go_simp
          refine hK.out _ _ ?_ (fun hHeld2 => ?_)
          · (refine two_with hm hl ?_; (repeat (first | (with_reducible exact Up.refl _) | (with_reducible refine Up.then_drew ?_) | (with_reducible refine Up.then_alloc ?_ _) | refine Up.setCell ?_ (by simp) _)))
          clear hK K hHeld
          have hHeld := hHeld2
          clear hHeld2
          try simp only [Act.put, List.setIfInBounds_toArray, List.set_cons_zero, List.set_cons_succ]
          refine wpAnyH_ready (rs := [4]) (by kernel_rfl) (by simp) ?_
          refine AllReadyH.cons (o := ⟨some 23, _, _, _, _, _⟩) rfl (fun K hK => ?_) ?_
          · go_simp
            (go_at_call 25; (with_reducible refine (number_is J.out (by decide) (by decide) _).mono ?_); rintro e w' ⟨rfl, rfl⟩)
            go_wp2_with fail
            refine hK.out _ _ ?_ (fun hHeld2 => ?_)
            · (refine two_with hm hl ?_; (repeat (first | (with_reducible exact Up.refl _) | (with_reducible refine Up.then_drew ?_) | (with_reducible refine Up.then_alloc ?_ _) | refine Up.setCell ?_ (by simp) _)))
            clear hK K hHeld
            have hHeld := hHeld2
            clear hHeld2
            try simp only [Act.put, List.setIfInBounds_toArray, List.set_cons_zero, List.set_cons_succ]
            apply take_yes (i := 5) (oi := ⟨some 24, _, _, _, _, _⟩) rfl (by kernel_rfl) (by kernel_rfl) (by kernel_rfl) (by rfl) (by assumption)
            · (intro wz hSw; (try dsimp only at hSw); go_simp; (try (with_reducible rfl)))
            try simp only [Act.put, List.setIfInBounds_toArray, List.set_cons_zero, List.set_cons_succ]
            refine wpAnyH_ready (rs := [6]) (by kernel_rfl) (by simp) ?_
            refine AllReadyH.cons (o := ⟨some 25, _, _, _, _, _⟩) rfl (fun K hK => ?_) ?_
            · go_simp
              refine hK.out _ _ ?_ (fun hHeld2 => ?_)
              · (refine two_with hm hl ?_; (repeat (first | (with_reducible exact Up.refl _) | (with_reducible refine Up.then_drew ?_) | (with_reducible refine Up.then_alloc ?_ _) | refine Up.setCell ?_ (by simp) _)))
              clear hK K hHeld
              have hHeld := hHeld2
              clear hHeld2
              try simp only [Act.put, List.setIfInBounds_toArray, List.set_cons_zero, List.set_cons_succ]
              refine wpAnyH_ready (rs := [8]) (by kernel_rfl) (by simp) ?_
              refine AllReadyH.cons (o := ⟨none, _, _, _, _, _⟩) rfl (fun K hK => ?_) ?_
              · go_simp
                refine hK.out _ _ ?_ (fun hHeld2 => ?_)
                · (refine two_with hm hl ?_; (repeat (first | (with_reducible exact Up.refl _) | (with_reducible refine Up.then_drew ?_) | (with_reducible refine Up.then_alloc ?_ _) | refine Up.setCell ?_ (by simp) _)))
                clear hK K hHeld
                have hHeld := hHeld2
                clear hHeld2
                try simp only [Act.put, List.setIfInBounds_toArray, List.set_cons_zero, List.set_cons_succ]
                refine wpAnyH_done (by kernel_rfl) ?_ _
                refine NoPanic.normal ?_
                go_wp2_with fail
                go_meet
                first | exact made_last (by simp) | exact made_early (by simp)
              exact AllReadyH.nil
            exact AllReadyH.nil
          exact AllReadyH.nil
        exact AllReadyH.nil
      refine AllReadyH.cons (o := ⟨some 23, _, _, _, _, _⟩) rfl (fun K hK => ?_) ?_
      · go_simp
        (go_at_call 25; (with_reducible refine (number_is J.out (by decide) (by decide) _).mono ?_); rintro e w' ⟨rfl, rfl⟩)
        go_wp2_with fail
        refine hK.out _ _ ?_ (fun hHeld2 => ?_)
        · (refine two_with hm hl ?_; (repeat (first | (with_reducible exact Up.refl _) | (with_reducible refine Up.then_drew ?_) | (with_reducible refine Up.then_alloc ?_ _) | refine Up.setCell ?_ (by simp) _)))
        clear hK K hHeld
        have hHeld := hHeld2
        clear hHeld2
        try simp only [Act.put, List.setIfInBounds_toArray, List.set_cons_zero, List.set_cons_succ]
        refine wpAnyH_ready (rs := [2, 7]) (by kernel_rfl) (by simp) ?_
        refine AllReadyH.cons (o := ⟨some 21, _, _, _, _, _⟩) rfl (fun K hK => ?_) ?_
        · go_simp
          refine hK.out _ _ ?_ (fun hHeld2 => ?_)
          · (refine two_with hm hl ?_; (repeat (first | (with_reducible exact Up.refl _) | (with_reducible refine Up.then_drew ?_) | (with_reducible refine Up.then_alloc ?_ _) | refine Up.setCell ?_ (by simp) _)))
          clear hK K hHeld
          have hHeld := hHeld2
          clear hHeld2
          try simp only [Act.put, List.setIfInBounds_toArray, List.set_cons_zero, List.set_cons_succ]
          apply take_yes (i := 5) (oi := ⟨some 24, _, _, _, _, _⟩) rfl (by kernel_rfl) (by kernel_rfl) (by kernel_rfl) (by rfl) (by assumption)
          · (intro wz hSw; (try dsimp only at hSw); go_simp; (try (with_reducible rfl)))
          try simp only [Act.put, List.setIfInBounds_toArray, List.set_cons_zero, List.set_cons_succ]
          refine wpAnyH_ready (rs := [6, 7]) (by kernel_rfl) (by simp) ?_
          refine AllReadyH.cons (o := ⟨some 25, _, _, _, _, _⟩) rfl (fun K hK => ?_) ?_
          · go_simp
            refine hK.out _ _ ?_ (fun hHeld2 => ?_)
            · (refine two_with hm hl ?_; (repeat (first | (with_reducible exact Up.refl _) | (with_reducible refine Up.then_drew ?_) | (with_reducible refine Up.then_alloc ?_ _) | refine Up.setCell ?_ (by simp) _)))
            clear hK K hHeld
            have hHeld := hHeld2
            clear hHeld2
            try simp only [Act.put, List.setIfInBounds_toArray, List.set_cons_zero, List.set_cons_succ]
            refine wpAnyH_ready (rs := [7]) (by kernel_rfl) (by simp) ?_
            refine AllReadyH.cons (o := ⟨some 9, _, _, _, _, _⟩) rfl (fun K hK => ?_) ?_
            · go_simp
              refine hK.out _ _ ?_ (fun hHeld2 => ?_)
              · (refine two_with hm hl ?_; (repeat (first | (with_reducible exact Up.refl _) | (with_reducible refine Up.then_drew ?_) | (with_reducible refine Up.then_alloc ?_ _) | refine Up.setCell ?_ (by simp) _)))
              clear hK K hHeld
              have hHeld := hHeld2
              clear hHeld2
              try simp only [Act.put, List.setIfInBounds_toArray, List.set_cons_zero, List.set_cons_succ]
              refine wpAnyH_ready (rs := [8]) (by kernel_rfl) (by simp) ?_
              refine AllReadyH.cons (o := ⟨none, _, _, _, _, _⟩) rfl (fun K hK => ?_) ?_
              · go_simp
                refine hK.out _ _ ?_ (fun hHeld2 => ?_)
                · (refine two_with hm hl ?_; (repeat (first | (with_reducible exact Up.refl _) | (with_reducible refine Up.then_drew ?_) | (with_reducible refine Up.then_alloc ?_ _) | refine Up.setCell ?_ (by simp) _)))
                clear hK K hHeld
                have hHeld := hHeld2
                clear hHeld2
                try simp only [Act.put, List.setIfInBounds_toArray, List.set_cons_zero, List.set_cons_succ]
                refine wpAnyH_done (by kernel_rfl) ?_ _
                refine NoPanic.normal ?_
                go_wp2_with fail
                go_meet
                first | exact made_last (by simp) | exact made_early (by simp)
              exact AllReadyH.nil
            exact AllReadyH.nil
          refine AllReadyH.cons (o := ⟨some 9, _, _, _, _, _⟩) rfl (fun K hK => ?_) ?_
          · go_simp
            refine hK.out _ _ ?_ (fun hHeld2 => ?_)
            · (refine two_with hm hl ?_; (repeat (first | (with_reducible exact Up.refl _) | (with_reducible refine Up.then_drew ?_) | (with_reducible refine Up.then_alloc ?_ _) | refine Up.setCell ?_ (by simp) _)))
            clear hK K hHeld
            have hHeld := hHeld2
            clear hHeld2
            try simp only [Act.put, List.setIfInBounds_toArray, List.set_cons_zero, List.set_cons_succ]
            refine wpAnyH_ready (rs := [6]) (by kernel_rfl) (by simp) ?_
            refine AllReadyH.cons (o := ⟨some 25, _, _, _, _, _⟩) rfl (fun K hK => ?_) ?_
            · go_simp
              refine hK.out _ _ ?_ (fun hHeld2 => ?_)
              · (refine two_with hm hl ?_; (repeat (first | (with_reducible exact Up.refl _) | (with_reducible refine Up.then_drew ?_) | (with_reducible refine Up.then_alloc ?_ _) | refine Up.setCell ?_ (by simp) _)))
              clear hK K hHeld
              have hHeld := hHeld2
              clear hHeld2
              try simp only [Act.put, List.setIfInBounds_toArray, List.set_cons_zero, List.set_cons_succ]
              refine wpAnyH_ready (rs := [8]) (by kernel_rfl) (by simp) ?_
              refine AllReadyH.cons (o := ⟨none, _, _, _, _, _⟩) rfl (fun K hK => ?_) ?_
              · go_simp
                refine hK.out _ _ ?_ (fun hHeld2 => ?_)
                · (refine two_with hm hl ?_; (repeat (first | (with_reducible exact Up.refl _) | (with_reducible refine Up.then_drew ?_) | (with_reducible refine Up.then_alloc ?_ _) | refine Up.setCell ?_ (by simp) _)))
                clear hK K hHeld
                have hHeld := hHeld2
                clear hHeld2
                try simp only [Act.put, List.setIfInBounds_toArray, List.set_cons_zero, List.set_cons_succ]
                refine wpAnyH_done (by kernel_rfl) ?_ _
                refine NoPanic.normal ?_
                go_wp2_with fail
                go_meet
                first | exact made_last (by simp) | exact made_early (by simp)
              exact AllReadyH.nil
            exact AllReadyH.nil
          exact AllReadyH.nil
        refine AllReadyH.cons (o := ⟨some 9, _, _, _, _, _⟩) rfl (fun K hK => ?_) ?_
        · go_simp
          refine hK.out _ _ ?_ (fun hHeld2 => ?_)
          · (refine two_with hm hl ?_; (repeat (first | (with_reducible exact Up.refl _) | (with_reducible refine Up.then_drew ?_) | (with_reducible refine Up.then_alloc ?_ _) | refine Up.setCell ?_ (by simp) _)))
          clear hK K hHeld
          have hHeld := hHeld2
          clear hHeld2
          try simp only [Act.put, List.setIfInBounds_toArray, List.set_cons_zero, List.set_cons_succ]
          refine wpAnyH_ready (rs := [2]) (by kernel_rfl) (by simp) ?_
          refine AllReadyH.cons (o := ⟨some 21, _, _, _, _, _⟩) rfl (fun K hK => ?_) ?_
          · go_simp
            refine hK.out _ _ ?_ (fun hHeld2 => ?_)
            · (refine two_with hm hl ?_; (repeat (first | (with_reducible exact Up.refl _) | (with_reducible refine Up.then_drew ?_) | (with_reducible refine Up.then_alloc ?_ _) | refine Up.setCell ?_ (by simp) _)))
            clear hK K hHeld
            have hHeld := hHeld2
            clear hHeld2
            try simp only [Act.put, List.setIfInBounds_toArray, List.set_cons_zero, List.set_cons_succ]
            apply take_yes (i := 5) (oi := ⟨some 24, _, _, _, _, _⟩) rfl (by kernel_rfl) (by kernel_rfl) (by kernel_rfl) (by rfl) (by assumption)
            · (intro wz hSw; (try dsimp only at hSw); go_simp; (try (with_reducible rfl)))
            try simp only [Act.put, List.setIfInBounds_toArray, List.set_cons_zero, List.set_cons_succ]
            refine wpAnyH_ready (rs := [6]) (by kernel_rfl) (by simp) ?_
            refine AllReadyH.cons (o := ⟨some 25, _, _, _, _, _⟩) rfl (fun K hK => ?_) ?_
            · go_simp
              refine hK.out _ _ ?_ (fun hHeld2 => ?_)
              · (refine two_with hm hl ?_; (repeat (first | (with_reducible exact Up.refl _) | (with_reducible refine Up.then_drew ?_) | (with_reducible refine Up.then_alloc ?_ _) | refine Up.setCell ?_ (by simp) _)))
              clear hK K hHeld
              have hHeld := hHeld2
              clear hHeld2
              try simp only [Act.put, List.setIfInBounds_toArray, List.set_cons_zero, List.set_cons_succ]
              refine wpAnyH_ready (rs := [8]) (by kernel_rfl) (by simp) ?_
              refine AllReadyH.cons (o := ⟨none, _, _, _, _, _⟩) rfl (fun K hK => ?_) ?_
              · go_simp
                refine hK.out _ _ ?_ (fun hHeld2 => ?_)
                · (refine two_with hm hl ?_; (repeat (first | (with_reducible exact Up.refl _) | (with_reducible refine Up.then_drew ?_) | (with_reducible refine Up.then_alloc ?_ _) | refine Up.setCell ?_ (by simp) _)))
                clear hK K hHeld
                have hHeld := hHeld2
                clear hHeld2
                try simp only [Act.put, List.setIfInBounds_toArray, List.set_cons_zero, List.set_cons_succ]
                refine wpAnyH_done (by kernel_rfl) ?_ _
                refine NoPanic.normal ?_
                go_wp2_with fail
                go_meet
                first | exact made_last (by simp) | exact made_early (by simp)
              exact AllReadyH.nil
            exact AllReadyH.nil
          exact AllReadyH.nil
        exact AllReadyH.nil
      refine AllReadyH.cons (o := ⟨some 9, _, _, _, _, _⟩) rfl (fun K hK => ?_) ?_
      · go_simp
        refine hK.out _ _ ?_ (fun hHeld2 => ?_)
        · (refine two_with hm hl ?_; (repeat (first | (with_reducible exact Up.refl _) | (with_reducible refine Up.then_drew ?_) | (with_reducible refine Up.then_alloc ?_ _) | refine Up.setCell ?_ (by simp) _)))
        clear hK K hHeld
        have hHeld := hHeld2
        clear hHeld2
        try simp only [Act.put, List.setIfInBounds_toArray, List.set_cons_zero, List.set_cons_succ]
        refine wpAnyH_ready (rs := [2, 4]) (by kernel_rfl) (by simp) ?_
        refine AllReadyH.cons (o := ⟨some 21, _, _, _, _, _⟩) rfl (fun K hK => ?_) ?_
        · go_simp
          refine hK.out _ _ ?_ (fun hHeld2 => ?_)
          · (refine two_with hm hl ?_; (repeat (first | (with_reducible exact Up.refl _) | (with_reducible refine Up.then_drew ?_) | (with_reducible refine Up.then_alloc ?_ _) | refine Up.setCell ?_ (by simp) _)))
          clear hK K hHeld
          have hHeld := hHeld2
          clear hHeld2
          try simp only [Act.put, List.setIfInBounds_toArray, List.set_cons_zero, List.set_cons_succ]
          refine wpAnyH_ready (rs := [4]) (by kernel_rfl) (by simp) ?_
          refine AllReadyH.cons (o := ⟨some 23, _, _, _, _, _⟩) rfl (fun K hK => ?_) ?_
          · go_simp
            (go_at_call 25; (with_reducible refine (number_is J.out (by decide) (by decide) _).mono ?_); rintro e w' ⟨rfl, rfl⟩)
            go_wp2_with fail
            refine hK.out _ _ ?_ (fun hHeld2 => ?_)
            · (refine two_with hm hl ?_; (repeat (first | (with_reducible exact Up.refl _) | (with_reducible refine Up.then_drew ?_) | (with_reducible refine Up.then_alloc ?_ _) | refine Up.setCell ?_ (by simp) _)))
            clear hK K hHeld
            have hHeld := hHeld2
            clear hHeld2
            try simp only [Act.put, List.setIfInBounds_toArray, List.set_cons_zero, List.set_cons_succ]
            apply take_yes (i := 5) (oi := ⟨some 24, _, _, _, _, _⟩) rfl (by kernel_rfl) (by kernel_rfl) (by kernel_rfl) (by rfl) (by assumption)
            · (intro wz hSw; (try dsimp only at hSw); go_simp; (try (with_reducible rfl)))
            try simp only [Act.put, List.setIfInBounds_toArray, List.set_cons_zero, List.set_cons_succ]
            refine wpAnyH_ready (rs := [6]) (by kernel_rfl) (by simp) ?_
            refine AllReadyH.cons (o := ⟨some 25, _, _, _, _, _⟩) rfl (fun K hK => ?_) ?_
            · go_simp
              refine hK.out _ _ ?_ (fun hHeld2 => ?_)
              · (refine two_with hm hl ?_; (repeat (first | (with_reducible exact Up.refl _) | (with_reducible refine Up.then_drew ?_) | (with_reducible refine Up.then_alloc ?_ _) | refine Up.setCell ?_ (by simp) _)))
              clear hK K hHeld
              have hHeld := hHeld2
              clear hHeld2
              try simp only [Act.put, List.setIfInBounds_toArray, List.set_cons_zero, List.set_cons_succ]
              refine wpAnyH_ready (rs := [8]) (by kernel_rfl) (by simp) ?_
              refine AllReadyH.cons (o := ⟨none, _, _, _, _, _⟩) rfl (fun K hK => ?_) ?_
              · go_simp
                refine hK.out _ _ ?_ (fun hHeld2 => ?_)
                · (refine two_with hm hl ?_; (repeat (first | (with_reducible exact Up.refl _) | (with_reducible refine Up.then_drew ?_) | (with_reducible refine Up.then_alloc ?_ _) | refine Up.setCell ?_ (by simp) _)))
                clear hK K hHeld
                have hHeld := hHeld2
                clear hHeld2
                try simp only [Act.put, List.setIfInBounds_toArray, List.set_cons_zero, List.set_cons_succ]
                refine wpAnyH_done (by kernel_rfl) ?_ _
                refine NoPanic.normal ?_
                go_wp2_with fail
                go_meet
                first | exact made_last (by simp) | exact made_early (by simp)
              exact AllReadyH.nil
            exact AllReadyH.nil
          exact AllReadyH.nil
        refine AllReadyH.cons (o := ⟨some 23, _, _, _, _, _⟩) rfl (fun K hK => ?_) ?_
        · go_simp
          (go_at_call 25; (with_reducible refine (number_is J.out (by decide) (by decide) _).mono ?_); rintro e w' ⟨rfl, rfl⟩)
          go_wp2_with fail
          refine hK.out _ _ ?_ (fun hHeld2 => ?_)
          · (refine two_with hm hl ?_; (repeat (first | (with_reducible exact Up.refl _) | (with_reducible refine Up.then_drew ?_) | (with_reducible refine Up.then_alloc ?_ _) | refine Up.setCell ?_ (by simp) _)))
          clear hK K hHeld
          have hHeld := hHeld2
          clear hHeld2
          try simp only [Act.put, List.setIfInBounds_toArray, List.set_cons_zero, List.set_cons_succ]
          refine wpAnyH_ready (rs := [2]) (by kernel_rfl) (by simp) ?_
          refine AllReadyH.cons (o := ⟨some 21, _, _, _, _, _⟩) rfl (fun K hK => ?_) ?_
          · go_simp
            refine hK.out _ _ ?_ (fun hHeld2 => ?_)
            · (refine two_with hm hl ?_; (repeat (first | (with_reducible exact Up.refl _) | (with_reducible refine Up.then_drew ?_) | (with_reducible refine Up.then_alloc ?_ _) | refine Up.setCell ?_ (by simp) _)))
            clear hK K hHeld
            have hHeld := hHeld2
            clear hHeld2
            try simp only [Act.put, List.setIfInBounds_toArray, List.set_cons_zero, List.set_cons_succ]
            apply take_yes (i := 5) (oi := ⟨some 24, _, _, _, _, _⟩) rfl (by kernel_rfl) (by kernel_rfl) (by kernel_rfl) (by rfl) (by assumption)
            · (intro wz hSw; (try dsimp only at hSw); go_simp; (try (with_reducible rfl)))
            try simp only [Act.put, List.setIfInBounds_toArray, List.set_cons_zero, List.set_cons_succ]
            refine wpAnyH_ready (rs := [6]) (by kernel_rfl) (by simp) ?_
            refine AllReadyH.cons (o := ⟨some 25, _, _, _, _, _⟩) rfl (fun K hK => ?_) ?_
            · go_simp
              refine hK.out _ _ ?_ (fun hHeld2 => ?_)
              · (refine two_with hm hl ?_; (repeat (first | (with_reducible exact Up.refl _) | (with_reducible refine Up.then_drew ?_) | (with_reducible refine Up.then_alloc ?_ _) | refine Up.setCell ?_ (by simp) _)))
              clear hK K hHeld
              have hHeld := hHeld2
              clear hHeld2
              try simp only [Act.put, List.setIfInBounds_toArray, List.set_cons_zero, List.set_cons_succ]
              refine wpAnyH_ready (rs := [8]) (by kernel_rfl) (by simp) ?_
              refine AllReadyH.cons (o := ⟨none, _, _, _, _, _⟩) rfl (fun K hK => ?_) ?_
              · go_simp
                refine hK.out _ _ ?_ (fun hHeld2 => ?_)
                · (refine two_with hm hl ?_; (repeat (first | (with_reducible exact Up.refl _) | (with_reducible refine Up.then_drew ?_) | (with_reducible refine Up.then_alloc ?_ _) | refine Up.setCell ?_ (by simp) _)))
                clear hK K hHeld
                have hHeld := hHeld2
                clear hHeld2
                try simp only [Act.put, List.setIfInBounds_toArray, List.set_cons_zero, List.set_cons_succ]
                refine wpAnyH_done (by kernel_rfl) ?_ _
                refine NoPanic.normal ?_
                go_wp2_with fail
                go_meet
                first | exact made_last (by simp) | exact made_early (by simp)
              exact AllReadyH.nil
            exact AllReadyH.nil
          exact AllReadyH.nil
        exact AllReadyH.nil
      exact AllReadyH.nil
    case rest =>
      obtain ⟨g, rfl, hg, hcat, hfz, hU⟩ := hcut
      replace hm := hm.up hU
      replace hl := hl.up hU
      have hU' := Lib.hid hU
      clear hU
      have hg' : w1.heap.size + 1 + 1 ≤ g := by simpa using hg
      go_upto_block 0 with (first
        | (go_at_call 25; (with_reducible refine (number_is J.out (by decide) (by decide) _).mono ?_); rintro e w' ⟨rfl, rfl⟩)
        | (go_at_call 25; (with_reducible refine (number_is M.out (by decide) (by decide) _).mono ?_); rintro e w' ⟨rfl, rfl⟩))
      go_cut [39] (fun s39 wx => Bent ((w1.alloc mostC.box).alloc leastC.box) g wx ∧ mostC.At wx w1.heap.size ∧ leastC.At wx (w1.heap.size + 1))
      case first =>
        obtain ⟨h0, h1, h2, h3, h4, h5⟩ := id hcat
        rcases (show m = 0 ∨ m = 1 ∨ m = 2 ∨ m = 3 ∨ m = 4 ∨ m = 5 by omega) with rfl | rfl | rfl | rfl | rfl | rfl
        · go_wp2_with (first
            | (go_at_call 25; (with_reducible refine (number_is M.out (by decide) (by decide) _).mono ?_); rintro e w' ⟨rfl, rfl⟩))
          go_meet
          refine ⟨bent_of (At.set0 hcat _) (by unfold Cf.May; dsimp only; omega) (hU'.out.setCell hg _), ?_, ?_⟩
          · exact far_set hm (by omega)
          · exact far_set hl (by omega)
        · go_wp2_with (first
            | (go_at_call 25; (with_reducible refine (number_is M.out (by decide) (by decide) _).mono ?_); rintro e w' ⟨rfl, rfl⟩))
          go_meet
          refine ⟨bent_of (At.set1 hcat _) (by unfold Cf.May; dsimp only; omega) (hU'.out.setCell hg _), ?_, ?_⟩
          · exact far_set hm (by omega)
          · exact far_set hl (by omega)
        · go_wp2_with (first
            | (go_at_call 25; (with_reducible refine (number_is M.out (by decide) (by decide) _).mono ?_); rintro e w' ⟨rfl, rfl⟩))
          go_meet
          refine ⟨bent_of (At.set2 hcat _) (by unfold Cf.May; dsimp only; omega) (hU'.out.setCell hg _), ?_, ?_⟩
          · exact far_set hm (by omega)
          · exact far_set hl (by omega)
        · go_wp2_with (first
            | (go_at_call 25; (with_reducible refine (number_is M.out (by decide) (by decide) _).mono ?_); rintro e w' ⟨rfl, rfl⟩))
          go_meet
          refine ⟨bent_of (At.set3 hcat _) (by unfold Cf.May; dsimp only; omega) (hU'.out.setCell hg _), ?_, ?_⟩
          · exact far_set hm (by omega)
          · exact far_set hl (by omega)
        · go_wp2_with (first
            | (go_at_call 25; (with_reducible refine (number_is M.out (by decide) (by decide) _).mono ?_); rintro e w' ⟨rfl, rfl⟩))
          go_meet
          refine ⟨bent_of (At.set4 hcat _) (by unfold Cf.May; dsimp only; omega) (hU'.out.setCell hg _), ?_, ?_⟩
          · exact far_set hm (by omega)
          · exact far_set hl (by omega)
        · go_wp2_with (first
            | (go_at_call 25; (with_reducible refine (number_is M.out (by decide) (by decide) _).mono ?_); rintro e w' ⟨rfl, rfl⟩))
          go_meet
          refine ⟨bent_of (At.set5 hcat _) (by unfold Cf.May; dsimp only; omega) (hU'.out.setCell hg _), ?_, ?_⟩
          · exact far_set hm (by omega)
          · exact far_set hl (by omega)
      case rest =>
        obtain ⟨⟨d, hd, dm, hU⟩, hm2, hl2⟩ := hcut
        clear hcat hm hl hfz hU'
        have D1 := Lib.hid dm
        have D2 := Lib.hid (lenN_no dm)
        have D3 := Lib.hid (no_pin dm 0)
        have O1 := Lib.hid (odd_not o0 o1)
        have O2 := Lib.hid (no_word (odd_not o0 o1) 0 0)
        have Z : Up w (wc.alloc (oddC o).box) := u1.trans (((Up.alloc _ _).then_alloc _).trans (hU.then_alloc _))
        clear dm u1 hU
        obtain ⟨l0, l1, l2, l3, l4, l5⟩ := id hl2
        go_upto_region 24 with (first
          | (go_at_call 25; (with_reducible refine (number_is O.out (by decide) (by decide) _).mono ?_); rintro e w' ⟨rfl, rfl⟩))
        clear l0 l1 l2 l3 l4 l5
        obtain ⟨p0, p1, p2, p3, p4, p5⟩ := hm2.up (Up.alloc wc (oddC o).box)
        obtain ⟨q0, q1, q2, q3, q4, q5⟩ := hl2.up (Up.alloc wc (oddC o).box)
        obtain ⟨r0, r1, r2, r3, r4, r5⟩ := hd.up (Up.alloc wc (oddC o).box)
        obtain ⟨s0, s1, s2, s3, s4, s5⟩ := (oddC o).at_new wc
        have P0 := cell_class p0
        have P1 := cell_class p1
        have P2 := cell_class p2
        have P3 := cell_class p3
        have P4 := cell_class p4
        have P5 := cell_class p5
        replace q0 := cell_class q0
        replace q1 := cell_class q1
        replace q2 := cell_class q2
        replace q3 := cell_class q3
        replace q4 := cell_class q4
        replace q5 := cell_class q5
        replace r0 := cell_class r0
        replace r1 := cell_class r1
        replace r2 := cell_class r2
        replace r3 := cell_class r3
        replace r4 := cell_class r4
        replace r5 := cell_class r5
        replace s0 := cell_class s0
        replace s1 := cell_class s1
        replace s2 := cell_class s2
        replace s3 := cell_class s3
        replace s4 := cell_class s4
        replace s5 := cell_class s5
        clear hm2 hl2 hd
        go_wp2_with (first
          | (go_at_call 10; (with_reducible refine (class_first (may_is most_may _)).mono ?_); rintro e w' ⟨rfl, y, rfl⟩)
          | (go_at_call 10; (with_reducible refine (up_class (may_is D1.out _)).mono ?_); rintro e w' ⟨rfl, y, rfl⟩)
          | (go_at_call 10; (with_reducible refine (up_class (may_is O1.out _)).mono ?_); rintro e w' ⟨rfl, y, rfl⟩)
          | (go_at_call 10; (with_reducible refine (up_class (may_is least_may _)).mono ?_); rintro e w' ⟨rfl, y, rfl⟩)
          | (go_at_call 12; (with_reducible refine (up_class (len_is D2.out _)).mono ?_); rintro e w' ⟨rfl, y, rfl⟩)
          | (go_at_call 12; (with_reducible refine (up_class (len_is most_len _)).mono ?_); rintro e w' ⟨rfl, y, rfl⟩)
          | (go_at_call 12; (with_reducible refine (up_class (len_is least_len _)).mono ?_); rintro e w' ⟨rfl, y, rfl⟩)
          | (go_at_call 14; (with_reducible refine (up_class (pin_is D3.out _)).mono ?_); rintro e w' ⟨rfl, y, rfl⟩)
          | (go_at_call 22; (with_reducible refine (up_class (word_is O2.out _)).mono ?_); rintro e w' ⟨rfl, y, rfl⟩))
        go_ret
        exact ⟨rfl, Z.trans y.up⟩
  · go_enter Try.func6, Try.ntmps6
    go_upto_region 7 with (first
      | (go_at_call 7; refine (first_any _).mono ?_; rintro e w1 ⟨rfl, u1⟩)
      | (go_at_call 25; (with_reducible refine (number_is KK.out (by decide) (by decide) _).mono ?_); rintro e w' ⟨rfl, rfl⟩))
    have hm : mostC.At ((w1.alloc mostC.box).alloc leastC.box) w1.heap.size := (mostC.at_new w1).up (Up.alloc _ _)
    have hl : leastC.At ((w1.alloc mostC.box).alloc leastC.box) (w1.heap.size + 1) := by
      have h := leastC.at_new (w1.alloc mostC.box)
      rwa [show (w1.alloc mostC.box).heap.size = w1.heap.size + 1 by simp] at h
    go_cut [9] (fun s9 wx => Made ((w1.alloc mostC.box).alloc leastC.box) leastC s9 wx)
    case first =>
      refine wp_region_noPanic ?_
      refine wp_region_held_drew (S := fun w' => w'.cell? ⟨w1.heap.size, 0, none⟩ = some (.int .i64 64) ∧ w'.cell? ⟨w1.heap.size, 1, none⟩ = some (.int .i64 4096) ∧ w'.cell? ⟨w1.heap.size, 2, none⟩ = some (.int .i64 1024) ∧ w'.cell? ⟨w1.heap.size, 3, none⟩ = some (.int .i64 4096) ∧ w'.cell? ⟨w1.heap.size, 4, none⟩ = some (.int .i64 64) ∧ w'.cell? ⟨w1.heap.size, 5, none⟩ = some (.int .i64 8) ∧ w'.cell? ⟨w1.heap.size + 1, 0, none⟩ = some (.int .i64 1) ∧ w'.cell? ⟨w1.heap.size + 1, 1, none⟩ = some (.int .i64 1) ∧ w'.cell? ⟨w1.heap.size + 1, 2, none⟩ = some (.int .i64 8) ∧ w'.cell? ⟨w1.heap.size + 1, 3, none⟩ = some (.int .i64 1) ∧ w'.cell? ⟨w1.heap.size + 1, 4, none⟩ = some (.int .i64 0) ∧ w'.cell? ⟨w1.heap.size + 1, 5, none⟩ = some (.int .i64 1) ∧ Up ((w1.alloc mostC.box).alloc leastC.box) w') (by kernel_rfl) ?_ (fun hHeld => ?_)
      · (refine two_with hm hl ?_; (repeat (first | (with_reducible exact Up.refl _) | (with_reducible refine Up.then_drew ?_) | (with_reducible refine Up.then_alloc ?_ _) | refine Up.setCell ?_ (by simp) _)))
      apply take_yes (i := 0) (oi := ⟨some 19, _, _, _, _, _⟩) rfl (by kernel_rfl) (by kernel_rfl) (by kernel_rfl) (by rfl) (by assumption)
      · (intro wz hSw; (try dsimp only at hSw); go_simp; (try (with_reducible rfl)))
      try simp only [Act.put, List.setIfInBounds_toArray, List.set_cons_zero, List.set_cons_succ]
      apply take_yes (i := 1) (oi := ⟨some 20, _, _, _, _, _⟩) rfl (by kernel_rfl) (by kernel_rfl) (by kernel_rfl) (by rfl) (by assumption)
      · (intro wz hSw; (try dsimp only at hSw); go_simp; (try (with_reducible rfl)))
      try simp only [Act.put, List.setIfInBounds_toArray, List.set_cons_zero, List.set_cons_succ]
      apply take_yes (i := 3) (oi := ⟨some 22, _, _, _, _, _⟩) rfl (by kernel_rfl) (by kernel_rfl) (by kernel_rfl) (by rfl) (by assumption)
      · (intro wz hSw; (try dsimp only at hSw); go_simp; (try (with_reducible rfl)))
      try simp only [Act.put, List.setIfInBounds_toArray, List.set_cons_zero, List.set_cons_succ]
      refine wpAnyH_ready (rs := [2, 4, 7]) (by kernel_rfl) (by simp) ?_
      refine AllReadyH.cons (o := ⟨some 21, _, _, _, _, _⟩) rfl (fun K hK => ?_) ?_
      · go_simp
        refine hK.out _ _ ?_ (fun hHeld2 => ?_)
        · (refine two_with hm hl ?_; (repeat (first | (with_reducible exact Up.refl _) | (with_reducible refine Up.then_drew ?_) | (with_reducible refine Up.then_alloc ?_ _) | refine Up.setCell ?_ (by simp) _)))
        clear hK K hHeld
        have hHeld := hHeld2
        clear hHeld2
        try simp only [Act.put, List.setIfInBounds_toArray, List.set_cons_zero, List.set_cons_succ]
        refine wpAnyH_ready (rs := [4, 7]) (by kernel_rfl) (by simp) ?_
        refine AllReadyH.cons (o := ⟨some 23, _, _, _, _, _⟩) rfl (fun K hK => ?_) ?_
        · go_simp
          (go_at_call 25; (with_reducible refine (number_is J.out (by decide) (by decide) _).mono ?_); rintro e w' ⟨rfl, rfl⟩)
          go_wp2_with fail
          refine hK.out _ _ ?_ (fun hHeld2 => ?_)
          · (refine two_with hm hl ?_; (repeat (first | (with_reducible exact Up.refl _) | (with_reducible refine Up.then_drew ?_) | (with_reducible refine Up.then_alloc ?_ _) | refine Up.setCell ?_ (by simp) _)))
          clear hK K hHeld
          have hHeld := hHeld2
          clear hHeld2
          try simp only [Act.put, List.setIfInBounds_toArray, List.set_cons_zero, List.set_cons_succ]
          apply take_yes (i := 5) (oi := ⟨some 24, _, _, _, _, _⟩) rfl (by kernel_rfl) (by kernel_rfl) (by kernel_rfl) (by rfl) (by assumption)
          · (intro wz hSw; (try dsimp only at hSw); go_simp; (try (with_reducible rfl)))
          try simp only [Act.put, List.setIfInBounds_toArray, List.set_cons_zero, List.set_cons_succ]
          refine wpAnyH_ready (rs := [6, 7]) (by kernel_rfl) (by simp) ?_
          refine AllReadyH.cons (o := ⟨some 25, _, _, _, _, _⟩) rfl (fun K hK => ?_) ?_
          · go_simp
            refine hK.out _ _ ?_ (fun hHeld2 => ?_)
            · (refine two_with hm hl ?_; (repeat (first | (with_reducible exact Up.refl _) | (with_reducible refine Up.then_drew ?_) | (with_reducible refine Up.then_alloc ?_ _) | refine Up.setCell ?_ (by simp) _)))
            clear hK K hHeld
            have hHeld := hHeld2
            clear hHeld2
            try simp only [Act.put, List.setIfInBounds_toArray, List.set_cons_zero, List.set_cons_succ]
            refine wpAnyH_ready (rs := [7]) (by kernel_rfl) (by simp) ?_
            refine AllReadyH.cons (o := ⟨some 9, _, _, _, _, _⟩) rfl (fun K hK => ?_) ?_
            · go_simp
              refine hK.out _ _ ?_ (fun hHeld2 => ?_)
              · (refine two_with hm hl ?_; (repeat (first | (with_reducible exact Up.refl _) | (with_reducible refine Up.then_drew ?_) | (with_reducible refine Up.then_alloc ?_ _) | refine Up.setCell ?_ (by simp) _)))
              clear hK K hHeld
              have hHeld := hHeld2
              clear hHeld2
              try simp only [Act.put, List.setIfInBounds_toArray, List.set_cons_zero, List.set_cons_succ]
              refine wpAnyH_ready (rs := [8]) (by kernel_rfl) (by simp) ?_
              refine AllReadyH.cons (o := ⟨none, _, _, _, _, _⟩) rfl (fun K hK => ?_) ?_
              · go_simp
                refine hK.out _ _ ?_ (fun hHeld2 => ?_)
                · (refine two_with hm hl ?_; (repeat (first | (with_reducible exact Up.refl _) | (with_reducible refine Up.then_drew ?_) | (with_reducible refine Up.then_alloc ?_ _) | refine Up.setCell ?_ (by simp) _)))
                clear hK K hHeld
                have hHeld := hHeld2
                clear hHeld2
                try simp only [Act.put, List.setIfInBounds_toArray, List.set_cons_zero, List.set_cons_succ]
                refine wpAnyH_done (by kernel_rfl) ?_ _
                refine NoPanic.normal ?_
                go_wp2_with fail
                go_meet
                first | exact made_last (by simp) | exact made_early (by simp)
              exact AllReadyH.nil
            exact AllReadyH.nil
          refine AllReadyH.cons (o := ⟨some 9, _, _, _, _, _⟩) rfl (fun K hK => ?_) ?_
          · go_simp
            refine hK.out _ _ ?_ (fun hHeld2 => ?_)
            · (refine two_with hm hl ?_; (repeat (first | (with_reducible exact Up.refl _) | (with_reducible refine Up.then_drew ?_) | (with_reducible refine Up.then_alloc ?_ _) | refine Up.setCell ?_ (by simp) _)))
            clear hK K hHeld
            have hHeld := hHeld2
            clear hHeld2
            try simp only [Act.put, List.setIfInBounds_toArray, List.set_cons_zero, List.set_cons_succ]
            refine wpAnyH_ready (rs := [6]) (by kernel_rfl) (by simp) ?_
            refine AllReadyH.cons (o := ⟨some 25, _, _, _, _, _⟩) rfl (fun K hK => ?_) ?_
            · go_simp
              refine hK.out _ _ ?_ (fun hHeld2 => ?_)
              · (refine two_with hm hl ?_; (repeat (first | (with_reducible exact Up.refl _) | (with_reducible refine Up.then_drew ?_) | (with_reducible refine Up.then_alloc ?_ _) | refine Up.setCell ?_ (by simp) _)))
              clear hK K hHeld
              have hHeld := hHeld2
              clear hHeld2
              try simp only [Act.put, List.setIfInBounds_toArray, List.set_cons_zero, List.set_cons_succ]
              refine wpAnyH_ready (rs := [8]) (by kernel_rfl) (by simp) ?_
              refine AllReadyH.cons (o := ⟨none, _, _, _, _, _⟩) rfl (fun K hK => ?_) ?_
              · go_simp
                refine hK.out _ _ ?_ (fun hHeld2 => ?_)
                · (refine two_with hm hl ?_; (repeat (first | (with_reducible exact Up.refl _) | (with_reducible refine Up.then_drew ?_) | (with_reducible refine Up.then_alloc ?_ _) | refine Up.setCell ?_ (by simp) _)))
                clear hK K hHeld
                have hHeld := hHeld2
                clear hHeld2
                try simp only [Act.put, List.setIfInBounds_toArray, List.set_cons_zero, List.set_cons_succ]
                refine wpAnyH_done (by kernel_rfl) ?_ _
                refine NoPanic.normal ?_
                go_wp2_with fail
                go_meet
                first | exact made_last (by simp) | exact made_early (by simp)
              exact AllReadyH.nil
            exact AllReadyH.nil
          exact AllReadyH.nil
        refine AllReadyH.cons (o := ⟨some 9, _, _, _, _, _⟩) rfl (fun K hK => ?_) ?_
        · go_simp
          refine hK.out _ _ ?_ (fun hHeld2 => ?_)
          · (refine two_with hm hl ?_; (repeat (first | (with_reducible exact Up.refl _) | (with_reducible refine Up.then_drew ?_) | (with_reducible refine Up.then_alloc ?_ _) | refine Up.setCell ?_ (by simp) _)))
          clear hK K hHeld
          have hHeld := hHeld2
          clear hHeld2
          try simp only [Act.put, List.setIfInBounds_toArray, List.set_cons_zero, List.set_cons_succ]
          refine wpAnyH_ready (rs := [4]) (by kernel_rfl) (by simp) ?_
          refine AllReadyH.cons (o := ⟨some 23, _, _, _, _, _⟩) rfl (fun K hK => ?_) ?_
          · go_simp
            (go_at_call 25; (with_reducible refine (number_is J.out (by decide) (by decide) _).mono ?_); rintro e w' ⟨rfl, rfl⟩)
            go_wp2_with fail
            refine hK.out _ _ ?_ (fun hHeld2 => ?_)
            · (refine two_with hm hl ?_; (repeat (first | (with_reducible exact Up.refl _) | (with_reducible refine Up.then_drew ?_) | (with_reducible refine Up.then_alloc ?_ _) | refine Up.setCell ?_ (by simp) _)))
            clear hK K hHeld
            have hHeld := hHeld2
            clear hHeld2
            try simp only [Act.put, List.setIfInBounds_toArray, List.set_cons_zero, List.set_cons_succ]
            apply take_yes (i := 5) (oi := ⟨some 24, _, _, _, _, _⟩) rfl (by kernel_rfl) (by kernel_rfl) (by kernel_rfl) (by rfl) (by assumption)
            · (intro wz hSw; (try dsimp only at hSw); go_simp; (try (with_reducible rfl)))
            try simp only [Act.put, List.setIfInBounds_toArray, List.set_cons_zero, List.set_cons_succ]
            refine wpAnyH_ready (rs := [6]) (by kernel_rfl) (by simp) ?_
            refine AllReadyH.cons (o := ⟨some 25, _, _, _, _, _⟩) rfl (fun K hK => ?_) ?_
            · go_simp
              refine hK.out _ _ ?_ (fun hHeld2 => ?_)
              · (refine two_with hm hl ?_; (repeat (first | (with_reducible exact Up.refl _) | (with_reducible refine Up.then_drew ?_) | (with_reducible refine Up.then_alloc ?_ _) | refine Up.setCell ?_ (by simp) _)))
              clear hK K hHeld
              have hHeld := hHeld2
              clear hHeld2
              try simp only [Act.put, List.setIfInBounds_toArray, List.set_cons_zero, List.set_cons_succ]
              refine wpAnyH_ready (rs := [8]) (by kernel_rfl) (by simp) ?_
              refine AllReadyH.cons (o := ⟨none, _, _, _, _, _⟩) rfl (fun K hK => ?_) ?_
              · go_simp
                refine hK.out _ _ ?_ (fun hHeld2 => ?_)
                · (refine two_with hm hl ?_; (repeat (first | (with_reducible exact Up.refl _) | (with_reducible refine Up.then_drew ?_) | (with_reducible refine Up.then_alloc ?_ _) | refine Up.setCell ?_ (by simp) _)))
                clear hK K hHeld
                have hHeld := hHeld2
                clear hHeld2
                try simp only [Act.put, List.setIfInBounds_toArray, List.set_cons_zero, List.set_cons_succ]
                refine wpAnyH_done (by kernel_rfl) ?_ _
                refine NoPanic.normal ?_
                go_wp2_with fail
                go_meet
                first | exact made_last (by simp) | exact made_early (by simp)
              exact AllReadyH.nil
            exact AllReadyH.nil
          exact AllReadyH.nil
        exact AllReadyH.nil
      refine AllReadyH.cons (o := ⟨some 23, _, _, _, _, _⟩) rfl (fun K hK => ?_) ?_
      · go_simp
        (go_at_call 25; (with_reducible refine (number_is J.out (by decide) (by decide) _).mono ?_); rintro e w' ⟨rfl, rfl⟩)
        go_wp2_with fail
        refine hK.out _ _ ?_ (fun hHeld2 => ?_)
        · (refine two_with hm hl ?_; (repeat (first | (with_reducible exact Up.refl _) | (with_reducible refine Up.then_drew ?_) | (with_reducible refine Up.then_alloc ?_ _) | refine Up.setCell ?_ (by simp) _)))
        clear hK K hHeld
        have hHeld := hHeld2
        clear hHeld2
        try simp only [Act.put, List.setIfInBounds_toArray, List.set_cons_zero, List.set_cons_succ]
        refine wpAnyH_ready (rs := [2, 7]) (by kernel_rfl) (by simp) ?_
        refine AllReadyH.cons (o := ⟨some 21, _, _, _, _, _⟩) rfl (fun K hK => ?_) ?_
        · go_simp
          refine hK.out _ _ ?_ (fun hHeld2 => ?_)
          · (refine two_with hm hl ?_; (repeat (first | (with_reducible exact Up.refl _) | (with_reducible refine Up.then_drew ?_) | (with_reducible refine Up.then_alloc ?_ _) | refine Up.setCell ?_ (by simp) _)))
          clear hK K hHeld
          have hHeld := hHeld2
          clear hHeld2
          try simp only [Act.put, List.setIfInBounds_toArray, List.set_cons_zero, List.set_cons_succ]
          apply take_yes (i := 5) (oi := ⟨some 24, _, _, _, _, _⟩) rfl (by kernel_rfl) (by kernel_rfl) (by kernel_rfl) (by rfl) (by assumption)
          · (intro wz hSw; (try dsimp only at hSw); go_simp; (try (with_reducible rfl)))
          try simp only [Act.put, List.setIfInBounds_toArray, List.set_cons_zero, List.set_cons_succ]
          refine wpAnyH_ready (rs := [6, 7]) (by kernel_rfl) (by simp) ?_
          refine AllReadyH.cons (o := ⟨some 25, _, _, _, _, _⟩) rfl (fun K hK => ?_) ?_
          · go_simp
            refine hK.out _ _ ?_ (fun hHeld2 => ?_)
            · (refine two_with hm hl ?_; (repeat (first | (with_reducible exact Up.refl _) | (with_reducible refine Up.then_drew ?_) | (with_reducible refine Up.then_alloc ?_ _) | refine Up.setCell ?_ (by simp) _)))
            clear hK K hHeld
            have hHeld := hHeld2
            clear hHeld2
            try simp only [Act.put, List.setIfInBounds_toArray, List.set_cons_zero, List.set_cons_succ]
            refine wpAnyH_ready (rs := [7]) (by kernel_rfl) (by simp) ?_
            refine AllReadyH.cons (o := ⟨some 9, _, _, _, _, _⟩) rfl (fun K hK => ?_) ?_
            · go_simp
              refine hK.out _ _ ?_ (fun hHeld2 => ?_)
              · (refine two_with hm hl ?_; (repeat (first | (with_reducible exact Up.refl _) | (with_reducible refine Up.then_drew ?_) | (with_reducible refine Up.then_alloc ?_ _) | refine Up.setCell ?_ (by simp) _)))
              clear hK K hHeld
              have hHeld := hHeld2
              clear hHeld2
              try simp only [Act.put, List.setIfInBounds_toArray, List.set_cons_zero, List.set_cons_succ]
              refine wpAnyH_ready (rs := [8]) (by kernel_rfl) (by simp) ?_
              refine AllReadyH.cons (o := ⟨none, _, _, _, _, _⟩) rfl (fun K hK => ?_) ?_
              · go_simp
                refine hK.out _ _ ?_ (fun hHeld2 => ?_)
                · (refine two_with hm hl ?_; (repeat (first | (with_reducible exact Up.refl _) | (with_reducible refine Up.then_drew ?_) | (with_reducible refine Up.then_alloc ?_ _) | refine Up.setCell ?_ (by simp) _)))
                clear hK K hHeld
                have hHeld := hHeld2
                clear hHeld2
                try simp only [Act.put, List.setIfInBounds_toArray, List.set_cons_zero, List.set_cons_succ]
                refine wpAnyH_done (by kernel_rfl) ?_ _
                refine NoPanic.normal ?_
                go_wp2_with fail
                go_meet
                first | exact made_last (by simp) | exact made_early (by simp)
              exact AllReadyH.nil
            exact AllReadyH.nil
          refine AllReadyH.cons (o := ⟨some 9, _, _, _, _, _⟩) rfl (fun K hK => ?_) ?_
          · go_simp
            refine hK.out _ _ ?_ (fun hHeld2 => ?_)
            · (refine two_with hm hl ?_; (repeat (first | (with_reducible exact Up.refl _) | (with_reducible refine Up.then_drew ?_) | (with_reducible refine Up.then_alloc ?_ _) | refine Up.setCell ?_ (by simp) _)))
            clear hK K hHeld
            have hHeld := hHeld2
            clear hHeld2
            try simp only [Act.put, List.setIfInBounds_toArray, List.set_cons_zero, List.set_cons_succ]
            refine wpAnyH_ready (rs := [6]) (by kernel_rfl) (by simp) ?_
            refine AllReadyH.cons (o := ⟨some 25, _, _, _, _, _⟩) rfl (fun K hK => ?_) ?_
            · go_simp
              refine hK.out _ _ ?_ (fun hHeld2 => ?_)
              · (refine two_with hm hl ?_; (repeat (first | (with_reducible exact Up.refl _) | (with_reducible refine Up.then_drew ?_) | (with_reducible refine Up.then_alloc ?_ _) | refine Up.setCell ?_ (by simp) _)))
              clear hK K hHeld
              have hHeld := hHeld2
              clear hHeld2
              try simp only [Act.put, List.setIfInBounds_toArray, List.set_cons_zero, List.set_cons_succ]
              refine wpAnyH_ready (rs := [8]) (by kernel_rfl) (by simp) ?_
              refine AllReadyH.cons (o := ⟨none, _, _, _, _, _⟩) rfl (fun K hK => ?_) ?_
              · go_simp
                refine hK.out _ _ ?_ (fun hHeld2 => ?_)
                · (refine two_with hm hl ?_; (repeat (first | (with_reducible exact Up.refl _) | (with_reducible refine Up.then_drew ?_) | (with_reducible refine Up.then_alloc ?_ _) | refine Up.setCell ?_ (by simp) _)))
                clear hK K hHeld
                have hHeld := hHeld2
                clear hHeld2
                try simp only [Act.put, List.setIfInBounds_toArray, List.set_cons_zero, List.set_cons_succ]
                refine wpAnyH_done (by kernel_rfl) ?_ _
                refine NoPanic.normal ?_
                go_wp2_with fail
                go_meet
                first | exact made_last (by simp) | exact made_early (by simp)
              exact AllReadyH.nil
            exact AllReadyH.nil
          exact AllReadyH.nil
        refine AllReadyH.cons (o := ⟨some 9, _, _, _, _, _⟩) rfl (fun K hK => ?_) ?_
        · go_simp
          refine hK.out _ _ ?_ (fun hHeld2 => ?_)
          · (refine two_with hm hl ?_; (repeat (first | (with_reducible exact Up.refl _) | (with_reducible refine Up.then_drew ?_) | (with_reducible refine Up.then_alloc ?_ _) | refine Up.setCell ?_ (by simp) _)))
          clear hK K hHeld
          have hHeld := hHeld2
          clear hHeld2
          try simp only [Act.put, List.setIfInBounds_toArray, List.set_cons_zero, List.set_cons_succ]
          refine wpAnyH_ready (rs := [2]) (by kernel_rfl) (by simp) ?_
          refine AllReadyH.cons (o := ⟨some 21, _, _, _, _, _⟩) rfl (fun K hK => ?_) ?_
          · go_simp
            refine hK.out _ _ ?_ (fun hHeld2 => ?_)
            · (refine two_with hm hl ?_; (repeat (first | (with_reducible exact Up.refl _) | (with_reducible refine Up.then_drew ?_) | (with_reducible refine Up.then_alloc ?_ _) | refine Up.setCell ?_ (by simp) _)))
            clear hK K hHeld
            have hHeld := hHeld2
            clear hHeld2
            try simp only [Act.put, List.setIfInBounds_toArray, List.set_cons_zero, List.set_cons_succ]
            apply take_yes (i := 5) (oi := ⟨some 24, _, _, _, _, _⟩) rfl (by kernel_rfl) (by kernel_rfl) (by kernel_rfl) (by rfl) (by assumption)
            · (intro wz hSw; (try dsimp only at hSw); go_simp; (try (with_reducible rfl)))
            try simp only [Act.put, List.setIfInBounds_toArray, List.set_cons_zero, List.set_cons_succ]
            refine wpAnyH_ready (rs := [6]) (by kernel_rfl) (by simp) ?_
            refine AllReadyH.cons (o := ⟨some 25, _, _, _, _, _⟩) rfl (fun K hK => ?_) ?_
            · go_simp
              refine hK.out _ _ ?_ (fun hHeld2 => ?_)
              · (refine two_with hm hl ?_; (repeat (first | (with_reducible exact Up.refl _) | (with_reducible refine Up.then_drew ?_) | (with_reducible refine Up.then_alloc ?_ _) | refine Up.setCell ?_ (by simp) _)))
              clear hK K hHeld
              have hHeld := hHeld2
              clear hHeld2
              try simp only [Act.put, List.setIfInBounds_toArray, List.set_cons_zero, List.set_cons_succ]
              refine wpAnyH_ready (rs := [8]) (by kernel_rfl) (by simp) ?_
              refine AllReadyH.cons (o := ⟨none, _, _, _, _, _⟩) rfl (fun K hK => ?_) ?_
              · go_simp
                refine hK.out _ _ ?_ (fun hHeld2 => ?_)
                · (refine two_with hm hl ?_; (repeat (first | (with_reducible exact Up.refl _) | (with_reducible refine Up.then_drew ?_) | (with_reducible refine Up.then_alloc ?_ _) | refine Up.setCell ?_ (by simp) _)))
                clear hK K hHeld
                have hHeld := hHeld2
                clear hHeld2
                try simp only [Act.put, List.setIfInBounds_toArray, List.set_cons_zero, List.set_cons_succ]
                refine wpAnyH_done (by kernel_rfl) ?_ _
                refine NoPanic.normal ?_
                go_wp2_with fail
                go_meet
                first | exact made_last (by simp) | exact made_early (by simp)
              exact AllReadyH.nil
            exact AllReadyH.nil
          exact AllReadyH.nil
        exact AllReadyH.nil
      refine AllReadyH.cons (o := ⟨some 9, _, _, _, _, _⟩) rfl (fun K hK => ?_) ?_
      · go_simp
        refine hK.out _ _ ?_ (fun hHeld2 => ?_)
        · (refine two_with hm hl ?_; (repeat (first | (with_reducible exact Up.refl _) | (with_reducible refine Up.then_drew ?_) | (with_reducible refine Up.then_alloc ?_ _) | refine Up.setCell ?_ (by simp) _)))
        clear hK K hHeld
        have hHeld := hHeld2
        clear hHeld2
        try simp only [Act.put, List.setIfInBounds_toArray, List.set_cons_zero, List.set_cons_succ]
        refine wpAnyH_ready (rs := [2, 4]) (by kernel_rfl) (by simp) ?_
        refine AllReadyH.cons (o := ⟨some 21, _, _, _, _, _⟩) rfl (fun K hK => ?_) ?_
        · go_simp
          refine hK.out _ _ ?_ (fun hHeld2 => ?_)
          · (refine two_with hm hl ?_; (repeat (first | (with_reducible exact Up.refl _) | (with_reducible refine Up.then_drew ?_) | (with_reducible refine Up.then_alloc ?_ _) | refine Up.setCell ?_ (by simp) _)))
          clear hK K hHeld
          have hHeld := hHeld2
          clear hHeld2
          try simp only [Act.put, List.setIfInBounds_toArray, List.set_cons_zero, List.set_cons_succ]
          refine wpAnyH_ready (rs := [4]) (by kernel_rfl) (by simp) ?_
          refine AllReadyH.cons (o := ⟨some 23, _, _, _, _, _⟩) rfl (fun K hK => ?_) ?_
          · go_simp
            (go_at_call 25; (with_reducible refine (number_is J.out (by decide) (by decide) _).mono ?_); rintro e w' ⟨rfl, rfl⟩)
            go_wp2_with fail
            refine hK.out _ _ ?_ (fun hHeld2 => ?_)
            · (refine two_with hm hl ?_; (repeat (first | (with_reducible exact Up.refl _) | (with_reducible refine Up.then_drew ?_) | (with_reducible refine Up.then_alloc ?_ _) | refine Up.setCell ?_ (by simp) _)))
            clear hK K hHeld
            have hHeld := hHeld2
            clear hHeld2
            try simp only [Act.put, List.setIfInBounds_toArray, List.set_cons_zero, List.set_cons_succ]
            apply take_yes (i := 5) (oi := ⟨some 24, _, _, _, _, _⟩) rfl (by kernel_rfl) (by kernel_rfl) (by kernel_rfl) (by rfl) (by assumption)
            · (intro wz hSw; (try dsimp only at hSw); go_simp; (try (with_reducible rfl)))
            try simp only [Act.put, List.setIfInBounds_toArray, List.set_cons_zero, List.set_cons_succ]
            refine wpAnyH_ready (rs := [6]) (by kernel_rfl) (by simp) ?_
            refine AllReadyH.cons (o := ⟨some 25, _, _, _, _, _⟩) rfl (fun K hK => ?_) ?_
            · go_simp
              refine hK.out _ _ ?_ (fun hHeld2 => ?_)
              · (refine two_with hm hl ?_; (repeat (first | (with_reducible exact Up.refl _) | (with_reducible refine Up.then_drew ?_) | (with_reducible refine Up.then_alloc ?_ _) | refine Up.setCell ?_ (by simp) _)))
              clear hK K hHeld
              have hHeld := hHeld2
              clear hHeld2
              try simp only [Act.put, List.setIfInBounds_toArray, List.set_cons_zero, List.set_cons_succ]
              refine wpAnyH_ready (rs := [8]) (by kernel_rfl) (by simp) ?_
              refine AllReadyH.cons (o := ⟨none, _, _, _, _, _⟩) rfl (fun K hK => ?_) ?_
              · go_simp
                refine hK.out _ _ ?_ (fun hHeld2 => ?_)
                · (refine two_with hm hl ?_; (repeat (first | (with_reducible exact Up.refl _) | (with_reducible refine Up.then_drew ?_) | (with_reducible refine Up.then_alloc ?_ _) | refine Up.setCell ?_ (by simp) _)))
                clear hK K hHeld
                have hHeld := hHeld2
                clear hHeld2
                try simp only [Act.put, List.setIfInBounds_toArray, List.set_cons_zero, List.set_cons_succ]
                refine wpAnyH_done (by kernel_rfl) ?_ _
                refine NoPanic.normal ?_
                go_wp2_with fail
                go_meet
                first | exact made_last (by simp) | exact made_early (by simp)
              exact AllReadyH.nil
            exact AllReadyH.nil
          exact AllReadyH.nil
        refine AllReadyH.cons (o := ⟨some 23, _, _, _, _, _⟩) rfl (fun K hK => ?_) ?_
        · go_simp
          (go_at_call 25; (with_reducible refine (number_is J.out (by decide) (by decide) _).mono ?_); rintro e w' ⟨rfl, rfl⟩)
          go_wp2_with fail
          refine hK.out _ _ ?_ (fun hHeld2 => ?_)
          · (refine two_with hm hl ?_; (repeat (first | (with_reducible exact Up.refl _) | (with_reducible refine Up.then_drew ?_) | (with_reducible refine Up.then_alloc ?_ _) | refine Up.setCell ?_ (by simp) _)))
          clear hK K hHeld
          have hHeld := hHeld2
          clear hHeld2
          try simp only [Act.put, List.setIfInBounds_toArray, List.set_cons_zero, List.set_cons_succ]
          refine wpAnyH_ready (rs := [2]) (by kernel_rfl) (by simp) ?_
          refine AllReadyH.cons (o := ⟨some 21, _, _, _, _, _⟩) rfl (fun K hK => ?_) ?_
          · go_simp
            refine hK.out _ _ ?_ (fun hHeld2 => ?_)
            · (refine two_with hm hl ?_; (repeat (first | (with_reducible exact Up.refl _) | (with_reducible refine Up.then_drew ?_) | (with_reducible refine Up.then_alloc ?_ _) | refine Up.setCell ?_ (by simp) _)))
            clear hK K hHeld
            have hHeld := hHeld2
            clear hHeld2
            try simp only [Act.put, List.setIfInBounds_toArray, List.set_cons_zero, List.set_cons_succ]
            apply take_yes (i := 5) (oi := ⟨some 24, _, _, _, _, _⟩) rfl (by kernel_rfl) (by kernel_rfl) (by kernel_rfl) (by rfl) (by assumption)
            · (intro wz hSw; (try dsimp only at hSw); go_simp; (try (with_reducible rfl)))
            try simp only [Act.put, List.setIfInBounds_toArray, List.set_cons_zero, List.set_cons_succ]
            refine wpAnyH_ready (rs := [6]) (by kernel_rfl) (by simp) ?_
            refine AllReadyH.cons (o := ⟨some 25, _, _, _, _, _⟩) rfl (fun K hK => ?_) ?_
            · go_simp
              refine hK.out _ _ ?_ (fun hHeld2 => ?_)
              · (refine two_with hm hl ?_; (repeat (first | (with_reducible exact Up.refl _) | (with_reducible refine Up.then_drew ?_) | (with_reducible refine Up.then_alloc ?_ _) | refine Up.setCell ?_ (by simp) _)))
              clear hK K hHeld
              have hHeld := hHeld2
              clear hHeld2
              try simp only [Act.put, List.setIfInBounds_toArray, List.set_cons_zero, List.set_cons_succ]
              refine wpAnyH_ready (rs := [8]) (by kernel_rfl) (by simp) ?_
              refine AllReadyH.cons (o := ⟨none, _, _, _, _, _⟩) rfl (fun K hK => ?_) ?_
              · go_simp
                refine hK.out _ _ ?_ (fun hHeld2 => ?_)
                · (refine two_with hm hl ?_; (repeat (first | (with_reducible exact Up.refl _) | (with_reducible refine Up.then_drew ?_) | (with_reducible refine Up.then_alloc ?_ _) | refine Up.setCell ?_ (by simp) _)))
                clear hK K hHeld
                have hHeld := hHeld2
                clear hHeld2
                try simp only [Act.put, List.setIfInBounds_toArray, List.set_cons_zero, List.set_cons_succ]
                refine wpAnyH_done (by kernel_rfl) ?_ _
                refine NoPanic.normal ?_
                go_wp2_with fail
                go_meet
                first | exact made_last (by simp) | exact made_early (by simp)
              exact AllReadyH.nil
            exact AllReadyH.nil
          exact AllReadyH.nil
        exact AllReadyH.nil
      exact AllReadyH.nil
    case rest =>
      obtain ⟨g, rfl, hg, hcat, hfz, hU⟩ := hcut
      replace hm := hm.up hU
      replace hl := hl.up hU
      have hU' := Lib.hid hU
      clear hU
      have hg' : w1.heap.size + 1 + 1 ≤ g := by simpa using hg
      go_upto_block 0 with (first
        | (go_at_call 25; (with_reducible refine (number_is J.out (by decide) (by decide) _).mono ?_); rintro e w' ⟨rfl, rfl⟩)
        | (go_at_call 25; (with_reducible refine (number_is M.out (by decide) (by decide) _).mono ?_); rintro e w' ⟨rfl, rfl⟩))
      go_cut [39] (fun s39 wx => Bent ((w1.alloc mostC.box).alloc leastC.box) g wx ∧ mostC.At wx w1.heap.size ∧ leastC.At wx (w1.heap.size + 1))
      case first =>
        obtain ⟨h0, h1, h2, h3, h4, h5⟩ := id hcat
        rcases (show m = 0 ∨ m = 1 ∨ m = 2 ∨ m = 3 ∨ m = 4 ∨ m = 5 by omega) with rfl | rfl | rfl | rfl | rfl | rfl
        · go_wp2_with (first
            | (go_at_call 25; (with_reducible refine (number_is M.out (by decide) (by decide) _).mono ?_); rintro e w' ⟨rfl, rfl⟩))
          go_meet
          refine ⟨bent_of (At.set0 hcat _) (by unfold Cf.May; dsimp only; omega) (hU'.out.setCell hg _), ?_, ?_⟩
          · exact far_set hm (by omega)
          · exact far_set hl (by omega)
        · go_wp2_with (first
            | (go_at_call 25; (with_reducible refine (number_is M.out (by decide) (by decide) _).mono ?_); rintro e w' ⟨rfl, rfl⟩))
          go_meet
          refine ⟨bent_of (At.set1 hcat _) (by unfold Cf.May; dsimp only; omega) (hU'.out.setCell hg _), ?_, ?_⟩
          · exact far_set hm (by omega)
          · exact far_set hl (by omega)
        · go_wp2_with (first
            | (go_at_call 25; (with_reducible refine (number_is M.out (by decide) (by decide) _).mono ?_); rintro e w' ⟨rfl, rfl⟩))
          go_meet
          refine ⟨bent_of (At.set2 hcat _) (by unfold Cf.May; dsimp only; omega) (hU'.out.setCell hg _), ?_, ?_⟩
          · exact far_set hm (by omega)
          · exact far_set hl (by omega)
        · go_wp2_with (first
            | (go_at_call 25; (with_reducible refine (number_is M.out (by decide) (by decide) _).mono ?_); rintro e w' ⟨rfl, rfl⟩))
          go_meet
          refine ⟨bent_of (At.set3 hcat _) (by unfold Cf.May; dsimp only; omega) (hU'.out.setCell hg _), ?_, ?_⟩
          · exact far_set hm (by omega)
          · exact far_set hl (by omega)
        · go_wp2_with (first
            | (go_at_call 25; (with_reducible refine (number_is M.out (by decide) (by decide) _).mono ?_); rintro e w' ⟨rfl, rfl⟩))
          go_meet
          refine ⟨bent_of (At.set4 hcat _) (by unfold Cf.May; dsimp only; omega) (hU'.out.setCell hg _), ?_, ?_⟩
          · exact far_set hm (by omega)
          · exact far_set hl (by omega)
        · go_wp2_with (first
            | (go_at_call 25; (with_reducible refine (number_is M.out (by decide) (by decide) _).mono ?_); rintro e w' ⟨rfl, rfl⟩))
          go_meet
          refine ⟨bent_of (At.set5 hcat _) (by unfold Cf.May; dsimp only; omega) (hU'.out.setCell hg _), ?_, ?_⟩
          · exact far_set hm (by omega)
          · exact far_set hl (by omega)
      case rest =>
        obtain ⟨⟨d, hd, dm, hU⟩, hm2, hl2⟩ := hcut
        clear hcat hm hl hfz hU'
        have D1 := Lib.hid dm
        have D2 := Lib.hid (lenN_no dm)
        have D3 := Lib.hid (no_pin dm 0)
        have O1 := Lib.hid (odd_not o0 o1)
        have O2 := Lib.hid (no_word (odd_not o0 o1) 0 0)
        have Z : Up w (wc.alloc (oddC o).box) := u1.trans (((Up.alloc _ _).then_alloc _).trans (hU.then_alloc _))
        clear dm u1 hU
        obtain ⟨l0, l1, l2, l3, l4, l5⟩ := id hl2
        go_upto_region 24 with (first
          | (go_at_call 25; (with_reducible refine (number_is O.out (by decide) (by decide) _).mono ?_); rintro e w' ⟨rfl, rfl⟩))
        clear l0 l1 l2 l3 l4 l5
        obtain ⟨p0, p1, p2, p3, p4, p5⟩ := hm2.up (Up.alloc wc (oddC o).box)
        obtain ⟨q0, q1, q2, q3, q4, q5⟩ := hl2.up (Up.alloc wc (oddC o).box)
        obtain ⟨r0, r1, r2, r3, r4, r5⟩ := hd.up (Up.alloc wc (oddC o).box)
        obtain ⟨s0, s1, s2, s3, s4, s5⟩ := (oddC o).at_new wc
        have P0 := cell_class p0
        have P1 := cell_class p1
        have P2 := cell_class p2
        have P3 := cell_class p3
        have P4 := cell_class p4
        have P5 := cell_class p5
        replace q0 := cell_class q0
        replace q1 := cell_class q1
        replace q2 := cell_class q2
        replace q3 := cell_class q3
        replace q4 := cell_class q4
        replace q5 := cell_class q5
        replace r0 := cell_class r0
        replace r1 := cell_class r1
        replace r2 := cell_class r2
        replace r3 := cell_class r3
        replace r4 := cell_class r4
        replace r5 := cell_class r5
        replace s0 := cell_class s0
        replace s1 := cell_class s1
        replace s2 := cell_class s2
        replace s3 := cell_class s3
        replace s4 := cell_class s4
        replace s5 := cell_class s5
        clear hm2 hl2 hd
        go_wp2_with (first
          | (go_at_call 10; (with_reducible refine (class_first (may_is most_may _)).mono ?_); rintro e w' ⟨rfl, y, rfl⟩)
          | (go_at_call 10; (with_reducible refine (up_class (may_is D1.out _)).mono ?_); rintro e w' ⟨rfl, y, rfl⟩)
          | (go_at_call 10; (with_reducible refine (up_class (may_is O1.out _)).mono ?_); rintro e w' ⟨rfl, y, rfl⟩)
          | (go_at_call 10; (with_reducible refine (up_class (may_is least_may _)).mono ?_); rintro e w' ⟨rfl, y, rfl⟩)
          | (go_at_call 12; (with_reducible refine (up_class (len_is D2.out _)).mono ?_); rintro e w' ⟨rfl, y, rfl⟩)
          | (go_at_call 12; (with_reducible refine (up_class (len_is most_len _)).mono ?_); rintro e w' ⟨rfl, y, rfl⟩)
          | (go_at_call 12; (with_reducible refine (up_class (len_is least_len _)).mono ?_); rintro e w' ⟨rfl, y, rfl⟩)
          | (go_at_call 14; (with_reducible refine (up_class (pin_is D3.out _)).mono ?_); rintro e w' ⟨rfl, y, rfl⟩)
          | (go_at_call 22; (with_reducible refine (up_class (word_is O2.out _)).mono ?_); rintro e w' ⟨rfl, y, rfl⟩))
        go_ret
        exact ⟨rfl, Z.trans y.up⟩

set_option maxRecDepth 100000 in
theorem lifted (os : Os) (started : os.Started) (H : Type) (enc : TypeId × Value → H) :
    ReturnsInHanded {} Try.checked os 6 .any (Rows.layMaySpec.pre6 enc Try.prog Try.f6 Rows.layMayRow.domain false) (Rows.layMaySpec.post enc Try.prog Try.f6 false true false false) := by
  refine returnsInHanded_of_change (C := Try.checked) own started (by kernel_rfl) Try.func6
    (ChangeSpec.witness6 (enc := enc) (C := Try.checked) false ⟨#[], #[.int .i64 0, .int .i64 0], []⟩ 8 (by kernel_rfl) (by kernel_rfl) (by kernel_rfl) (by kernel_rfl)) ?_
  intro W base args ds gs before hval0 hW hcnd _
  have hval : ∀ (j : Nat) t v, Try.f6.params[j]? = some t → args[j]? = some v → Value.okWide Try.prog W .any base t v := hval0
  have hW' := hW
  obtain ⟨p, q, hA0, hV, rfl, hfz, hnd⟩ := hW
  have hA : DataW.TrodAll enc Try.prog W 0 (fun _ => true) true Try.f6.params.toList args.toList ds p := hA0
  rw [Try.params6] at hA hval
  obtain ⟨v0, vs0, d0, ds0, p0, q0, hargs, rfl, rfl, h0, r0⟩ := trodAll_cons hA
  obtain ⟨v1, vs1, d1, ds1, p1, q1, rfl, rfl, rfl, h1, r1⟩ := trodAll_cons r0
  obtain ⟨rfl, rfl, rfl⟩ := trodAll_nil r1
  obtain rfl : args = #[v0, v1] := by cases args; simp_all
  obtain ⟨rfl, rfl⟩ := trodVars_none hV
  have k0 := h0
  have lt0 : ∀ x ∈ p0, x.block < W.heap.size := by obtain ⟨m, hm⟩ := k0; exact DataW.trod_lt m _ _ _ hm
  obtain ⟨a0, rfl, rfl, rfl, w0⟩ := open_int Try.underlying3 (hval 0 3 v0 rfl rfl) h0
  have k1 := h1
  have lt1 : ∀ x ∈ p1, x.block < W.heap.size := by obtain ⟨m, hm⟩ := k1; exact DataW.trod_lt m _ _ _ hm
  obtain ⟨a1, rfl, rfl, rfl, w1⟩ := open_int Try.underlying3 (hval 1 3 v1 rfl rfl) h1
  clear hA0 hval0
  refine (walk a0 a1 W w0 w1).mono fun e W' ⟨he, bel⟩ => ?_
  subst he
  exact ⟨_, rfl, _, _, _, [], _, [], hW', trodAll_mk1 (shut_bool Try.underlying4 _), (trodAll_cons_mk (Below.trod laidOut (by kernel_rfl) (of_decide_eq_true (by kernel_rfl)) k0 bel lt0) (trodAll_cons_mk (Below.trod laidOut (by kernel_rfl) (of_decide_eq_true (by kernel_rfl)) k1 bel lt1) trodAll_mk0)), rfl, Below.frame bel _, fun h => by cases h⟩

theorem over : Rows.layMayRow.holds Try.pinned (OpenSpec.ofChange Rows.layMaySpec) :=
  OpenClaim.holds_of_wide 6 Try.f6 rfl rfl rfl rfl rfl rfl rfl ⟨rfl, rfl, rfl, rfl, rfl⟩ rfl rfl rfl rfl rfl (by kernel_rfl) Try.func6 (by kernel_rfl)
    (of_decide_eq_true (by kernel_rfl)) (by unfold Func.isWrapper; first | (rw [if_pos (by decide +kernel)]; kernel_rfl) | (rw [if_neg (by decide +kernel)]; exact ⟨rfl, rfl⟩))
    (fun os started H enc _ => lifted os started H enc)

/-- THE STATEMENT -/
theorem proved : Rows.LayMaySaid := over
#print axioms proved
end Go.Proofs.Ytfimnhajokecbaa.layMay
