/-
  Package limbo: the contracts of oldest, Open, empty.
-/
import Derived.Test.YthajdabdiaogiaaLimbo
namespace Go.Proofs.Ythajdabdiaogiaa
open Go.RowKit
set_option maxRecDepth 100000
section
variable {w w' : World} {q : Nat} {F : List Nat} {S : Lb} {V : Nat → Value} {v : Value}
def OldRel (w : World) (q : Nat) (S : Lb) (v i : Value) (wr : World) : Prop := ∃ k : Nat, k ≤ 3 ∧ i = .int .i64 k ∧ v = bptr q (S.oldTo k) ∧ Up w wr
theorem len_pos {xs : List Int} (h : xs ≠ []) : (0 : Int) < (xs.length : Int) := by have := List.length_pos_iff.2 h; omega
theorem pick_nil {S : Lb} {r : Option Nat} {k : Nat} (h : S.L k = []) : S.pick r k = r := by unfold Lb.pick; rw [if_pos h]
theorem pick_first {S : Lb} {k : Nat} (h : S.L k ≠ []) : S.pick none k = some k := by unfold Lb.pick; rw [if_neg h]
theorem pick_less {S : Lb} {j k : Nat} (h : S.L k ≠ []) (h1 : S.T k < S.T j) : S.pick (some j) k = some k := by unfold Lb.pick; rw [if_neg h]; dsimp only; rw [if_pos h1]
theorem pick_more {S : Lb} {j k : Nat} (h : S.L k ≠ []) (h1 : ¬ S.T k < S.T j) : S.pick (some j) k = some j := by unfold Lb.pick; rw [if_neg h]; dsimp only; rw [if_neg h1]
theorem bptr_none (q : Nat) : bptr q none = .pointer none := rfl
theorem bptr_0 (q : Nat) : bptr q (some 0) = .pointer (some ⟨q, 0, none⟩) := rfl
theorem bptr_1 (q : Nat) : bptr q (some 1) = .pointer (some ⟨q, 2, none⟩) := rfl
theorem bptr_2 (q : Nat) : bptr q (some 2) = .pointer (some ⟨q, 4, none⟩) := rfl
set_option maxHeartbeats 4000000 in
theorem oldest_any (E : Lim w q F S) : Calls Try.prog 22 #[.pointer (some ⟨q, 0, none⟩)] w fun e w' => e = .returned (bptr q S.old) ∧ Up w w' := by
  obtain ⟨V, E⟩ := E
  obtain ⟨A0, d0, A1, d1, A2, d2, v0, v1, v2⟩ := E.slices
  obtain ⟨c0, c1, c2, c3, c4, c5, c6⟩ := E.cells
  rw [v0] at c1
  rw [v1] at c3
  rw [v2] at c5
  have HC := Lib.hid (And.intro c0 (And.intro c1 (And.intro c2 (And.intro c3 (And.intro c4 c5)))))
  clear c0 c1 c2 c3 c4 c5 c6 v0 v1 v2 E
  go_enter Try.func22, Try.ntmps22
  go_wp2_with fail
  go_loopw [3, 6] (fun v i wr => OldRel w q S v i wr) (fun _ i _ => 3 - (intOf i).toNat)
  case atStart => exact ⟨0, Nat.zero_le _, rfl, rfl, Up.refl _⟩
  case round =>
    obtain ⟨k, hk, rfl, rfl, hu⟩ := hrel
    have HU := Lib.hid hu
    obtain ⟨c0, c1, c2, c3, c4, c5⟩ := HC.out
    replace c0 := hu.kept c0
    replace c1 := hu.kept c1
    replace c2 := hu.kept c2
    replace c3 := hu.kept c3
    replace c4 := hu.kept c4
    replace c5 := hu.kept c5
    clear hu
    have : k = 0 ∨ k = 1 ∨ k = 2 ∨ k = 3 := by omega
    rcases this with rfl | rfl | rfl | rfl
    · obtain ⟨r, hr⟩ : ∃ r, S.oldTo 0 = r := ⟨_, rfl⟩
      have HR := Lib.hid hr
      rw [hr]
      obtain rfl : r = none := hr.symm
      clear hr
      rw [bptr_none]
      by_cases hl : S.L 0 = []
      · have HP := Lib.hid (pick_nil (S := S) (r := none) hl)
        have e : (S.L 0).length = 0 := by rw [hl]; rfl
        rw [e] at c1
        clear hl e
        go_upto_region 6 with fail
        go_quiet (fail)
        go_wp2_with fail
        go_roundw
        case rel => exact ⟨1, by omega, by go_num, by rw [show S.oldTo 1 = S.pick (S.oldTo 0) 0 from rfl, HR.out, HP.out]; rfl, HU.out.then_drewN nq⟩
        case measure => simp [intOf]
      · have HP := Lib.hid (pick_first hl)
        have hp : 0 < (S.L 0).length := List.length_pos_iff.2 hl
        clear hl
        go_upto_region 6 with fail
        go_quiet (fail)
        go_wp2_with fail
        go_roundw
        case rel => exact ⟨1, by omega, by go_num, by rw [show S.oldTo 1 = S.pick (S.oldTo 0) 0 from rfl, HR.out, HP.out]; rfl, HU.out.then_drewN nq⟩
        case measure => simp [intOf]
    · obtain ⟨r, hr⟩ : ∃ r, S.oldTo 1 = r := ⟨_, rfl⟩
      have HR := Lib.hid hr
      rw [hr]
      rcases r with _ | j
      · clear hr
        rw [bptr_none]
        by_cases hl : S.L 1 = []
        · have HP := Lib.hid (pick_nil (S := S) (r := none) hl)
          have e : (S.L 1).length = 0 := by rw [hl]; rfl
          rw [e] at c3
          clear hl e
          go_upto_region 6 with fail
          go_quiet (fail)
          go_wp2_with fail
          go_roundw
          case rel => exact ⟨2, by omega, by go_num, by rw [show S.oldTo 2 = S.pick (S.oldTo 1) 1 from rfl, HR.out, HP.out]; rfl, HU.out.then_drewN nq⟩
          case measure => simp [intOf]
        · have HP := Lib.hid (pick_first hl)
          have hp : 0 < (S.L 1).length := List.length_pos_iff.2 hl
          clear hl
          go_upto_region 6 with fail
          go_quiet (fail)
          go_wp2_with fail
          go_roundw
          case rel => exact ⟨2, by omega, by go_num, by rw [show S.oldTo 2 = S.pick (S.oldTo 1) 1 from rfl, HR.out, HP.out]; rfl, HU.out.then_drewN nq⟩
          case measure => simp [intOf]
      · have hj := (Lb.oldTo_lt hr).1
        clear hr
        obtain rfl : j = 0 := by omega
        rw [bptr_0]
        by_cases hl : S.L 1 = []
        · have HP := Lib.hid (pick_nil (S := S) (r := (some 0)) hl)
          have e : (S.L 1).length = 0 := by rw [hl]; rfl
          rw [e] at c3
          clear hl e
          go_upto_region 6 with fail
          go_quiet (fail)
          go_wp2_with fail
          go_roundw
          case rel => exact ⟨2, by omega, by go_num, by rw [show S.oldTo 2 = S.pick (S.oldTo 1) 1 from rfl, HR.out, HP.out]; rfl, HU.out.then_drewN nq⟩
          case measure => simp [intOf]
        · have hp : 0 < (S.L 1).length := List.length_pos_iff.2 hl
          by_cases ht : S.T 1 < S.T 0
          · have HP := Lib.hid (pick_less hl ht)
            clear hl
            go_upto_region 6 with fail
            go_quiet (fail)
            go_wp2_with fail
            go_roundw
            case rel => exact ⟨2, by omega, by go_num, by rw [show S.oldTo 2 = S.pick (S.oldTo 1) 1 from rfl, HR.out, HP.out]; rfl, HU.out.then_drewN nq⟩
            case measure => simp [intOf]
          · have HP := Lib.hid (pick_more hl ht)
            clear hl
            have hd : decide (S.T 1 < S.T 0) = false := decide_eq_false ht
            go_upto_region 6 with fail
            go_quiet (fail)
            go_wp2_with fail
            go_roundw
            case rel => exact ⟨2, by omega, by go_num, by rw [show S.oldTo 2 = S.pick (S.oldTo 1) 1 from rfl, HR.out, HP.out]; rfl, HU.out.then_drewN nq⟩
            case measure => simp [intOf]
    · obtain ⟨r, hr⟩ : ∃ r, S.oldTo 2 = r := ⟨_, rfl⟩
      have HR := Lib.hid hr
      rw [hr]
      rcases r with _ | j
      · clear hr
        rw [bptr_none]
        by_cases hl : S.L 2 = []
        · have HP := Lib.hid (pick_nil (S := S) (r := none) hl)
          have e : (S.L 2).length = 0 := by rw [hl]; rfl
          rw [e] at c5
          clear hl e
          go_upto_region 6 with fail
          go_quiet (fail)
          go_wp2_with fail
          go_roundw
          case rel => exact ⟨3, by omega, by go_num, by rw [show S.oldTo 3 = S.pick (S.oldTo 2) 2 from rfl, HR.out, HP.out]; rfl, HU.out.then_drewN nq⟩
          case measure => simp [intOf]
        · have HP := Lib.hid (pick_first hl)
          have hp : 0 < (S.L 2).length := List.length_pos_iff.2 hl
          clear hl
          go_upto_region 6 with fail
          go_quiet (fail)
          go_wp2_with fail
          go_roundw
          case rel => exact ⟨3, by omega, by go_num, by rw [show S.oldTo 3 = S.pick (S.oldTo 2) 2 from rfl, HR.out, HP.out]; rfl, HU.out.then_drewN nq⟩
          case measure => simp [intOf]
      · have hj := (Lb.oldTo_lt hr).1
        clear hr
        have : j = 0 ∨ j = 1 := by omega
        rcases this with rfl | rfl
        · rw [bptr_0]
          by_cases hl : S.L 2 = []
          · have HP := Lib.hid (pick_nil (S := S) (r := (some 0)) hl)
            have e : (S.L 2).length = 0 := by rw [hl]; rfl
            rw [e] at c5
            clear hl e
            go_upto_region 6 with fail
            go_quiet (fail)
            go_wp2_with fail
            go_roundw
            case rel => exact ⟨3, by omega, by go_num, by rw [show S.oldTo 3 = S.pick (S.oldTo 2) 2 from rfl, HR.out, HP.out]; rfl, HU.out.then_drewN nq⟩
            case measure => simp [intOf]
          · have hp : 0 < (S.L 2).length := List.length_pos_iff.2 hl
            by_cases ht : S.T 2 < S.T 0
            · have HP := Lib.hid (pick_less hl ht)
              clear hl
              go_upto_region 6 with fail
              go_quiet (fail)
              go_wp2_with fail
              go_roundw
              case rel => exact ⟨3, by omega, by go_num, by rw [show S.oldTo 3 = S.pick (S.oldTo 2) 2 from rfl, HR.out, HP.out]; rfl, HU.out.then_drewN nq⟩
              case measure => simp [intOf]
            · have HP := Lib.hid (pick_more hl ht)
              clear hl
              have hd : decide (S.T 2 < S.T 0) = false := decide_eq_false ht
              go_upto_region 6 with fail
              go_quiet (fail)
              go_wp2_with fail
              go_roundw
              case rel => exact ⟨3, by omega, by go_num, by rw [show S.oldTo 3 = S.pick (S.oldTo 2) 2 from rfl, HR.out, HP.out]; rfl, HU.out.then_drewN nq⟩
              case measure => simp [intOf]
        · rw [bptr_1]
          by_cases hl : S.L 2 = []
          · have HP := Lib.hid (pick_nil (S := S) (r := (some 1)) hl)
            have e : (S.L 2).length = 0 := by rw [hl]; rfl
            rw [e] at c5
            clear hl e
            go_upto_region 6 with fail
            go_quiet (fail)
            go_wp2_with fail
            go_roundw
            case rel => exact ⟨3, by omega, by go_num, by rw [show S.oldTo 3 = S.pick (S.oldTo 2) 2 from rfl, HR.out, HP.out]; rfl, HU.out.then_drewN nq⟩
            case measure => simp [intOf]
          · have hp : 0 < (S.L 2).length := List.length_pos_iff.2 hl
            by_cases ht : S.T 2 < S.T 1
            · have HP := Lib.hid (pick_less hl ht)
              clear hl
              go_upto_region 6 with fail
              go_quiet (fail)
              go_wp2_with fail
              go_roundw
              case rel => exact ⟨3, by omega, by go_num, by rw [show S.oldTo 3 = S.pick (S.oldTo 2) 2 from rfl, HR.out, HP.out]; rfl, HU.out.then_drewN nq⟩
              case measure => simp [intOf]
            · have HP := Lib.hid (pick_more hl ht)
              clear hl
              have hd : decide (S.T 2 < S.T 1) = false := decide_eq_false ht
              go_upto_region 6 with fail
              go_quiet (fail)
              go_wp2_with fail
              go_roundw
              case rel => exact ⟨3, by omega, by go_num, by rw [show S.oldTo 3 = S.pick (S.oldTo 2) 2 from rfl, HR.out, HP.out]; rfl, HU.out.then_drewN nq⟩
              case measure => simp [intOf]
    · go_wp2_with fail
      go_ret
      exact ⟨rfl, HU.out⟩
    -- end of the round
end
end Go.Proofs.Ythajdabdiaogiaa
