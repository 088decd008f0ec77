/-
  The reference's limbo in memory (RLim); the contracts of NewLimbo, least, Open, Len, Bucket.
-/
import Derived.Test.YthajdabdiaogiaaRLimMath
import Derived.Test.YthajdabdiaogiaaLimbo7
namespace Go.Proofs.Ythajdabdiaogiaa
open Go.RowKit
set_option maxRecDepth 100000

/-- The reference's limbo R lies at p; its buckets' slices are V; all its blocks are among F. -/
structure RLimV (w : World) (p : Nat) (F : List Nat) (R : Lb) (V : Nat → Value) : Prop where
  top : Whole w p 56 #[.int .i64 (R.T 0), .int .i64 (R.T 1), .int .i64 (R.T 2), V 0, V 1, V 2, .int .i64 R.last]
  ints : ∀ k, k < 3 → Ints w (V k) (R.L k)
  mem : p ∈ F
  inF : ∀ k, k < 3 → ∀ b, (V k).ownBlock = some b → b ∈ F
  nq : ∀ k, k < 3 → (V k).ownBlock ≠ some p
  dis : ∀ j k, j < 3 → k < 3 → j ≠ k → ∀ b, (V j).ownBlock = some b → (V k).ownBlock ≠ some b
  lt : ∀ b, b ∈ F → b < w.heap.size
def RLim (w : World) (p : Nat) (F : List Nat) (R : Lb) : Prop := ∃ V, RLimV w p F R V
section
variable {w w' w4 : World} {p : Nat} {F : List Nat} {R : Lb} {V : Nat → Value} {v : Value} {now tag : Int} {items : List Int}
theorem RLimV.up (E : RLimV w p F R V) (u : Up w w') : RLimV w' p F R V :=
  ⟨E.top.up u, fun k hk => (E.ints k hk).up u, E.mem, E.inF, E.nq, E.dis, fun b hb => Nat.lt_of_lt_of_le (E.lt b hb) u.size⟩
theorem RLimV.else (E : RLimV w p F R V) {l : List Nat} (u : Else l w w') (h : ∀ b, b ∈ F → b ∉ l) : RLimV w' p F R V :=
  ⟨u.whole E.top (h _ E.mem), fun k hk => (E.ints k hk).else u (fun b hb e => h b (E.inF k hk b e) hb), E.mem, E.inF, E.nq, E.dis, fun b hb => Nat.lt_of_lt_of_le (E.lt b hb) u.size⟩
theorem RLim.up (E : RLim w p F R) (u : Up w w') : RLim w' p F R := E.imp fun _ E => E.up u
theorem RLim.else (E : RLim w p F R) {l : List Nat} (u : Else l w w') (h : ∀ b, b ∈ F → b ∉ l) : RLim w' p F R := E.imp fun _ E => E.else u h
theorem RLim.lt (E : RLim w p F R) : ∀ b, b ∈ F → b < w.heap.size := E.elim fun _ E => E.lt
theorem RLim.mem (E : RLim w p F R) : p ∈ F := E.elim fun _ E => E.mem
theorem RLimV.cells (E : RLimV w p F R V) : w.cell? ⟨p, 0, none⟩ = some (.int .i64 (R.T 0)) ∧ w.cell? ⟨p, 1, none⟩ = some (.int .i64 (R.T 1)) ∧ w.cell? ⟨p, 2, none⟩ = some (.int .i64 (R.T 2)) ∧ w.cell? ⟨p, 3, none⟩ = some (V 0) ∧
    w.cell? ⟨p, 4, none⟩ = some (V 1) ∧ w.cell? ⟨p, 5, none⟩ = some (V 2) ∧ w.cell? ⟨p, 6, none⟩ = some (.int .i64 R.last) :=
  ⟨E.top.cell rfl, E.top.cell rfl, E.top.cell rfl, E.top.cell rfl, E.top.cell rfl, E.top.cell rfl, E.top.cell rfl⟩
theorem RLimV.slices (E : RLimV w p F R V) : ∃ A0 c0 A1 c1 A2 c2, V 0 = .slice A0 (R.L 0).length c0 ∧ V 1 = .slice A1 (R.L 1).length c1 ∧ V 2 = .slice A2 (R.L 2).length c2 := by
  obtain ⟨A0, c0, h0⟩ := (E.ints 0 (by decide)).slice
  obtain ⟨A1, c1, h1⟩ := (E.ints 1 (by decide)).slice
  obtain ⟨A2, c2, h2⟩ := (E.ints 2 (by decide)).slice
  exact ⟨A0, c0, A1, c1, A2, c2, h0, h1, h2⟩
set_option maxHeartbeats 400000 in
theorem rlnew_any (w : World) : Calls Try.prog 9 #[] w fun e w' => ∃ p, e = .returned (.pointer (some ⟨p, 0, none⟩)) ∧ RLim w' p [p] Lb.rzero ∧ w.heap.size ≤ p ∧ Up w w' := by
  go_enter Try.func9, Try.ntmps9
  go_wp2
  go_ret
  refine ⟨_, rfl, ⟨fun _ => .slice none 0 0, ?_⟩, Nat.le_refl _, Up.alloc _ _⟩
  refine ⟨Whole.new _ _ _, fun k hk => Ints.nil _, by simp, fun k hk b hb => ?_, fun k hk hb => ?_, fun j k hj hk hjk b hb => ?_, fun b hb => ?_⟩
  · simp [Value.ownBlock] at hb
  · simp [Value.ownBlock] at hb
  · simp [Value.ownBlock] at hb
  · simp at hb; subst hb; simp
def idx : Option Nat → Int
  | none => -1
  | some k => k
theorem idx_none : idx none = -1 := rfl
theorem idx_0 : idx (some 0) = 0 := rfl
theorem idx_1 : idx (some 1) = 1 := rfl
theorem idx_2 : idx (some 2) = 2 := rfl
def LeastRel (w : World) (R : Lb) (now : Int) (v i : Value) (wr : World) : Prop := ∃ k : Nat, k ≤ 3 ∧ i = .int .i64 k ∧ v = .int .i64 (idx (R.rTo now k)) ∧ Up w wr
theorem rpick_nil {r : Option Nat} {k : Nat} (h : R.L k = []) : R.rpick now r k = r := by unfold Lb.rpick; rw [if_pos h]
theorem rpick_shut {r : Option Nat} {k : Nat} (h : R.L k ≠ []) (h1 : now - 2 < R.T k) : R.rpick now r k = r := by unfold Lb.rpick; rw [if_neg h, if_pos h1]
theorem rpick_first {k : Nat} (h : R.L k ≠ []) (h1 : ¬ now - 2 < R.T k) : R.rpick now none k = some k := by unfold Lb.rpick; rw [if_neg h, if_neg h1]
theorem rpick_less {j k : Nat} (h : R.L k ≠ []) (h1 : ¬ now - 2 < R.T k) (h2 : R.T k < R.T j) : R.rpick now (some j) k = some k := by unfold Lb.rpick; rw [if_neg h, if_neg h1]; dsimp only; rw [if_pos h2]
theorem rpick_more {j k : Nat} (h : R.L k ≠ []) (h1 : ¬ now - 2 < R.T k) (h2 : ¬ R.T k < R.T j) : R.rpick now (some j) k = some j := by unfold Lb.rpick; rw [if_neg h, if_neg h1]; dsimp only; rw [if_neg h2]
set_option maxHeartbeats 8000000 in
theorem least_any (E : RLim w p F R) (hn : 2 ≤ now) (hn2 : now < 9223372036854775808) : Calls Try.prog 23 #[.pointer (some ⟨p, 0, none⟩), .int .i64 now] w fun e w' => e = .returned (.int .i64 (idx (R.rTo now 3))) ∧ Up w w' := by
  obtain ⟨V, E⟩ := E
  obtain ⟨A0, d0, A1, d1, A2, d2, v0, v1, v2⟩ := E.slices
  obtain ⟨c0, c1, c2, c3, c4, c5, c6⟩ := E.cells
  rw [v0] at c3
  rw [v1] at c4
  rw [v2] at c5
  have HC := Lib.hid (And.intro c0 (And.intro c1 (And.intro c2 (And.intro c3 (And.intro c4 c5)))))
  have a1 : wrap64 (now - 2) = now - 2 := wrap64_in (by omega) (by omega)
  clear c0 c1 c2 c3 c4 c5 c6 v0 v1 v2 E
  go_enter Try.func23, Try.ntmps23
  go_wp2_with fail
  go_loopw [5, 6] (fun v i wr => LeastRel w R now v i wr) (fun _ i _ => 3 - (intOf i).toNat)
  case atStart => exact ⟨0, Nat.zero_le _, rfl, rfl, Up.refl _⟩
  case round =>
    obtain ⟨k, hk, rfl, rfl, hu⟩ := hrel
    have HU := Lib.hid hu
    obtain ⟨c0, c1, c2, c3, c4, c5⟩ := HC.out
    replace c0 := hu.kept c0
    replace c1 := hu.kept c1
    replace c2 := hu.kept c2
    replace c3 := hu.kept c3
    replace c4 := hu.kept c4
    replace c5 := hu.kept c5
    clear hu
    have : k = 0 ∨ k = 1 ∨ k = 2 ∨ k = 3 := by omega
    rcases this with rfl | rfl | rfl | rfl
    · obtain ⟨r, hr⟩ : ∃ r, R.rTo now 0 = r := ⟨_, rfl⟩
      have HR := Lib.hid hr
      rw [hr]
      obtain rfl : r = none := hr.symm
      clear hr
      rw [idx_none]
      by_cases hl : R.L 0 = []
      · have HP := Lib.hid (rpick_nil (R := R) (now := now) (r := none) hl)
        have e : (R.L 0).length = 0 := by rw [hl]; rfl
        rw [e] at c3
        clear hl e
        go_upto_region 5 with fail
        go_quiet (fail)
        go_wp2_with fail
        go_roundw
        case rel => exact ⟨1, by omega, by go_num, by rw [show R.rTo now 1 = R.rpick now (R.rTo now 0) 0 from rfl, HR.out, HP.out]; rfl, HU.out.then_drewN nq⟩
        case measure => simp [intOf]
      · have hp : 0 < (R.L 0).length := List.length_pos_iff.2 hl
        by_cases hs : now - 2 < R.T 0
        · have HP := Lib.hid (rpick_shut (r := none) hl hs)
          have hd : decide (R.T 0 ≤ now - 2) = false := decide_eq_false (by omega)
          clear hl
          go_upto_region 5 with fail
          go_quiet (fail)
          go_wp2_with fail
          go_roundw
          case rel => exact ⟨1, by omega, by go_num, by rw [show R.rTo now 1 = R.rpick now (R.rTo now 0) 0 from rfl, HR.out, HP.out]; rfl, HU.out.then_drewN nq⟩
          case measure => simp [intOf]
        · have hd : R.T 0 ≤ now - 2 := by omega
          have HP := Lib.hid (rpick_first hl hs)
          clear hl
          go_upto_region 5 with fail
          go_quiet (fail)
          go_wp2_with fail
          go_roundw
          case rel => exact ⟨1, by omega, by go_num, by rw [show R.rTo now 1 = R.rpick now (R.rTo now 0) 0 from rfl, HR.out, HP.out]; rfl, HU.out.then_drewN nq⟩
          case measure => simp [intOf]
    · obtain ⟨r, hr⟩ : ∃ r, R.rTo now 1 = r := ⟨_, rfl⟩
      have HR := Lib.hid hr
      rw [hr]
      rcases r with _ | j
      · clear hr
        rw [idx_none]
        by_cases hl : R.L 1 = []
        · have HP := Lib.hid (rpick_nil (R := R) (now := now) (r := none) hl)
          have e : (R.L 1).length = 0 := by rw [hl]; rfl
          rw [e] at c4
          clear hl e
          go_upto_region 5 with fail
          go_quiet (fail)
          go_wp2_with fail
          go_roundw
          case rel => exact ⟨2, by omega, by go_num, by rw [show R.rTo now 2 = R.rpick now (R.rTo now 1) 1 from rfl, HR.out, HP.out]; rfl, HU.out.then_drewN nq⟩
          case measure => simp [intOf]
        · have hp : 0 < (R.L 1).length := List.length_pos_iff.2 hl
          by_cases hs : now - 2 < R.T 1
          · have HP := Lib.hid (rpick_shut (r := none) hl hs)
            have hd : decide (R.T 1 ≤ now - 2) = false := decide_eq_false (by omega)
            clear hl
            go_upto_region 5 with fail
            go_quiet (fail)
            go_wp2_with fail
            go_roundw
            case rel => exact ⟨2, by omega, by go_num, by rw [show R.rTo now 2 = R.rpick now (R.rTo now 1) 1 from rfl, HR.out, HP.out]; rfl, HU.out.then_drewN nq⟩
            case measure => simp [intOf]
          · have hd : R.T 1 ≤ now - 2 := by omega
            have HP := Lib.hid (rpick_first hl hs)
            clear hl
            go_upto_region 5 with fail
            go_quiet (fail)
            go_wp2_with fail
            go_roundw
            case rel => exact ⟨2, by omega, by go_num, by rw [show R.rTo now 2 = R.rpick now (R.rTo now 1) 1 from rfl, HR.out, HP.out]; rfl, HU.out.then_drewN nq⟩
            case measure => simp [intOf]
      · have hj := (Lb.rTo_lt hr).1
        clear hr
        obtain rfl : j = 0 := by omega
        rw [idx_0]
        by_cases hl : R.L 1 = []
        · have HP := Lib.hid (rpick_nil (R := R) (now := now) (r := (some 0)) hl)
          have e : (R.L 1).length = 0 := by rw [hl]; rfl
          rw [e] at c4
          clear hl e
          go_upto_region 5 with fail
          go_quiet (fail)
          go_wp2_with fail
          go_roundw
          case rel => exact ⟨2, by omega, by go_num, by rw [show R.rTo now 2 = R.rpick now (R.rTo now 1) 1 from rfl, HR.out, HP.out]; rfl, HU.out.then_drewN nq⟩
          case measure => simp [intOf]
        · have hp : 0 < (R.L 1).length := List.length_pos_iff.2 hl
          by_cases hs : now - 2 < R.T 1
          · have HP := Lib.hid (rpick_shut (r := (some 0)) hl hs)
            have hd : decide (R.T 1 ≤ now - 2) = false := decide_eq_false (by omega)
            clear hl
            go_upto_region 5 with fail
            go_quiet (fail)
            go_wp2_with fail
            go_roundw
            case rel => exact ⟨2, by omega, by go_num, by rw [show R.rTo now 2 = R.rpick now (R.rTo now 1) 1 from rfl, HR.out, HP.out]; rfl, HU.out.then_drewN nq⟩
            case measure => simp [intOf]
          · have hd : R.T 1 ≤ now - 2 := by omega
            by_cases ht : R.T 1 < R.T 0
            · have HP := Lib.hid (rpick_less hl hs ht)
              clear hl
              go_upto_region 5 with fail
              go_quiet (fail)
              go_wp2_with fail
              go_roundw
              case rel => exact ⟨2, by omega, by go_num, by rw [show R.rTo now 2 = R.rpick now (R.rTo now 1) 1 from rfl, HR.out, HP.out]; rfl, HU.out.then_drewN nq⟩
              case measure => simp [intOf]
            · have HP := Lib.hid (rpick_more hl hs ht)
              clear hl
              have hd2 : decide (R.T 1 < R.T 0) = false := decide_eq_false ht
              go_upto_region 5 with fail
              go_quiet (fail)
              go_wp2_with fail
              go_roundw
              case rel => exact ⟨2, by omega, by go_num, by rw [show R.rTo now 2 = R.rpick now (R.rTo now 1) 1 from rfl, HR.out, HP.out]; rfl, HU.out.then_drewN nq⟩
              case measure => simp [intOf]
    · obtain ⟨r, hr⟩ : ∃ r, R.rTo now 2 = r := ⟨_, rfl⟩
      have HR := Lib.hid hr
      rw [hr]
      rcases r with _ | j
      · clear hr
        rw [idx_none]
        by_cases hl : R.L 2 = []
        · have HP := Lib.hid (rpick_nil (R := R) (now := now) (r := none) hl)
          have e : (R.L 2).length = 0 := by rw [hl]; rfl
          rw [e] at c5
          clear hl e
          go_upto_region 5 with fail
          go_quiet (fail)
          go_wp2_with fail
          go_roundw
          case rel => exact ⟨3, by omega, by go_num, by rw [show R.rTo now 3 = R.rpick now (R.rTo now 2) 2 from rfl, HR.out, HP.out]; rfl, HU.out.then_drewN nq⟩
          case measure => simp [intOf]
        · have hp : 0 < (R.L 2).length := List.length_pos_iff.2 hl
          by_cases hs : now - 2 < R.T 2
          · have HP := Lib.hid (rpick_shut (r := none) hl hs)
            have hd : decide (R.T 2 ≤ now - 2) = false := decide_eq_false (by omega)
            clear hl
            go_upto_region 5 with fail
            go_quiet (fail)
            go_wp2_with fail
            go_roundw
            case rel => exact ⟨3, by omega, by go_num, by rw [show R.rTo now 3 = R.rpick now (R.rTo now 2) 2 from rfl, HR.out, HP.out]; rfl, HU.out.then_drewN nq⟩
            case measure => simp [intOf]
          · have hd : R.T 2 ≤ now - 2 := by omega
            have HP := Lib.hid (rpick_first hl hs)
            clear hl
            go_upto_region 5 with fail
            go_quiet (fail)
            go_wp2_with fail
            go_roundw
            case rel => exact ⟨3, by omega, by go_num, by rw [show R.rTo now 3 = R.rpick now (R.rTo now 2) 2 from rfl, HR.out, HP.out]; rfl, HU.out.then_drewN nq⟩
            case measure => simp [intOf]
      · have hj := (Lb.rTo_lt hr).1
        clear hr
        have : j = 0 ∨ j = 1 := by omega
        rcases this with rfl | rfl
        · rw [idx_0]
          by_cases hl : R.L 2 = []
          · have HP := Lib.hid (rpick_nil (R := R) (now := now) (r := (some 0)) hl)
            have e : (R.L 2).length = 0 := by rw [hl]; rfl
            rw [e] at c5
            clear hl e
            go_upto_region 5 with fail
            go_quiet (fail)
            go_wp2_with fail
            go_roundw
            case rel => exact ⟨3, by omega, by go_num, by rw [show R.rTo now 3 = R.rpick now (R.rTo now 2) 2 from rfl, HR.out, HP.out]; rfl, HU.out.then_drewN nq⟩
            case measure => simp [intOf]
          · have hp : 0 < (R.L 2).length := List.length_pos_iff.2 hl
            by_cases hs : now - 2 < R.T 2
            · have HP := Lib.hid (rpick_shut (r := (some 0)) hl hs)
              have hd : decide (R.T 2 ≤ now - 2) = false := decide_eq_false (by omega)
              clear hl
              go_upto_region 5 with fail
              go_quiet (fail)
              go_wp2_with fail
              go_roundw
              case rel => exact ⟨3, by omega, by go_num, by rw [show R.rTo now 3 = R.rpick now (R.rTo now 2) 2 from rfl, HR.out, HP.out]; rfl, HU.out.then_drewN nq⟩
              case measure => simp [intOf]
            · have hd : R.T 2 ≤ now - 2 := by omega
              by_cases ht : R.T 2 < R.T 0
              · have HP := Lib.hid (rpick_less hl hs ht)
                clear hl
                go_upto_region 5 with fail
                go_quiet (fail)
                go_wp2_with fail
                go_roundw
                case rel => exact ⟨3, by omega, by go_num, by rw [show R.rTo now 3 = R.rpick now (R.rTo now 2) 2 from rfl, HR.out, HP.out]; rfl, HU.out.then_drewN nq⟩
                case measure => simp [intOf]
              · have HP := Lib.hid (rpick_more hl hs ht)
                clear hl
                have hd2 : decide (R.T 2 < R.T 0) = false := decide_eq_false ht
                go_upto_region 5 with fail
                go_quiet (fail)
                go_wp2_with fail
                go_roundw
                case rel => exact ⟨3, by omega, by go_num, by rw [show R.rTo now 3 = R.rpick now (R.rTo now 2) 2 from rfl, HR.out, HP.out]; rfl, HU.out.then_drewN nq⟩
                case measure => simp [intOf]
        · rw [idx_1]
          by_cases hl : R.L 2 = []
          · have HP := Lib.hid (rpick_nil (R := R) (now := now) (r := (some 1)) hl)
            have e : (R.L 2).length = 0 := by rw [hl]; rfl
            rw [e] at c5
            clear hl e
            go_upto_region 5 with fail
            go_quiet (fail)
            go_wp2_with fail
            go_roundw
            case rel => exact ⟨3, by omega, by go_num, by rw [show R.rTo now 3 = R.rpick now (R.rTo now 2) 2 from rfl, HR.out, HP.out]; rfl, HU.out.then_drewN nq⟩
            case measure => simp [intOf]
          · have hp : 0 < (R.L 2).length := List.length_pos_iff.2 hl
            by_cases hs : now - 2 < R.T 2
            · have HP := Lib.hid (rpick_shut (r := (some 1)) hl hs)
              have hd : decide (R.T 2 ≤ now - 2) = false := decide_eq_false (by omega)
              clear hl
              go_upto_region 5 with fail
              go_quiet (fail)
              go_wp2_with fail
              go_roundw
              case rel => exact ⟨3, by omega, by go_num, by rw [show R.rTo now 3 = R.rpick now (R.rTo now 2) 2 from rfl, HR.out, HP.out]; rfl, HU.out.then_drewN nq⟩
              case measure => simp [intOf]
            · have hd : R.T 2 ≤ now - 2 := by omega
              by_cases ht : R.T 2 < R.T 1
              · have HP := Lib.hid (rpick_less hl hs ht)
                clear hl
                go_upto_region 5 with fail
                go_quiet (fail)
                go_wp2_with fail
                go_roundw
                case rel => exact ⟨3, by omega, by go_num, by rw [show R.rTo now 3 = R.rpick now (R.rTo now 2) 2 from rfl, HR.out, HP.out]; rfl, HU.out.then_drewN nq⟩
                case measure => simp [intOf]
              · have HP := Lib.hid (rpick_more hl hs ht)
                clear hl
                have hd2 : decide (R.T 2 < R.T 1) = false := decide_eq_false ht
                go_upto_region 5 with fail
                go_quiet (fail)
                go_wp2_with fail
                go_roundw
                case rel => exact ⟨3, by omega, by go_num, by rw [show R.rTo now 3 = R.rpick now (R.rTo now 2) 2 from rfl, HR.out, HP.out]; rfl, HU.out.then_drewN nq⟩
                case measure => simp [intOf]
    · go_wp2_with fail
      go_ret
      exact ⟨rfl, HU.out⟩
theorem least_to (E : RLim w p F R) (hn : 2 ≤ now) (hn2 : now < 9223372036854775808) {r : Option Nat} (h : R.rTo now 3 = r) : Calls Try.prog 23 #[.pointer (some ⟨p, 0, none⟩), .int .i64 now] w fun e w' => e = .returned (.int .i64 (idx r)) ∧ Up w w' := h ▸ least_any E hn hn2
set_option maxHeartbeats 1000000 in
theorem ropen_any (E : RLim w p F R) (hn2 : now < 9223372036854775808) : Calls Try.prog 11 #[.pointer (some ⟨p, 0, none⟩), .int .i64 now] w fun e w' => e = .returned (.bool (R.ropn now).isSome) ∧ Up w w' := by
  have HE := Lib.hid E
  clear E
  by_cases hn : now < 2
  · have e : R.ropn now = none := if_pos hn
    rw [e]
    go_enter Try.func11, Try.ntmps11
    go_wp2_with fail
    go_ret
    exact ⟨rfl, Up.refl _⟩
  · have hn3 : 2 ≤ now := by omega
    have e : R.ropn now = R.rTo now 3 := if_neg hn
    rw [e]
    rcases h : R.rTo now 3 with _ | k
    · have HO := Lib.hid h
      clear h e
      go_enter Try.func11, Try.ntmps11
      go_wp2_with (go_at_call 23; refine (least_to HE.out hn3 hn2 HO.out).mono ?_; rintro e w1 ⟨rfl, U1⟩; rw [idx_none])
      go_ret
      exact ⟨rfl, U1⟩
    · have HO := Lib.hid h
      have k0 : (0 : Int) ≤ (k : Int) := Int.natCast_nonneg _
      clear h e
      go_enter Try.func11, Try.ntmps11
      go_wp2_with (go_at_call 23; refine (least_to HE.out hn3 hn2 HO.out).mono ?_; rintro e w1 ⟨rfl, U1⟩; unfold idx)
      go_ret
      exact ⟨rfl, U1⟩
theorem ropen_to (E : RLim w p F R) (hn2 : now < 9223372036854775808) {b : Bool} (h : (R.ropn now).isSome = b) : Calls Try.prog 11 #[.pointer (some ⟨p, 0, none⟩), .int .i64 now] w fun e w' => e = .returned (.bool b) ∧ Up w w' := h ▸ ropen_any E hn2
set_option maxHeartbeats 2000000 in
theorem rllen_any (E : RLim w p F R) (hs : R.size ≤ 1000000) : Calls Try.prog 21 #[.pointer (some ⟨p, 0, none⟩)] w fun e w' => e = .returned (.int .i64 (R.size : Nat)) ∧ Up w w' := by
  obtain ⟨V, E⟩ := E
  obtain ⟨A0, d0, A1, d1, A2, d2, v0, v1, v2⟩ := E.slices
  obtain ⟨c0, c1, c2, c3, c4, c5, c6⟩ := E.cells
  rw [v0] at c3
  rw [v1] at c4
  rw [v2] at c5
  unfold Lb.size at hs ⊢
  clear v0 v1 v2 E c0 c1 c2 c6
  generalize (R.L 0).length = n0 at *
  generalize (R.L 1).length = n1 at *
  generalize (R.L 2).length = n2 at *
  have b0 : (0 : Int) ≤ (n0 : Int) := Int.natCast_nonneg _
  have b1 : (0 : Int) ≤ (n1 : Int) := Int.natCast_nonneg _
  have b2 : (0 : Int) ≤ (n2 : Int) := Int.natCast_nonneg _
  have b3 : (n0 : Int) + n1 + n2 ≤ 1000000 := by omega
  go_enter Try.func21, Try.ntmps21
  go_upto_region 1 with fail
  go_quiet (fail)
  go_wp2_with fail
  go_ret
  exact ⟨ret_int (by go_num), Up.drewN _ _⟩
end
end Go.Proofs.Ythajdabdiaogiaa
