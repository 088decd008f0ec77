/-
  Proved: of those who would exchange one and the same, one does: the first; the cell holds what that one put ('Rows.CellsWinsSaid'). Conditions: none but those of the statement itself.
-/
import Derived.Test.YtbphbiecmdkckaaRows
import Derived.Test.YtbphbiecmdkckaaCellsLaws
import Derived.WalkKit
import Derived.ProofKit
import Derived.OpenShut
import Derived.ShutString
import Derived.ChangeOld
import Derived.Below
import Derived.Carry
import Derived.Lib.SmallJoins
import Derived.OwnWalk
import Derived.LoopTactic
import Derived.Deep.DeepCutAuto
namespace Go.Proofs.Ytbphbiecmdkckaa.cellsWins
open Go.ChangeShapes Go.WideShapes Go.ChangeAt Go.RowKit Go.Joins Go.Proofs.Ytbphbiecmdkckaa W64
open Go.ChangeMaps (open_string shut_string)
set_option linter.unusedVariables false

theorem own : ownKnob Try.prog.godebug = none := by kernel_rfl
theorem laidOut : laidOutB Try.prog = true := by kernel_rfl

/-- What holds at the head of each round. -/
def Rel (w : World) (p g : Nat) (a : Int) (len : Nat) (won now i : Value) (wr : World) : Prop :=
  ∃ (k : Nat) (s : St) (n x : Int), k ≤ len ∧ i = .int .i64 k ∧ won = .int .i64 n ∧ now = .int .u64 x ∧ (n = 0 ∧ x = a ∨ n = 1 ∧ x ≠ a) ∧ Mem wr p g s ∧ s.xs = [x] ∧ Up w wr ∧ w.heap.size ≤ p ∧ w.heap.size ≤ g
theorem get_one {s : St} {x : Int} (h : s.xs = [x]) : s.get 0 = x := by simp [St.get, h]
theorem has_one {s : St} {x : Int} (h : s.xs = [x]) : s.has 0 := by simp [St.has, h]
theorem hit_one {s : St} {x : Int} (h : s.xs = [x]) (k v : Int) (y : Bool) : (s.hit k 0 v y).xs = [v] := by simp [St.hit, h]
theorem ne_one {s : St} {x a : Int} (h : s.xs = [x]) (hx : x ≠ a) : s.get 0 ≠ a := by rw [get_one h]; exact hx
theorem one_has : (St.zero 1).has 0 := by constructor <;> decide

set_option maxRecDepth 100000 in
set_option maxHeartbeats 4000000 in
theorem walk (a0 : Int) (a1 : Option Addr) (len1 cap1 : Nat) (z1 : List Int) (w : World) (w0 : (Lit.int .u64 a0).wf = true) (w1 : IsRow .u64 w a1 len1 cap1 z1) :
    Calls Try.prog 6 #[.int .u64 a0, .slice a1 len1 cap1] w fun e w' => e = .returned (.bool true) ∧ Up w w' := by
  have HC := Lib.hid (fun k hk => row_cell w1 (k := k) hk)
  have hm := row_len w1
  unfold maxLen at hm
  clear w0 w1
  by_cases h60 : 60 < len1
  · have h61 : (60 : Int) < (len1 : Int) := by omega
    go_enter Try.func6, Try.ntmps6
    go_wp2_with (first
      | (go_at_call 8; refine (first_any _).mono ?_; rintro e w1 ⟨rfl, U1⟩)
      | (go_at_call 10; (with_reducible refine (new_is one_is (by decide) (by decide) _).mono ?_); rintro e w2 ⟨rfl, M, U2⟩; replace M := Lib.hid M))
    go_ret
    exact ⟨rfl, U1.trans U2⟩
  · have h61 : (len1 : Int) ≤ 60 := by omega
    go_enter Try.func6, Try.ntmps6
    go_wp2_with (first
      | (go_at_call 8; refine (first_any _).mono ?_; rintro e w1 ⟨rfl, U1⟩)
      | (go_at_call 10; (with_reducible refine (new_is one_is (by decide) (by decide) _).mono ?_); rintro e w2 ⟨rfl, M, U2⟩; replace M := Lib.hid M)
      | (go_at_call 16; (with_reducible refine (store_to M.out one_has rfl).mono ?_); rintro e w3 ⟨rfl, M3, E3⟩; replace M3 := Lib.hid M3; replace E3 := Lib.hid E3))
    go_loopw [8, 9, 10] (fun n x i wr => Rel w (w1.heap.size + 1) w1.heap.size a0 len1 n x i wr) (fun _ _ i _ => len1 - (intOf i).toNat)
    case atStart => exact ⟨0, _, 0, a0, Nat.zero_le _, rfl, rfl, rfl, .inl ⟨rfl, rfl⟩, M3.out, rfl, Else.up_new (U1.trans U2) E3.out (by have := U1.le; simp; omega), by have := U1.le; omega, U1.le⟩
    case round =>
      obtain ⟨k, s, n, x, hk, rfl, rfl, rfl, hw, hM, hs, hup, hp, hg⟩ := hrel
      replace hM := Lib.hid hM
      replace hs := Lib.hid hs
      clear M M3 E3
      by_cases hlt : k < len1
      · obtain ⟨b, off, rfl, hb, hcl⟩ := HC.out k hlt
        replace hcl := hup.kept hcl
        obtain ⟨t, ht⟩ : ∃ t, z1.getD k 0 = t := ⟨_, rfl⟩
        rw [ht] at hcl
        have hbp : b ∉ [w1.heap.size + 1, w1.heap.size] := by simp; omega
        clear ht
        have i0 : (0 : Int) ≤ (k : Int) := Int.natCast_nonneg _
        have i1 : (k : Int) < (len1 : Int) := by omega
        by_cases hta : t = a0
        · subst hta
          replace hw := Lib.hid hw
          go_wp2_with fail
          go_roundw
          case rel => exact ⟨k + 1, s, n, x, by omega, by go_num, rfl, rfl, hw.out, hM.out, hs.out, hup, hp, hg⟩
          case measure => simp [intOf]; omega
        · rcases hw with ⟨rfl, rfl⟩ | ⟨rfl, hxa⟩
          · go_wp2_with ((go_at_call 18; (with_reducible refine (cas_yes _ hM.out (has_one hs.out) (get_one hs.out)).mono ?_); rintro e w3 ⟨rfl, M3, E3⟩; replace M3 := Lib.hid M3; replace E3 := Lib.hid E3; replace hcl := E3.out.kept hcl hbp))
            go_roundw
            case rel => exact ⟨k + 1, _, 1, t, by omega, by go_num, rfl, rfl, .inr ⟨rfl, hta⟩, M3.out, hit_one hs.out _ _ _, Else.up_new hup E3.out (by simp; omega), hp, hg⟩
            case measure => simp [intOf]; omega
          · have hne := Lib.hid hxa
            go_wp2_with ((go_at_call 18; (with_reducible refine (cas_no _ hM.out (has_one hs.out) (ne_one hs.out hne.out)).mono ?_); rintro e w3 ⟨rfl, M3, E3⟩; replace M3 := Lib.hid M3; replace E3 := Lib.hid E3; replace hcl := E3.out.kept hcl hbp))
            go_roundw
            case rel => exact ⟨k + 1, _, 1, x, by omega, by go_num, rfl, rfl, .inr ⟨rfl, hxa⟩, M3.out, by rw [hit_one hs.out, get_one hs.out], Else.up_new hup E3.out (by simp; omega), hp, hg⟩
            case measure => simp [intOf]; omega
      · replace hw := Lib.hid hw
        go_wp2_with ((go_at_call 22; (with_reducible refine (peek_to hM.out (has_one hs.out) (get_one hs.out)).mono ?_); rintro e w3 ⟨rfl, rfl⟩))
        go_ret
        exact ⟨rfl, hup⟩

set_option maxRecDepth 100000 in
theorem lifted (os : Os) (started : os.Started) (H : Type) (enc : TypeId × Value → H) :
    ReturnsInHanded {} Try.checked os 6 .any (Rows.cellsWinsSpec.pre6 enc Try.prog Try.f6 Rows.cellsWinsRow.domain false) (Rows.cellsWinsSpec.post enc Try.prog Try.f6 false true false false) := by
  refine returnsInHanded_of_change (C := Try.checked) own started (by kernel_rfl) Try.func6
    (ChangeSpec.witness6 (enc := enc) (C := Try.checked) false ⟨#[], #[.int .u64 0, .slice none 0 0], []⟩ 8 (by kernel_rfl) (by kernel_rfl) (by kernel_rfl) (by kernel_rfl)) ?_
  intro W base args ds gs before hval0 hW hcnd _
  have hval : ∀ (j : Nat) t v, Try.f6.params[j]? = some t → args[j]? = some v → Value.okWide Try.prog W .any base t v := hval0
  have hW' := hW
  obtain ⟨p, q, hA0, hV, rfl, hfz, hnd⟩ := hW
  have hA : DataW.TrodAll enc Try.prog W 0 (fun _ => true) true Try.f6.params.toList args.toList ds p := hA0
  rw [Try.params6] at hA hval
  obtain ⟨v0, vs0, d0, ds0, p0, q0, hargs, rfl, rfl, h0, r0⟩ := trodAll_cons hA
  obtain ⟨v1, vs1, d1, ds1, p1, q1, rfl, rfl, rfl, h1, r1⟩ := trodAll_cons r0
  obtain ⟨rfl, rfl, rfl⟩ := trodAll_nil r1
  obtain rfl : args = #[v0, v1] := by cases args; simp_all
  obtain ⟨rfl, rfl⟩ := trodVars_none hV
  have k0 := h0
  have lt0 : ∀ x ∈ p0, x.block < W.heap.size := by obtain ⟨m, hm⟩ := k0; exact DataW.trod_lt m _ _ _ hm
  obtain ⟨a0, rfl, rfl, rfl, w0⟩ := open_int Try.underlying30 (hval 0 30 v0 rfl rfl) h0
  have k1 := h1
  have lt1 : ∀ x ∈ p1, x.block < W.heap.size := by obtain ⟨m, hm⟩ := k1; exact DataW.trod_lt m _ _ _ hm
  obtain ⟨a1, len1, cap1, rfl⟩ := okWide_slice Try.underlying38 (hval 1 38 v1 rfl rfl)
  obtain ⟨z1, w1⟩ : ∃ zs, IsRow .u64 W a1 len1 cap1 zs := by
    obtain ⟨fuel, hf⟩ := h1
    rcases open_ints Try.underlying38 Try.underlying30 (by kernel_rfl) hf with ⟨hcs, _⟩ | ⟨x, l, c, zs, hcs, _, hl, hm, hz, _, hcell, hwz⟩
    · simp [Value.cells] at hcs
      obtain ⟨rfl, rfl, rfl⟩ := hcs
      exact ⟨[], .inl ⟨rfl, rfl, rfl, rfl⟩⟩
    · simp [Value.cells] at hcs
      obtain ⟨rfl, rfl, rfl⟩ := hcs
      exact ⟨zs, .inr ⟨_, rfl, hl, hm, by simpa using hz, hcell, hwz⟩⟩
  clear hA0 hval0
  refine (walk a0 a1 len1 cap1 z1 W w0 w1).mono fun e W' ⟨he, bel⟩ => ?_
  subst he
  exact ⟨_, rfl, _, _, _, [], _, [], hW', trodAll_mk1 (shut_bool Try.underlying4 _), (trodAll_cons_mk (Below.trod laidOut (by kernel_rfl) (of_decide_eq_true (by kernel_rfl)) k0 bel lt0) (trodAll_cons_mk (Below.trod laidOut (by kernel_rfl) (of_decide_eq_true (by kernel_rfl)) k1 bel lt1) trodAll_mk0)), rfl, Below.frame bel _, fun h => by cases h⟩

theorem over : Rows.cellsWinsRow.holds Try.pinned (OpenSpec.ofChange Rows.cellsWinsSpec) :=
  OpenClaim.holds_of_wide 6 Try.f6 rfl rfl rfl rfl rfl rfl rfl ⟨rfl, rfl, rfl, rfl, rfl⟩ rfl rfl rfl rfl rfl (by kernel_rfl) Try.func6 (by kernel_rfl)
    (of_decide_eq_true (by kernel_rfl)) (by unfold Func.isWrapper; first | (rw [if_pos (by decide +kernel)]; kernel_rfl) | (rw [if_neg (by decide +kernel)]; exact ⟨rfl, rfl⟩))
    (fun os started H enc _ => lifted os started H enc)

/-- THE STATEMENT -/
theorem proved : Rows.CellsWinsSaid := over
#print axioms proved
end Go.Proofs.Ytbphbiecmdkckaa.cellsWins
