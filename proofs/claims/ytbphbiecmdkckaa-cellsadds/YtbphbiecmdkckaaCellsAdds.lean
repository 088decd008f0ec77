/-
  Proved: however many Adds, in whatever order, a cell holds their sum, and each answered what those ahead of it made ('Rows.CellsAddsSaid'). Conditions: none but those of the statement itself.
-/
import Derived.Test.YtbphbiecmdkckaaRows
import Derived.Test.YtbphbiecmdkckaaCellsLaws
import Derived.WalkKit
import Derived.ProofKit
import Derived.OpenShut
import Derived.ShutString
import Derived.ChangeOld
import Derived.Below
import Derived.Carry
import Derived.Lib.SmallJoins
import Derived.OwnWalk
import Derived.LoopTactic
import Derived.Deep.DeepCutAuto
namespace Go.Proofs.Ytbphbiecmdkckaa.cellsAdds
open Go.ChangeShapes Go.WideShapes Go.ChangeAt Go.RowKit Go.Joins Go.Proofs.Ytbphbiecmdkckaa W64
open Go.ChangeMaps (open_string shut_string)
set_option linter.unusedVariables false

theorem own : ownKnob Try.prog.godebug = none := by kernel_rfl
theorem laidOut : laidOutB Try.prog = true := by kernel_rfl

/-- What the first k make. -/
def sumW (zs : List Int) : Nat → Int
  | 0 => 0
  | k + 1 => IntKind.u64.wrap (sumW zs k + zs.getD k 0)
/-- What holds at the head of each round. -/
def Rel (w : World) (p g : Nat) (zs : List Int) (len : Nat) (v i : Value) (wr : World) : Prop :=
  ∃ (k : Nat) (s : St), k ≤ len ∧ i = .int .i64 k ∧ v = .int .u64 (sumW zs k) ∧ Mem wr p g s ∧ s.xs = [sumW zs k] ∧ s.c = k ∧ Up w wr ∧ w.heap.size ≤ p ∧ w.heap.size ≤ g
theorem get_one {s : St} {x : Int} (h : s.xs = [x]) : s.get 0 = x := by simp [St.get, h]
theorem has_one {s : St} {x : Int} (h : s.xs = [x]) : s.has 0 := by simp [St.has, h]
theorem rel_step {w wr w2 : World} {p g k len : Nat} {zs : List Int} {s : St} {x : Int} (hk : k < len) (hl : len ≤ 60) (hx : x = zs.getD k 0) (hs : s.xs = [sumW zs k]) (hc : s.c = k)
    (hup : Up w wr) (hp : w.heap.size ≤ p) (hg : w.heap.size ≤ g) (m : Mem w2 p g (s.hit 4 0 (IntKind.u64.wrap (sumW zs k + x)) true)) (E : Else [p, g] wr w2) :
    Rel w p g zs len (.int .u64 (IntKind.u64.wrap (sumW zs k + x))) (.int .i64 ((k : Int) + 1)) w2 := by
  subst hx
  refine ⟨k + 1, _, by omega, by go_num, rfl, m, ?_, ?_, Else.up_new hup E (by simp; omega), hp, hg⟩
  · simp [St.hit, hs]; rfl
  · show wrap64 (s.c + 1) = _
    rw [hc, IntWalk.wrap64_in _ (by omega)]; omega

set_option maxRecDepth 100000 in
set_option maxHeartbeats 4000000 in
theorem walk (a0 : Option Addr) (len0 cap0 : Nat) (z0 : List Int) (w : World) (w0 : IsRow .u64 w a0 len0 cap0 z0) :
    Calls Try.prog 5 #[.slice a0 len0 cap0] w fun e w' => e = .returned (.bool true) ∧ Up w w' := by
  have HC := Lib.hid (fun k hk => row_cell w0 (k := k) hk)
  have hm := row_len w0
  unfold maxLen at hm
  clear w0
  by_cases h60 : 60 < len0
  · have h61 : (60 : Int) < (len0 : Int) := by omega
    go_enter Try.func5, Try.ntmps5
    go_wp2_with (first
      | (go_at_call 8; refine (first_any _).mono ?_; rintro e w1 ⟨rfl, U1⟩)
      | (go_at_call 10; (with_reducible refine (new_is one_is (by decide) (by decide) _).mono ?_); rintro e w2 ⟨rfl, M, U2⟩; replace M := Lib.hid M))
    go_ret
    exact ⟨rfl, U1.trans U2⟩
  · have h61 : (len0 : Int) ≤ 60 := by omega
    go_enter Try.func5, Try.ntmps5
    go_wp2_with (first
      | (go_at_call 8; refine (first_any _).mono ?_; rintro e w1 ⟨rfl, U1⟩)
      | (go_at_call 10; (with_reducible refine (new_is one_is (by decide) (by decide) _).mono ?_); rintro e w2 ⟨rfl, M, U2⟩; replace M := Lib.hid M))
    go_loopw [6, 7] (fun v i wr => Rel w (w1.heap.size + 1) w1.heap.size z0 len0 v i wr) (fun _ i _ => len0 - (intOf i).toNat)
    case atStart => exact ⟨0, _, Nat.zero_le _, rfl, rfl, M.out, rfl, rfl, U1.trans U2, by have := U1.le; omega, U1.le⟩
    case round =>
      obtain ⟨k, s, hk, rfl, rfl, hM, hs, hc, hup, hp, hg⟩ := hrel
      replace hM := Lib.hid hM
      replace hs := Lib.hid hs
      replace hc := Lib.hid hc
      clear M
      by_cases hlt : k < len0
      · obtain ⟨b, off, rfl, hb, hcl⟩ := HC.out k hlt
        replace hcl := hup.kept hcl
        obtain ⟨x, hx⟩ : ∃ x, x = z0.getD k 0 := ⟨_, rfl⟩
        rw [← hx] at hcl
        have HX := Lib.hid hx
        have hbp : b ∉ [w1.heap.size + 1, w1.heap.size] := by simp; omega
        clear hx
        have i0 : (0 : Int) ≤ (k : Int) := Int.natCast_nonneg _
        have i1 : (k : Int) < (len0 : Int) := by omega
        go_wp2_with ((go_at_call 20; (with_reducible refine (add_to hM.out (has_one hs.out) (get_one hs.out) rfl).mono ?_); rintro e w3 ⟨rfl, M3, E3⟩; replace M3 := Lib.hid M3; replace E3 := Lib.hid E3; replace hcl := E3.out.kept hcl hbp))
        go_roundw
        case rel => exact rel_step hlt (by omega) HX.out hs.out hc.out hup hp hg M3.out E3.out
        case measure => simp [intOf]; omega
      · have hkl : k = len0 := by omega
        subst hkl
        go_wp2_with (first
          | (go_at_call 22; (with_reducible refine (peek_to hM.out (has_one hs.out) (get_one hs.out)).mono ?_); rintro e w3 ⟨rfl, rfl⟩)
          | (go_at_call 24; (with_reducible refine (count_to hM.out hc.out).mono ?_); rintro e w3 ⟨rfl, rfl⟩))
        go_ret
        exact ⟨rfl, hup⟩

set_option maxRecDepth 100000 in
theorem lifted (os : Os) (started : os.Started) (H : Type) (enc : TypeId × Value → H) :
    ReturnsInHanded {} Try.checked os 5 .any (Rows.cellsAddsSpec.pre6 enc Try.prog Try.f5 Rows.cellsAddsRow.domain false) (Rows.cellsAddsSpec.post enc Try.prog Try.f5 false true false false) := by
  refine returnsInHanded_of_change (C := Try.checked) own started (by kernel_rfl) Try.func5
    (ChangeSpec.witness6 (enc := enc) (C := Try.checked) false ⟨#[], #[.slice none 0 0], []⟩ 8 (by kernel_rfl) (by kernel_rfl) (by kernel_rfl) (by kernel_rfl)) ?_
  intro W base args ds gs before hval0 hW hcnd _
  have hval : ∀ (j : Nat) t v, Try.f5.params[j]? = some t → args[j]? = some v → Value.okWide Try.prog W .any base t v := hval0
  have hW' := hW
  obtain ⟨p, q, hA0, hV, rfl, hfz, hnd⟩ := hW
  have hA : DataW.TrodAll enc Try.prog W 0 (fun _ => true) true Try.f5.params.toList args.toList ds p := hA0
  rw [Try.params5] at hA hval
  obtain ⟨v0, vs0, d0, ds0, p0, q0, hargs, rfl, rfl, h0, r0⟩ := trodAll_cons hA
  obtain ⟨rfl, rfl, rfl⟩ := trodAll_nil r0
  obtain rfl : args = #[v0] := by cases args; simp_all
  obtain ⟨rfl, rfl⟩ := trodVars_none hV
  have k0 := h0
  have lt0 : ∀ x ∈ p0, x.block < W.heap.size := by obtain ⟨m, hm⟩ := k0; exact DataW.trod_lt m _ _ _ hm
  obtain ⟨a0, len0, cap0, rfl⟩ := okWide_slice Try.underlying38 (hval 0 38 v0 rfl rfl)
  obtain ⟨z0, w0⟩ : ∃ zs, IsRow .u64 W a0 len0 cap0 zs := by
    obtain ⟨fuel, hf⟩ := h0
    rcases open_ints Try.underlying38 Try.underlying30 (by kernel_rfl) hf with ⟨hcs, _⟩ | ⟨x, l, c, zs, hcs, _, hl, hm, hz, _, hcell, hwz⟩
    · simp [Value.cells] at hcs
      obtain ⟨rfl, rfl, rfl⟩ := hcs
      exact ⟨[], .inl ⟨rfl, rfl, rfl, rfl⟩⟩
    · simp [Value.cells] at hcs
      obtain ⟨rfl, rfl, rfl⟩ := hcs
      exact ⟨zs, .inr ⟨_, rfl, hl, hm, by simpa using hz, hcell, hwz⟩⟩
  clear hA0 hval0
  refine (walk a0 len0 cap0 z0 W w0).mono fun e W' ⟨he, bel⟩ => ?_
  subst he
  exact ⟨_, rfl, _, _, _, [], _, [], hW', trodAll_mk1 (shut_bool Try.underlying4 _), (trodAll_cons_mk (Below.trod laidOut (by kernel_rfl) (of_decide_eq_true (by kernel_rfl)) k0 bel lt0) trodAll_mk0), rfl, Below.frame bel _, fun h => by cases h⟩

theorem over : Rows.cellsAddsRow.holds Try.pinned (OpenSpec.ofChange Rows.cellsAddsSpec) :=
  OpenClaim.holds_of_wide 5 Try.f5 rfl rfl rfl rfl rfl rfl rfl ⟨rfl, rfl, rfl, rfl, rfl⟩ rfl rfl rfl rfl rfl (by kernel_rfl) Try.func5 (by kernel_rfl)
    (of_decide_eq_true (by kernel_rfl)) (by unfold Func.isWrapper; first | (rw [if_pos (by decide +kernel)]; kernel_rfl) | (rw [if_neg (by decide +kernel)]; exact ⟨rfl, rfl⟩))
    (fun os started H enc _ => lifted os started H enc)

/-- THE STATEMENT -/
theorem proved : Rows.CellsAddsSaid := over
#print axioms proved
end Go.Proofs.Ytbphbiecmdkckaa.cellsAdds
