/-
  Proved: what is done to other cells turns nothing of one: it answers as it does alone ('Rows.CellsApartSaid'). Conditions: none but those of the statement itself.
-/
import Derived.Test.YtbphbiecmdkckaaRows
import Derived.Test.YtbphbiecmdkckaaDoes
import Derived.Test.YtbphbiecmdkckaaRowsIn
import Derived.WalkKit
import Derived.ProofKit
import Derived.OpenShut
import Derived.ShutString
import Derived.ChangeOld
import Derived.Below
import Derived.Carry
import Derived.Lib.SmallJoins
import Derived.OwnWalk
import Derived.LoopTactic
import Derived.Deep.DeepCutAuto
namespace Go.Proofs.Ytbphbiecmdkckaa.cellsApart
open Go.ChangeShapes Go.WideShapes Go.ChangeAt Go.RowKit Go.Joins Go.Proofs.Ytbphbiecmdkckaa W64
open Go.ChangeMaps (open_string shut_string)
set_option linter.unusedVariables false

theorem own : ownKnob Try.prog.godebug = none := by kernel_rfl
theorem laidOut : laidOutB Try.prog = true := by kernel_rfl

/-- What holds at the head of each round: the two memories, of the one cell the same. -/
def Rel (w : World) (pa ga pb gb : Nat) (t : Int) (len : Nat) (i : Value) (wr : World) : Prop :=
  ∃ (k : Nat) (sa sb : St), k ≤ len ∧ i = .int .i64 k ∧ Mem wr pa ga sa ∧ Mem wr pb gb sb ∧ sa.xs.length = 5 ∧ sb.xs.length = 5 ∧ sa.get t = sb.get t ∧ Up w wr
theorem has5 {s : St} (h : s.xs.length = 5) {j : Int} (h0 : 0 ≤ j) (h1 : j < 5) : s.has j := ⟨h0, by omega⟩
theorem get_set {s s' : St} {j y : Int} (h : s'.xs = s.xs.set j.toNat y) (hs : s.has j) : s'.get j = y := by
  obtain ⟨h0, h1⟩ := hs
  have : j.toNat < s.xs.length := by omega
  simp [St.get, h, List.getD, this]
theorem get_else {s s' : St} {j t y : Int} (h : s'.xs = s.xs.set j.toNat y) (h0 : 0 ≤ j) (h1 : 0 ≤ t) (hne : j ≠ t) : s'.get t = s.get t := by
  have : j.toNat ≠ t.toNat := by omega
  simp [St.get, h, List.getD, this]
theorem len_set {s s' : St} {j y : Int} {n : Nat} (h : s'.xs = s.xs.set j.toNat y) (hl : s.xs.length = n) : s'.xs.length = n := by rw [h, List.length_set, hl]
theorem up_else {a w w' : World} {p g : Nat} (u : Up a w) (h : Else [p, g] w w') (hp : a.heap.size ≤ p) (hg : a.heap.size ≤ g) : Up a w' := Else.up_new u h (by simp; omega)
theorem not_two {x a b : Nat} (h1 : x ≠ a) (h2 : x ≠ b) : x ∉ [a, b] := by simp; omega

set_option maxRecDepth 100000 in
set_option maxHeartbeats 4000000 in
theorem walk (a0 : Option Addr) (len0 cap0 : Nat) (z0 : Nat → Nat → Int) (a1 : Int) (w : World) (w0 : IsRows [.i64, .i64, .u64, .u64] w a0 len0 cap0 z0) (w1 : (Lit.int .i64 a1).wf = true) :
    Calls Try.prog 4 #[.slice a0 len0 cap0, .int .i64 a1] w fun e w' => e = .returned (.bool true) ∧ Up w w' := by
  have HC := Lib.hid (fun k hk => w0.four (i := k) hk)
  have hm := w0.len_le
  unfold maxLen at hm
  clear w0 w1
  obtain ⟨t, ht, _, t0, t1⟩ := emod_letter a1 5 (by decide)
  have HT := Lib.hid ht
  clear ht
  by_cases h40 : 40 < len0
  · have h41 : (40 : Int) < (len0 : Int) := by omega
    go_enter Try.func4, Try.ntmps4
    go_wp2_with ((go_at_call 8; refine (first_any _).mono ?_; rintro e w1 ⟨rfl, U1⟩))
    go_ret
    exact ⟨rfl, U1⟩
  · have h41 : (len0 : Int) ≤ 40 := by omega
    go_enter Try.func4, Try.ntmps4
    go_wp2_with (first
      | (go_at_call 8; refine (first_any _).mono ?_; rintro e w1 ⟨rfl, U1⟩)
      | (go_at_call 9; (with_reducible refine (number_is HT.out (by decide) (by decide) _).mono ?_); rintro e w' ⟨rfl, rfl⟩)
      | (go_at_call 10; (with_reducible refine (new_is five_is (by decide) (by decide) w1).mono ?_); rintro e w2 ⟨rfl, Ma, U2⟩; replace Ma := Lib.hid Ma)
      | (go_at_call 10; (with_reducible refine (new_is five_is (by decide) (by decide) w2).mono ?_); rintro e w3 ⟨rfl, Mb, U3⟩; replace Mb := Lib.hid Mb))
    have la := Ma.out.top.lt
    have lw := U1.le
    obtain ⟨A, hA⟩ : ∃ A, w1.heap.size = A := ⟨_, rfl⟩
    obtain ⟨B, hB⟩ : ∃ B, w2.heap.size = B := ⟨_, rfl⟩
    rw [hA] at la lw ⊢
    rw [hB] at la ⊢
    go_loopw [11] (fun i wr => Rel w (A + 1) A (B + 1) B t len0 i wr) (fun i _ => len0 - (intOf i).toNat)
    case atStart => 
      subst hA hB
      exact ⟨0, _, _, Nat.zero_le _, rfl, Ma.out.up U3, Mb.out, rfl, rfl, rfl, (U1.trans U2).trans U3⟩
    case round =>
      obtain ⟨k, sa, sb, hk, rfl, hMa, hMb, la5, lb5, hg, hup⟩ := hrel
      replace hMa := Lib.hid hMa
      replace hMb := Lib.hid hMb
      replace hg := Lib.hid hg
      clear Ma Mb
      by_cases hlt : k < len0
      · obtain ⟨b, off, rfl, hb, c0, c1, c2, c3⟩ := HC.out k hlt
        generalize z0 k 0 = x0 at *
        generalize z0 k 1 = x1 at *
        generalize z0 k 2 = x2 at *
        generalize z0 k 3 = x3 at *
        replace c0 := hup.kept c0
        replace c1 := hup.kept c1
        replace c2 := hup.kept c2
        replace c3 := hup.kept c3
        have i0 : (0 : Int) ≤ (k : Int) := Int.natCast_nonneg _
        have i1 : (k : Int) < (len0 : Int) := by omega
        obtain ⟨r, hr, _, r0, r1⟩ := emod_letter x0 4 (by decide)
        obtain ⟨j, hj, _, j0, j1⟩ := emod_letter x1 5 (by decide)
        have HR := Lib.hid hr
        have HJ := Lib.hid hj
        clear hr hj
        have lB := hMb.out.top.lt
        have nA : wr.heap.size ∉ [A + 1, A] := not_two (by omega) (by omega)
        have nB1 : B + 1 ∉ [A + 1, A] := not_two (by omega) (by omega)
        have nB0 : B ∉ [A + 1, A] := not_two (by omega) (by omega)
        by_cases hjt : j = t
        · subst hjt
          obtain ⟨x, hx⟩ : ∃ x, sa.get j = x := ⟨_, rfl⟩
          have HX := Lib.hid hx
          have HY := Lib.hid (hg.out.symm.trans hx)
          have HA := Lib.hid (has5 la5 t0 t1)
          have HB := Lib.hid (has5 lb5 t0 t1)
          clear hx
          go_wp2_with (first
            | (go_at_call 9; (with_reducible refine (number_is HJ.out (by decide) (by decide) _).mono ?_); rintro e w' ⟨rfl, rfl⟩)
            | (go_at_call 25; (with_reducible refine (does_any _ _ (hMa.out.up (Up.alloc _ _)) HA.out HX.out HR.out).mono ?_); rintro e w4 ⟨rfl, ⟨sa', Ma', ea⟩, E4⟩; have d0 := E4.kept (cell_new rfl (i := 0) rfl) nA; have d1 := E4.kept (cell_new rfl (i := 1) rfl) nA; have d2 := E4.kept (cell_new rfl (i := 2) rfl) nA; have d3 := E4.kept (cell_new rfl (i := 3) rfl) nA; have Mb' := Lib.hid ((hMb.out.up (Up.alloc _ _)).else E4 nB1 nB0); replace Ma' := Lib.hid Ma'; replace E4 := Lib.hid E4; replace ea := Lib.hid ea)
            | (go_at_call 25; (with_reducible refine (does_any _ _ Mb'.out HB.out HY.out HR.out).mono ?_); rintro e w5 ⟨rfl, ⟨sb', Mb'', eb⟩, E5⟩; replace Mb'' := Lib.hid Mb''; replace E5 := Lib.hid E5; replace eb := Lib.hid eb))
          go_roundw
          case rel => exact ⟨k + 1, sa', sb', by omega, by go_num, Ma'.out.else E5.out (not_two (by omega) (by omega)) (not_two (by omega) (by omega)), Mb''.out, len_set ea.out la5, len_set eb.out lb5, (get_set ea.out HA.out).trans (get_set eb.out HB.out).symm, up_else (up_else (hup.then_alloc _) E4.out (by omega) (by omega)) E5.out (by omega) (by omega)⟩
          case measure => simp [intOf]; omega
        · have HA := Lib.hid (has5 la5 j0 j1)
          go_wp2_with (first
            | (go_at_call 9; (with_reducible refine (number_is HJ.out (by decide) (by decide) _).mono ?_); rintro e w' ⟨rfl, rfl⟩)
            | (go_at_call 25; (with_reducible refine (does_any _ _ (hMa.out.up (Up.alloc _ _)) HA.out rfl HR.out).mono ?_); rintro e w4 ⟨rfl, ⟨sa', Ma', ea⟩, E4⟩; have d0 := E4.kept (cell_new rfl (i := 0) rfl) nA; have d1 := E4.kept (cell_new rfl (i := 1) rfl) nA; have d2 := E4.kept (cell_new rfl (i := 2) rfl) nA; have d3 := E4.kept (cell_new rfl (i := 3) rfl) nA; have Mb' := Lib.hid ((hMb.out.up (Up.alloc _ _)).else E4 nB1 nB0); replace Ma' := Lib.hid Ma'; replace E4 := Lib.hid E4; replace ea := Lib.hid ea))
          go_roundw
          case rel => exact ⟨k + 1, sa', sb, by omega, by go_num, Ma'.out, Mb'.out, len_set ea.out la5, lb5, (get_else ea.out j0 t0 hjt).trans hg.out, up_else (hup.then_alloc _) E4.out (by omega) (by omega)⟩
          case measure => simp [intOf]; omega
      · obtain ⟨x, hx⟩ : ∃ x, sa.get t = x := ⟨_, rfl⟩
        have HX := Lib.hid hx
        have HY := Lib.hid (hg.out.symm.trans hx)
        have HA := Lib.hid (has5 la5 t0 t1)
        have HB := Lib.hid (has5 lb5 t0 t1)
        clear hx
        go_wp2_with (first
          | (go_at_call 22; (with_reducible refine (peek_to hMa.out HA.out HX.out).mono ?_); rintro e w' ⟨rfl, rfl⟩)
          | (go_at_call 22; (with_reducible refine (peek_to hMb.out HB.out HY.out).mono ?_); rintro e w' ⟨rfl, rfl⟩))
        go_ret
        exact ⟨rfl, hup⟩

set_option maxRecDepth 100000 in
theorem lifted (os : Os) (started : os.Started) (H : Type) (enc : TypeId × Value → H) :
    ReturnsInHanded {} Try.checked os 4 .any (Rows.cellsApartSpec.pre6 enc Try.prog Try.f4 Rows.cellsApartRow.domain false) (Rows.cellsApartSpec.post enc Try.prog Try.f4 false true false false) := by
  refine returnsInHanded_of_change (C := Try.checked) own started (by kernel_rfl) Try.func4
    (ChangeSpec.witness6 (enc := enc) (C := Try.checked) false ⟨#[], #[.slice none 0 0, .int .i64 0], []⟩ 8 (by kernel_rfl) (by kernel_rfl) (by kernel_rfl) (by kernel_rfl)) ?_
  intro W base args ds gs before hval0 hW hcnd _
  have hval : ∀ (j : Nat) t v, Try.f4.params[j]? = some t → args[j]? = some v → Value.okWide Try.prog W .any base t v := hval0
  have hW' := hW
  obtain ⟨p, q, hA0, hV, rfl, hfz, hnd⟩ := hW
  have hA : DataW.TrodAll enc Try.prog W 0 (fun _ => true) true Try.f4.params.toList args.toList ds p := hA0
  rw [Try.params4] at hA hval
  obtain ⟨v0, vs0, d0, ds0, p0, q0, hargs, rfl, rfl, h0, r0⟩ := trodAll_cons hA
  obtain ⟨v1, vs1, d1, ds1, p1, q1, rfl, rfl, rfl, h1, r1⟩ := trodAll_cons r0
  obtain ⟨rfl, rfl, rfl⟩ := trodAll_nil r1
  obtain rfl : args = #[v0, v1] := by cases args; simp_all
  obtain ⟨rfl, rfl⟩ := trodVars_none hV
  have k0 := h0
  have lt0 : ∀ x ∈ p0, x.block < W.heap.size := by obtain ⟨m, hm⟩ := k0; exact DataW.trod_lt m _ _ _ hm
  obtain ⟨a0, len0, cap0, z0, rfl, w0⟩ := open_rows (ks := [.i64, .i64, .u64, .u64]) Try.underlying22 Try.underlying37 (by kernel_rfl) (by kernel_rfl) rfl
    (fun j f k hf hk => match j, hf, hk with
      | 0, hf, hk => by simp at hf hk; subst hf hk; exact Try.underlying3
      | 1, hf, hk => by simp at hf hk; subst hf hk; exact Try.underlying3
      | 2, hf, hk => by simp at hf hk; subst hf hk; exact Try.underlying30
      | 3, hf, hk => by simp at hf hk; subst hf hk; exact Try.underlying30
      | n + 4, hf, hk => by simp at hk) (hval 0 22 v0 rfl rfl) h0
  have k1 := h1
  have lt1 : ∀ x ∈ p1, x.block < W.heap.size := by obtain ⟨m, hm⟩ := k1; exact DataW.trod_lt m _ _ _ hm
  obtain ⟨a1, rfl, rfl, rfl, w1⟩ := open_int Try.underlying3 (hval 1 3 v1 rfl rfl) h1
  clear hA0 hval0
  refine (walk a0 len0 cap0 z0 a1 W w0 w1).mono fun e W' ⟨he, bel⟩ => ?_
  subst he
  exact ⟨_, rfl, _, _, _, [], _, [], hW', trodAll_mk1 (shut_bool Try.underlying4 _), (trodAll_cons_mk (Below.trod laidOut (by kernel_rfl) (of_decide_eq_true (by kernel_rfl)) k0 bel lt0) (trodAll_cons_mk (Below.trod laidOut (by kernel_rfl) (of_decide_eq_true (by kernel_rfl)) k1 bel lt1) trodAll_mk0)), rfl, Below.frame bel _, fun h => by cases h⟩

theorem over : Rows.cellsApartRow.holds Try.pinned (OpenSpec.ofChange Rows.cellsApartSpec) :=
  OpenClaim.holds_of_wide 4 Try.f4 rfl rfl rfl rfl rfl rfl rfl ⟨rfl, rfl, rfl, rfl, rfl⟩ rfl rfl rfl rfl rfl (by kernel_rfl) Try.func4 (by kernel_rfl)
    (of_decide_eq_true (by kernel_rfl)) (by unfold Func.isWrapper; first | (rw [if_pos (by decide +kernel)]; kernel_rfl) | (rw [if_neg (by decide +kernel)]; exact ⟨rfl, rfl⟩))
    (fun os started H enc _ => lifted os started H enc)

/-- THE STATEMENT -/
theorem proved : Rows.CellsApartSaid := over
#print axioms proved
end Go.Proofs.Ytbphbiecmdkckaa.cellsApart
