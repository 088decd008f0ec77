/-
  The statements' own distinct: each once, as they come.
-/
import Derived.Test.YtalhbebpoohgkaaApp
import Derived.BigQuiet
namespace Go.Proofs.Ytalhbebpoohgkaa
open Go.RowKit
set_option maxRecDepth 100000

/-- Each once, as they come, behind those of a. -/
def ddA : List Nat → List Nat → List Nat
  | a, [] => a
  | a, x :: r => ddA (if x ∈ a then a else a ++ [x]) r
def dd (l : List Nat) : List Nat := ddA [] l
theorem ddA_snoc : ∀ (l a : List Nat) (x : Nat), ddA a (l ++ [x]) = if x ∈ ddA a l then ddA a l else ddA a l ++ [x]
  | [], _, _ => rfl
  | _ :: l, _, x => ddA_snoc l _ x
theorem dd_take {l : List Nat} {k : Nat} (h : k < l.length) : dd (l.take (k + 1)) = if l.getD k 0 ∈ dd (l.take k) then dd (l.take k) else dd (l.take k) ++ [l.getD k 0] := by
  have : l.take (k + 1) = l.take k ++ [l.getD k 0] := by rw [List.take_add_one]; simp [List.getD, h]
  rw [this]; exact ddA_snoc _ _ _
theorem ddA_nodup : ∀ (l a : List Nat), a.Nodup → (ddA a l).Nodup
  | [], _, h => h
  | x :: l, a, h => by
    refine ddA_nodup l _ ?_
    split
    · exact h
    · rw [List.nodup_append]
      refine ⟨h, by simp, fun y hy z hz => ?_⟩
      simp at hz; subst hz
      intro e; subst e; contradiction
theorem ddA_mem : ∀ (l a : List Nat) (x : Nat), x ∈ ddA a l ↔ x ∈ a ∨ x ∈ l
  | [], _, _ => by simp [ddA]
  | y :: l, a, x => by
    unfold ddA
    rw [ddA_mem]
    split
    · constructor
      · rintro (h | h)
        · exact .inl h
        · exact .inr (List.mem_cons_of_mem _ h)
      · rintro (h | h)
        · exact .inl h
        · rcases List.mem_cons.1 h with rfl | h
          · left; assumption
          · exact .inr h
    · simp only [List.mem_append, List.mem_cons, List.not_mem_nil, or_false]
      constructor
      · rintro ((h | h) | h)
        · exact .inl h
        · exact .inr (.inl h)
        · exact .inr (.inr h)
      · rintro (h | h | h)
        · exact .inl (.inl h)
        · exact .inl (.inr h)
        · exact .inr h
theorem dd_nodup (l : List Nat) : (dd l).Nodup := ddA_nodup l [] List.nodup_nil
theorem dd_mem {l : List Nat} {x : Nat} : x ∈ dd l ↔ x ∈ l := by unfold dd; rw [ddA_mem]; simp
theorem ddA_len : ∀ (l a : List Nat), (ddA a l).length ≤ a.length + l.length
  | [], _ => by simp [ddA]
  | x :: l, a => by
    have h := ddA_len l (if x ∈ a then a else a ++ [x])
    unfold ddA
    by_cases c : x ∈ a
    · rw [if_pos c] at h ⊢; simp; omega
    · rw [if_neg c] at h ⊢; simp at h ⊢; omega
theorem dd_len (l : List Nat) : (dd l).length ≤ l.length := by have := ddA_len l []; simpa [dd] using this
theorem I_mem {l : List Nat} {x : Nat} : (x : Int) ∈ I l ↔ x ∈ l := by
  unfold I
  constructor
  · intro h
    obtain ⟨y, hy, e⟩ := List.mem_map.1 h
    have : y = x := by omega
    exact this ▸ hy
  · intro h; exact List.mem_map.2 ⟨x, h, rfl⟩
theorem I_app (a b : List Nat) : I (a ++ b) = I a ++ I b := by simp [I]
theorem mem_take_more {l : List Nat} {x j : Nat} (h : j < l.length) : x ∈ l.take (j + 1) ↔ x ∈ l.take j ∨ l.getD j 0 = x := by
  have e : l.take (j + 1) = l.take j ++ [l.getD j 0] := by rw [List.take_add_one]; simp [List.getD, h]
  rw [e]; simp [eq_comm]

section
variable {w w1 w' : World} {v : Value}
/-- The outer rounds. -/
def DRel (w : World) (xs : List Nat) (v i : Value) (wr : World) : Prop := ∃ k : Nat, k ≤ xs.length ∧ i = .int .i64 k ∧ Ints wr v (I (dd (xs.take k))) ∧ Fresh w v ∧ Up w wr
/-- The inner ones: is x among the first of l? -/
def InRel (w : World) (l : List Nat) (x : Nat) (t j : Value) (wr : World) : Prop := ∃ k : Nat, k ≤ l.length ∧ j = .int .i64 k ∧ t = .bool (decide (x ∈ l.take k)) ∧ Up w wr
set_option maxHeartbeats 4000000 in
theorem distinct_in {xs : List Nat} (R : Rd w v (I xs)) (hl : xs.length ≤ 400) :
    Calls Try.prog 31 #[v] w fun e w' => ∃ v', e = .returned v' ∧ Ints w' v' (I (dd xs)) ∧ Fresh w v' ∧ Up w w' := by
  obtain ⟨A, cap, rfl⟩ := R.slice
  rw [I_len]
  have HR := Lib.hid R
  clear R
  go_enter Try.func31, Try.ntmps31
  go_wp2_with fail
  go_loopw [3, 4] (fun v i wr => DRel w xs v i wr) (fun _ i _ => xs.length - (intOf i).toNat)
  case atStart => exact ⟨0, Nat.zero_le _, rfl, Ints.nil _, (fun k hk => by simp [Value.ownBlock] at hk), Up.refl _⟩
  case round =>
    obtain ⟨k, hk, rfl, J, F, hu⟩ := hrel
    obtain ⟨wo, rfl⟩ : ∃ wo : World, wo = wr := ⟨_, rfl⟩
    have HJ := Lib.hid J
    have HF := Lib.hid F
    have HU := Lib.hid hu
    obtain ⟨B, capB, rfl⟩ := J.slice
    rw [I_len]
    rw [I_len] at HJ HF
    clear J F hu
    have hdl := dd_len (xs.take k)
    have htl : (xs.take k).length ≤ 400 := by simp; omega
    by_cases hlt : k < xs.length
    · obtain ⟨b, off, rfl, hc⟩ := HR.out.cell (j := k) (by rw [I_len]; exact hlt)
      rw [I_get hlt] at hc
      replace hc := HU.out.kept hc
      have HX := Lib.hid (dd_take hlt)
      obtain ⟨x, hx⟩ : ∃ x, xs.getD k 0 = x := ⟨_, rfl⟩
      rw [hx] at hc HX
      obtain ⟨l, el⟩ : ∃ l, dd (xs.take k) = l := ⟨_, rfl⟩
      rw [el] at HX HJ HF hdl ⊢
      clear hx el
      have HC := Lib.hid hc
      have i0 : (0 : Int) ≤ (k : Int) := Int.natCast_nonneg _
      have i1 : (k : Int) < (xs.length : Int) := by omega
      clear hc
      go_wp2_with fail
      go_loopw [5, 6] (fun t j wr => InRel wo l x t j wr) (fun _ j _ => l.length - (intOf j).toNat)
      case atStart => exact ⟨0, Nat.zero_le _, rfl, by simp, Up.refl _⟩
      case round =>
        obtain ⟨j, hj, rfl, rfl, hu⟩ := hrel
        have HV := Lib.hid hu
        clear hu
        have j0 : (0 : Int) ≤ (j : Int) := Int.natCast_nonneg _
        by_cases hjl : j < l.length
        · have j1 : (j : Int) < (l.length : Int) := by omega
          obtain ⟨g2, off2, rfl, hc2⟩ := HJ.out.rd.cell (j := j) (by rw [I_len]; exact hjl)
          rw [I_get hjl] at hc2
          replace hc2 := HV.out.kept hc2
          have hc := HV.out.kept HC.out
          have HM := Lib.hid (mem_take_more (x := x) hjl)
          obtain ⟨y, hy⟩ : ∃ y, l.getD j 0 = y := ⟨_, rfl⟩
          rw [hy] at hc2 HM
          clear hy
          by_cases hin : x ∈ l.take j
          · have e1 : decide (x ∈ l.take j) = true := decide_eq_true hin
            have e2 : decide (x ∈ l.take (j + 1)) = true := decide_eq_true (HM.out.2 (.inl hin))
            have E2 := Lib.hid e2
            rw [e1]
            clear e1 e2 hin
            go_upto_region 9 with fail
            go_quiet (fail)
            go_wp2_with fail
            go_roundw
            case rel => exact ⟨j + 1, by omega, by go_num, by rw [E2.out], HV.out.then_drewN nq⟩
            case measure => simp [intOf]; omega
          · have e1 : decide (x ∈ l.take j) = false := decide_eq_false hin
            rw [e1]
            have hd : ((y : Int) == (x : Int)) = decide (x ∈ l.take (j + 1)) := by
              by_cases c : y = x
              · rw [decide_eq_true (HM.out.2 (.inr c)), c]; simp
              · rw [decide_eq_false (fun h => (HM.out.1 h).elim hin c)]
                simpa using fun h : (y : Int) = x => c (by omega)
            have HD := Lib.hid hd
            clear e1 hd hin
            go_upto_region 9 with fail
            go_quiet (fail)
            go_wp2_with fail
            go_roundw
            case rel => exact ⟨j + 1, by omega, by go_num, by rw [← HD.out], HV.out.then_drewN nq⟩
            case measure => simp [intOf]; omega
        · have j1 : ¬ (j : Int) < (l.length : Int) := by omega
          have e : l.take j = l := List.take_of_length_le (by omega)
          rw [e]
          have hc := HV.out.kept HC.out
          by_cases hin : x ∈ l
          · rw [decide_eq_true hin]
            rw [if_pos hin] at HX
            go_wp2_with fail
            go_roundw
            case rel => exact ⟨k + 1, by omega, by go_num, by rw [HX.out]; exact HJ.out.up HV.out, HF.out, HU.out.trans HV.out⟩
            case measure => simp [intOf]; omega
          · rw [decide_eq_false hin]
            rw [if_neg hin] at HX
            go_wp2_with (at_builtin; refine wpList_app rfl _ _ rfl rfl rfl ((HJ.out.up HV.out).up (Up.alloc _ _)) (rd_one _ (x : Int)) (by rw [I_len]; simp; omega) ?_; intro v' wD hD hgrow hat)
            go_roundw
            case rel =>
              refine ⟨k + 1, by omega, by go_num, ?_, ?_, ?_⟩
              · rw [HX.out, I_app]; exact hD
              · have := HU.out.size; have := HV.out.size
                exact fresh_app HF.out (by simp; omega) hat
              · exact up_app ((HU.out.trans HV.out).then_alloc _) hgrow HF.out
            case measure => simp [intOf]; omega
    · have e : xs.take k = xs := List.take_of_length_le (by omega)
      have i1 : ¬ (k : Int) < (xs.length : Int) := by omega
      rw [e] at HJ HF ⊢
      go_wp2_with fail
      go_ret
      exact ⟨_, rfl, HJ.out, HF.out, HU.out⟩
end
end Go.Proofs.Ytalhbebpoohgkaa
