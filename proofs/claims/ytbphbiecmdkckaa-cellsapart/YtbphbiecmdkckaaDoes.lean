/-
  The statements' own does of layer 5: what it answers and what the cell holds behind it, by what it held.
-/
import Derived.Test.YtbphbiecmdkckaaCellsLaws
namespace Go.Proofs.Ytbphbiecmdkckaa
open Go.RowKit

/-- What an access tells: its kind, what the cell held, the two words. -/
def doOut (r x v _u : Int) : Int := if r = 0 then x else if r = 1 then 0 else if r = 2 then (if x = v then 1 else 0) else x
/-- What the cell holds behind it. -/
def doNew (r x v u : Int) : Int := if r = 0 then x else if r = 1 then v else if r = 2 then (if x = v then u else x) else IntKind.u64.wrap (x + v)

theorem ret_u64 {a b : Int} (h : a = b) : Ending.returned (.int .u64 a) = .returned (.int .u64 b) := by rw [h]
set_option maxHeartbeats 2000000 in
theorem does_any {w : World} {p g : Nat} {s : St} {kd i r x : Int} (v u : Int) (m : Mem w p g s) (h : s.has i) (hx : s.get i = x) (hr : kd % 4 = r) :
    Calls Try.prog 25 #[.pointer (some ⟨p, 0, none⟩), .agg #[.int .i64 kd, .int .i64 i, .int .u64 v, .int .u64 u]] w fun e w' =>
      e = .returned (.int .u64 (doOut r x v u)) ∧ (∃ s', Mem w' p g s' ∧ s'.xs = s.xs.set i.toNat (doNew r x v u)) ∧ Else [p, g] w w' := by
  have r0 : 0 ≤ r := hr ▸ Int.emod_nonneg _ (by decide)
  have r1 : r < 4 := hr ▸ Int.emod_lt_of_pos _ (by decide)
  have HR := Lib.hid hr
  have HX := Lib.hid hx
  have HH := Lib.hid h
  have HM := Lib.hid (fun o => m.up (Up.alloc w o))
  clear hr hx h m
  rcases (show r = 0 ∨ r = 1 ∨ r = 2 ∨ r = 3 by omega) with rfl | rfl | rfl | rfl
  · go_enter Try.func25, Try.ntmps25
    go_wp2_with (first
      | (go_at_call 9; (with_reducible refine (number_is HR.out (by decide) (by decide) _).mono ?_); rintro e w' ⟨rfl, rfl⟩)
      | (go_at_call 14; (with_reducible refine (load_to (HM.out _) HH.out HX.out rfl).mono ?_); rintro e w3 ⟨rfl, M3, E3⟩; replace M3 := Lib.hid M3; replace E3 := Lib.hid E3))
    go_ret
    exact ⟨ret_u64 rfl, ⟨_, M3.out, rfl⟩, (Else.of_up (Up.alloc _ _)).trans E3.out⟩
  · go_enter Try.func25, Try.ntmps25
    go_wp2_with (first
      | (go_at_call 9; (with_reducible refine (number_is HR.out (by decide) (by decide) _).mono ?_); rintro e w' ⟨rfl, rfl⟩)
      | (go_at_call 16; (with_reducible refine (store_to (HM.out _) HH.out rfl).mono ?_); rintro e w3 ⟨rfl, M3, E3⟩; replace M3 := Lib.hid M3; replace E3 := Lib.hid E3))
    go_ret
    exact ⟨ret_u64 rfl, ⟨_, M3.out, rfl⟩, (Else.of_up (Up.alloc _ _)).trans E3.out⟩
  · by_cases hv : x = v
    · subst hv
      go_enter Try.func25, Try.ntmps25
      go_wp2_with (first
        | (go_at_call 9; (with_reducible refine (number_is HR.out (by decide) (by decide) _).mono ?_); rintro e w' ⟨rfl, rfl⟩)
        | (go_at_call 18; (with_reducible refine (cas_yes _ (HM.out _) HH.out HX.out).mono ?_); rintro e w3 ⟨rfl, M3, E3⟩; replace M3 := Lib.hid M3; replace E3 := Lib.hid E3))
      go_ret
      exact ⟨ret_u64 (by simp [doOut]), ⟨_, M3.out, by simp [St.hit, doNew]⟩, (Else.of_up (Up.alloc _ _)).trans E3.out⟩
    · have hg : s.get i ≠ v := by rw [HX.out]; exact hv
      have HV := Lib.hid hg
      clear hg
      go_enter Try.func25, Try.ntmps25
      go_wp2_with (first
        | (go_at_call 9; (with_reducible refine (number_is HR.out (by decide) (by decide) _).mono ?_); rintro e w' ⟨rfl, rfl⟩)
        | (go_at_call 18; (with_reducible refine (cas_no _ (HM.out _) HH.out HV.out).mono ?_); rintro e w3 ⟨rfl, M3, E3⟩; replace M3 := Lib.hid M3; replace E3 := Lib.hid E3))
      go_ret
      exact ⟨ret_u64 (by simp [doOut, hv]), ⟨_, M3.out, by simp [St.hit, doNew, hv, HX.out]⟩, (Else.of_up (Up.alloc _ _)).trans E3.out⟩
  · go_enter Try.func25, Try.ntmps25
    go_wp2_with (first
      | (go_at_call 9; (with_reducible refine (number_is HR.out (by decide) (by decide) _).mono ?_); rintro e w' ⟨rfl, rfl⟩)
      | (go_at_call 20; (with_reducible refine (add_to (HM.out _) HH.out HX.out rfl).mono ?_); rintro e w3 ⟨rfl, M3, E3⟩; replace M3 := Lib.hid M3; replace E3 := Lib.hid E3))
    go_ret
    exact ⟨ret_u64 rfl, ⟨_, M3.out, rfl⟩, (Else.of_up (Up.alloc _ _)).trans E3.out⟩
end Go.Proofs.Ytbphbiecmdkckaa
