/-
  LimboOrder of layer 7: three tags in a row, so many items each: what is ready comes by tags rising, of one tag as it was retired, and a bucket is open just if its tag and 2 are reached; for all numbers.
-/
import Derived.Test.YthajdabdiaogiaaRows
import Derived.Test.YthajdabdiaogiaaLimboLaws
import Derived.Test.YthajdabdiaogiaaOrdMath
import Derived.WalkKit
import Derived.ProofKit
import Derived.OpenShut
import Derived.ShutString
import Derived.ChangeOld
import Derived.Below
import Derived.Carry
import Derived.Lib.SmallJoins
import Derived.Deep.RegionHeld3
namespace Go.Proofs.Ythajdabdiaogiaa.limboOrder
open Go.ChangeShapes Go.WideShapes Go.ChangeAt Go.RowKit Go.Joins Go.Proofs.Ythajdabdiaogiaa W64
open Go.ChangeMaps (open_string shut_string)
set_option linter.unusedVariables false

theorem own : ownKnob Try.prog.godebug = none := by kernel_rfl
theorem laidOut : laidOutB Try.prog = true := by kernel_rfl

def ell (i k : Nat) : List Int := (List.range k).map (fun j => ((10 * i + j : Nat) : Int))
theorem ell_succ (i k : Nat) : ell i (k + 1) = ell i k ++ [((10 * i + k : Nat) : Int)] := by unfold ell; rw [List.range_succ]; simp
theorem ell_len (i k : Nat) : (ell i k).length = k := by simp [ell]
theorem ell_nil (i : Nat) : ell i 0 = [] := rfl
theorem ell_ne {i k : Nat} (h : 0 < k) : ell i k ≠ [] := fun e => by have := ell_len i k; rw [e] at this; simp at this; omega
/-- The three lists. -/
def lst (N : Nat → Nat) (i : Nat) : List Int := ell i (N i)
def OrdRel (W : World) (q t : Nat) (at_ : Int) (l : Nat → List Int) (v i : Value) (wr : World) : Prop :=
  ∃ k : Nat, k ≤ 3 ∧ i = .int .i64 k ∧ ∃ F, Mine W wr q F (ordS t l k) ∧ Ints wr v (ordW t at_ l k) ∧ Away v F ∧ Fresh W v
def ItRel (w : World) (i n : Nat) (v j : Value) (wr : World) : Prop := ∃ k : Nat, k ≤ n ∧ j = .int .i64 k ∧ Ints wr v (ell i k) ∧ Fresh w v ∧ Up w wr
theorem ordW_len (t : Nat) (at_ : Int) (l : Nat → List Int) (h : ∀ j, (l j).length ≤ 5) : ∀ i, (ordW t at_ l i).length ≤ 5 * i
  | 0 => by simp [ordW]
  | i + 1 => by
    have := ordW_len t at_ l h i
    have := h i
    unfold ordW
    split
    · rw [List.length_append]; omega
    · omega
theorem lnew_q (w : World) : Calls Try.prog 8 #[] w fun e w' => ∃ q, e = .returned (.pointer (some ⟨q, 0, none⟩)) ∧ Mine w w' q [q] Lb.zero :=
  (lnew_mine w).mono fun _ _ ⟨he, M⟩ => ⟨_, he, M⟩
theorem ordS_nil {t i : Nat} {l : Nat → List Int} (h : l i = []) : ordS t l (i + 1) = ordS t l i := by rw [ordS, if_pos h]
theorem ordW_nil {t i : Nat} {at_ : Int} {l : Nat → List Int} (h : l i = []) : ordW t at_ l (i + 1) = ordW t at_ l i := by rw [ordW, if_neg (fun h' => h'.1 h)]
theorem ordS_more {t i : Nat} {l : Nat → List Int} (h : l i ≠ []) : (ordS t l i).retire (kb t i) ((t : Int) + i) (l i) = ordS t l (i + 1) := by rw [ordS, if_neg h]; rfl
theorem ordW_no {t i : Nat} {z : Int} {l : Nat → List Int} (h : ¬ (t : Int) + i + 2 ≤ t + z) : ordW t (t + z) l (i + 1) = ordW t (t + z) l i := by rw [ordW, if_neg (fun h' => h (by have := h'.2; omega))]
theorem ordW_yes {t i : Nat} {z : Int} {l : Nat → List Int} (hl : l i ≠ []) (h : (t : Int) + i + 2 ≤ t + z) : ordW t (t + z) l (i + 1) = ordW t (t + z) l i ++ l i := by rw [ordW, if_pos ⟨hl, by omega⟩]
theorem ord_app {W w w' : World} {q : Nat} {F : List Nat} {S : Lb} {v v' : Value} {xs : List Int} (M : Mine W w q F S) (A : Away v F) (Fr : Fresh W v) (J' : Ints w' v' xs) (g : w.grownBy w' v.ownBlock) (h : v'.ownBlock = v.ownBlock ∨ v'.ownBlock = some w.heap.size) : Mine W w' q F S ∧ Away v' F ∧ Fresh W v' := by
  have u : Else v.ownBlock.toList w w' := (Else.refl _ _).grown g (fun b hb => .inl (by simp [hb]))
  refine ⟨M.else u (fun b hb hv => A b hb (by simpa using hv)) (fun b hb => Fr b (by simpa using hb)), fun b hb e => ?_, fresh_app Fr M.up.size h⟩
  rcases h with h | h
  · exact A b hb (h ▸ e)
  · rw [e] at h; injection h with h
    have := M.lim.lt b hb; omega

set_option maxHeartbeats 8000000 in
set_option maxRecDepth 100000 in
theorem walk (a0 : Int) (a1 : Int) (a2 : Int) (a3 : Int) (a4 : Int) (w : World) (w0 : (Lit.int .i64 a0).wf = true) (w1 : (Lit.int .i64 a1).wf = true) (w2 : (Lit.int .i64 a2).wf = true) (w3 : (Lit.int .i64 a3).wf = true) (w4 : (Lit.int .i64 a4).wf = true) :
    Calls Try.prog 5 #[.int .i64 a0, .int .i64 a1, .int .i64 a2, .int .i64 a3, .int .i64 a4] w fun e w' => e = .returned (.bool true) ∧ Up w w' := by
  clear w0 w1 w2 w3 w4
  obtain ⟨x, hx, _, x0, x1⟩ := emod_letter a0 1000 (by decide)
  obtain ⟨t, rfl⟩ : ∃ t : Nat, x = t := ⟨x.toNat, by omega⟩
  obtain ⟨y0, hy0, _, y00, y01⟩ := emod_letter a1 5 (by decide)
  obtain ⟨n0, rfl⟩ : ∃ n : Nat, y0 = n := ⟨y0.toNat, by omega⟩
  obtain ⟨y1, hy1, _, y10, y11⟩ := emod_letter a2 5 (by decide)
  obtain ⟨n1, rfl⟩ : ∃ n : Nat, y1 = n := ⟨y1.toNat, by omega⟩
  obtain ⟨y2, hy2, _, y20, y21⟩ := emod_letter a3 5 (by decide)
  obtain ⟨n2, rfl⟩ : ∃ n : Nat, y2 = n := ⟨y2.toNat, by omega⟩
  obtain ⟨z, hz, _, z0, z1⟩ := emod_letter a4 7 (by decide)
  have HX := Lib.hid hx
  have H0 := Lib.hid hy0
  have H1 := Lib.hid hy1
  have H2 := Lib.hid hy2
  have HZ := Lib.hid hz
  clear hx hy0 hy1 hy2 hz
  go_enter Try.func5, Try.ntmps5
  go_wp2_with (first
    | (go_at_call 7; refine (first_any _).mono ?_; rintro e wA ⟨rfl, UA⟩)
    | (go_at_call 12; (with_reducible refine (number_is HX.out (by decide) (by decide) _).mono ?_); rintro e w' ⟨rfl, rfl⟩)
    | (go_at_call 12; (with_reducible refine (number_is H0.out (by decide) (by decide) _).mono ?_); rintro e w' ⟨rfl, rfl⟩)
    | (go_at_call 12; (with_reducible refine (number_is H1.out (by decide) (by decide) _).mono ?_); rintro e w' ⟨rfl, rfl⟩)
    | (go_at_call 12; (with_reducible refine (number_is H2.out (by decide) (by decide) _).mono ?_); rintro e w' ⟨rfl, rfl⟩)
    | (go_at_call 12; (with_reducible refine (number_is HZ.out (by decide) (by decide) _).mono ?_); rintro e w' ⟨rfl, rfl⟩)
    | (go_at_call 8; refine (lnew_q _).mono ?_; rintro e wB ⟨q, rfl, MB⟩; have HM1 := Lib.hid MB; clear MB))
  obtain ⟨W1, hW1⟩ : ∃ W1, wA.alloc (.cells #[.int .i64 n0, .int .i64 n1, .int .i64 n2] 3) = W1 := ⟨_, rfl⟩
  obtain ⟨nb, hnb⟩ : ∃ nb, wA.heap.size = nb := ⟨_, rfl⟩
  have d0 : W1.cell? ⟨nb, 0, none⟩ = some (.int .i64 n0) := by rw [← hW1]; exact cell_new hnb.symm rfl
  have d1 : W1.cell? ⟨nb, 1, none⟩ = some (.int .i64 n1) := by rw [← hW1]; exact cell_new hnb.symm rfl
  have d2 : W1.cell? ⟨nb, 2, none⟩ = some (.int .i64 n2) := by rw [← hW1]; exact cell_new hnb.symm rfl
  have HUW := Lib.hid (show Up w W1 by rw [← hW1]; exact UA.then_alloc _)
  rw [hW1] at HM1
  rw [hnb]
  clear hW1 hnb UA
  obtain ⟨N, hN⟩ : ∃ N : Nat → Nat, N = (fun i => if i = 0 then n0 else if i = 1 then n1 else n2) := ⟨_, rfl⟩
  have HN := Lib.hid hN
  have hN5 : ∀ i, N i ≤ 5 := by intro i; rw [hN]; dsimp only; split; omega; split <;> omega
  have HC := Lib.hid (show ∀ i, i < 3 → W1.cell? ⟨nb, i, none⟩ = some (.int .i64 (N i : Nat)) from three (by rw [hN]; exact d0) (by rw [hN]; exact d1) (by rw [hN]; exact d2))
  have HL5 := Lib.hid (show ∀ j, (lst N j).length ≤ 5 from fun j => by unfold lst; rw [ell_len]; exact hN5 j)
  have HN5 := Lib.hid hN5
  have HD := Lib.hid (And.intro d0 (And.intro d1 d2))
  have HO := Lib.hid (ord_at t (by omega) (lst N))
  clear hN hN5 d0 d1 d2
  go_loopw [16, 17] (fun v i wr => OrdRel W1 q t (t + z) (lst N) v i wr) (fun _ i _ => 3 - (intOf i).toNat)
  case atStart => exact ⟨0, Nat.zero_le _, rfl, _, HM1.out, Ints.nil _, fun b _ e => by simp [Value.ownBlock] at e, fresh_nil _⟩
  case round =>
    obtain ⟨i, hi, rfl, F, M, J, A, Fr⟩ := hrel
    obtain ⟨wo, rfl⟩ : ∃ wo : World, wo = wr := ⟨_, rfl⟩
    have HM := Lib.hid M
    have HJ := Lib.hid J
    have HA := Lib.hid A
    have HF := Lib.hid Fr
    obtain ⟨Av, Nv, cv, rfl⟩ := shapeI J
    clear M J A Fr
    have i0 : (0 : Int) ≤ (i : Int) := Int.natCast_nonneg _
    by_cases hlt : i < 3
    · have i1 : (i : Int) < 3 := by omega
      have hn5 := HN5.out i
      have hc := Lib.hid (HC.out i hlt)
      obtain ⟨n, hn⟩ : ∃ n, N i = n := ⟨_, rfl⟩
      have HNI := Lib.hid hn
      rw [hn] at hc hn5
      clear hn
      go_wp2_with fail
      go_loopw [18, 19] (fun v j wr => ItRel wo i n v j wr) (fun _ j _ => n - (intOf j).toNat)
      case atStart => exact ⟨0, Nat.zero_le _, rfl, Ints.nil _, fresh_nil _, Up.refl _⟩
      case round =>
        obtain ⟨k, hk, rfl, J2, F2, hu⟩ := hrel
        have HJ2 := Lib.hid J2
        have HF2 := Lib.hid F2
        have HU2 := Lib.hid hu
        have hc2 := (HM.out.up.trans hu).kept hc.out
        have k0 : (0 : Int) ≤ (k : Int) := Int.natCast_nonneg _
        clear J2 F2 hu
        by_cases hkn : k < n
        · have k1 : (k : Int) < (n : Int) := by omega
          have HE := Lib.hid (ell_succ i k)
          have ev : ((10 * i + k : Nat) : Int) = 10 * (i : Int) + k := by omega
          rw [ev] at HE
          go_wp2_with (at_builtin; refine wpList_app rfl _ _ rfl rfl rfl (HJ2.out.up (Up.alloc _ _)) (rd_one _ (10 * (i : Int) + k)) (by rw [ell_len]; simp; omega) ?_; intro v' wD hD hgrow hat)
          go_roundw
          case rel =>
            refine ⟨k + 1, by omega, by go_num, ?_, ?_, ?_⟩
            · rw [HE.out]; exact hD
            · have := HU2.out.size
              exact fresh_app HF2.out (by simp; omega) hat
            · exact up_app (HU2.out.then_alloc _) hgrow HF2.out
          case measure => simp [intOf]; omega
        · have k1 : ¬ (k : Int) < (n : Int) := by omega
          have ek : k = n := by omega
          subst ek
          obtain ⟨A2, c2, e2⟩ := HJ2.out.slice
          rw [ell_len] at e2
          subst e2
          have HLI := Lib.hid (show lst N i = ell i k by unfold lst; rw [HNI.out])
          have HMr := Lib.hid (HM.out.then HU2.out)
          have HJr := Lib.hid (HJ.out.up HU2.out)
          by_cases hz : k = 0
          · subst hz
            have HLN := Lib.hid (show lst N i = [] by rw [HLI.out]; rfl)
            go_wp2_with fail
            go_roundw
            case rel => exact ⟨i + 1, by omega, by go_num, F, by rw [ordS_nil HLN.out]; exact HMr.out, by rw [ordW_nil HLN.out]; exact HJr.out, HA.out, HF.out⟩
            case measure => simp [intOf]; omega
          · have hz2 : ((k : Int) == 0) = false := by simpa using hz
            have HLN := Lib.hid (show lst N i ≠ [] by rw [HLI.out]; exact ell_ne (by omega))
            have HOI := Lib.hid (HO.out i (by omega))
            have HSM := Lib.hid (ord_small HOI.out HL5.out)
            have HLA := Lib.hid (show (ordS t (lst N) i).last ≤ (t : Int) + i by have := HOI.out.last; omega)
            have HAW := Lib.hid (away_new (v := .slice A2 k c2) (HM.out.lim) HF2.out)
            have HRL := Lib.hid (show Rd wr (.slice A2 k c2) (lst N i) by rw [HLI.out]; exact HJ2.out.rd)
            have HKB := Lib.hid (show ((t : Int) + i) % 3 = (kb t i : Nat) by unfold kb; omega)
            have HSZ := Lib.hid (show (ordS t (lst N) i).size + (lst N i).length ≤ 8192 by have := HSM.out; have := HL5.out i; omega)
            have HSN := Lib.hid (ordS_more (t := t) HLN.out)
            have HTK := Lib.hid (ord_taken HOI.out hlt ((t : Int) + i))
            have HNIL := Lib.hid (show ([] : List Int).length = 0 from rfl)
            have HWL := Lib.hid (ordW_len t (t + z) (lst N) HL5.out i)
            have HLI5 := Lib.hid (HL5.out i)
            by_cases hop : (t : Int) + i + 2 ≤ t + z
            · have HWN := Lib.hid (ordW_yes HLN.out hop)
              go_wp2_with (first
                | (go_at_call 13; (with_reducible refine (lretire_to (n := 0) HMr.out.lim HRL.out HAW.out HLN.out HLA.out (by omega) HKB.out HSZ.out HSN.out HTK.out HNIL.out).mono ?_); rintro e w5 ⟨A5, c5, rfl, T5⟩; obtain ⟨F5, M5, J5, -, -, N5, E5⟩ := HMr.out.took T5; have HM5 := Lib.hid M5; have HN5 := Lib.hid N5; have HE5 := Lib.hid E5; clear T5 M5 J5 N5 E5)
                | (at_builtin; refine wpList_app rfl _ _ rfl rfl rfl (HJr.out.else HE5.out HA.out) (HRL.out.else HE5.out HAW.out) (by have := HWL.out; have := HLI5.out; omega) ?_; intro v6 w6 J6 G6 A6; have HJ6 := Lib.hid J6; have HO6 := Lib.hid (ord_app HM5.out (away_next HA.out HN5.out HJr.out) HF.out J6 G6 A6); clear J6 G6 A6))
              go_roundw
              case rel => exact ⟨i + 1, by omega, by go_num, F5, HO6.out.1, by rw [HWN.out]; exact HJ6.out, HO6.out.2.1, HO6.out.2.2⟩
              case measure => simp [intOf]; omega
            · have HWN := Lib.hid (ordW_no (l := lst N) hop)
              have hop2 : decide ((t : Int) + i + 2 ≤ t + z) = false := decide_eq_false hop
              go_wp2_with (first
                | (go_at_call 13; (with_reducible refine (lretire_to (n := 0) HMr.out.lim HRL.out HAW.out HLN.out HLA.out (by omega) HKB.out HSZ.out HSN.out HTK.out HNIL.out).mono ?_); rintro e w5 ⟨A5, c5, rfl, T5⟩; obtain ⟨F5, M5, J5, -, -, N5, E5⟩ := HMr.out.took T5; have HM5 := Lib.hid M5; have HN5 := Lib.hid N5; have HE5 := Lib.hid E5; clear T5 M5 J5 N5 E5))
              go_roundw
              case rel => exact ⟨i + 1, by omega, by go_num, F5, HM5.out, by rw [HWN.out]; exact HJr.out.else HE5.out HA.out, away_next HA.out HN5.out HJr.out, HF.out⟩
              case measure => simp [intOf]; omega
    · have i1 : ¬ (i : Int) < 3 := by omega
      obtain rfl : i = 3 := by omega
      have HOI := Lib.hid (HO.out 3 (by omega))
      have HSM := Lib.hid (ord_small HOI.out HL5.out)
      have HOUT := Lib.hid (ord_outs (at_ := t + z) HOI.out)
      have HSZ0 := Lib.hid (ord_size t (lst N) HOI.out)
      obtain ⟨R, hR⟩ : ∃ R, (ordS t (lst N) 3).rest (t + z) = R := ⟨_, rfl⟩
      have HRS := Lib.hid hR
      have HROK := Lib.hid (Lb.rest_ok HOI.out.ok (t + z))
      rw [hR] at HROK
      have HOI2 := Lib.hid (Lb.open_iff (ordS t (lst N) 3) (t + z))
      rw [HOUT.out] at HROK HOI2
      have HNV := Lib.hid HJ.out.nOf
      obtain ⟨W3, hW3⟩ : ∃ W3, ordW t (t + z) (lst N) 3 = W3 := ⟨_, rfl⟩
      rw [hW3] at HJ HOUT HROK HOI2 HNV
      have HWM := Lib.hid (show W3.length = Nv from HNV.out.symm)
      have HS8 := Lib.hid (show (ordS t (lst N) 3).size ≤ 8192 by have := HSM.out; omega)
      obtain ⟨L, hL⟩ : ∃ L, R.size = L := ⟨_, rfl⟩
      have HSZ := Lib.hid hL
      have hsum : L + Nv = n0 + n1 + n2 := by
        have h1 := HROK.out.2.2.1
        have h2 := HSZ0.out
        have h3 := HWM.out
        have h4 : (lst N 0).length = n0 := by unfold lst; rw [ell_len, HN.out]; rfl
        have h5 : (lst N 1).length = n1 := by unfold lst; rw [ell_len, HN.out]; rfl
        have h6 : (lst N 2).length = n2 := by unfold lst; rw [ell_len, HN.out]; rfl
        omega
      have HN81 := Lib.hid (show L ≤ 8192 by omega)
      have HLD := Lib.hid (show ((L : Int) == IntKind.i64.wrap (IntKind.i64.wrap (IntKind.i64.wrap ((n0 : Int) + n1) + n2) - Nv)) = true by
        rw [IntWalk.i64_in ((n0 : Int) + n1) (by omega), IntWalk.i64_in ((n0 : Int) + n1 + n2) (by omega), IntWalk.i64_in ((n0 : Int) + n1 + n2 - Nv) (by omega)]; simp; omega)
      have HP2 := Lib.hid (show R.isOpen (t + z) = false by unfold Lb.isOpen; rw [HROK.out.2.2.2]; rfl)
      have HMd := Lib.hid (HM.out.then (up_drew wo))
      have HJd := Lib.hid (HJ.out.up (up_drew wo))
      have b0 : n0 ≤ 5 := by omega
      have b1 : n1 ≤ 5 := by omega
      have b2 : n2 ≤ 5 := by omega
      have b3 : Nv ≤ 15 := by omega
      clear hR hL hW3 hsum
      by_cases hv : 0 < Nv
      · have HP1 := Lib.hid (show (ordS t (lst N) 3).isOpen (t + z) = true by unfold Lb.isOpen; rw [HOI2.out]; exact decide_eq_true (by rw [HWM.out]; exact hv))
        go_upto_region 25 with fail
        go_region_held3 (fun w' => w'.cell? ⟨nb, 0, none⟩ = some (.int .i64 n0) ∧ w'.cell? ⟨nb, 1, none⟩ = some (.int .i64 n1) ∧ w'.cell? ⟨nb, 2, none⟩ = some (.int .i64 n2))
          ((first
            | exact ⟨HM9.out.up.kept HD.out.1, HM9.out.up.kept HD.out.2.1, HM9.out.up.kept HD.out.2.2⟩
            | exact ⟨HM8.out.up.kept HD.out.1, HM8.out.up.kept HD.out.2.1, HM8.out.up.kept HD.out.2.2⟩
            | exact ⟨HM7.out.up.kept HD.out.1, HM7.out.up.kept HD.out.2.1, HM7.out.up.kept HD.out.2.2⟩
            | exact ⟨HM6.out.up.kept HD.out.1, HM6.out.up.kept HD.out.2.1, HM6.out.up.kept HD.out.2.2⟩
            | exact ⟨HM5.out.up.kept HD.out.1, HM5.out.up.kept HD.out.2.1, HM5.out.up.kept HD.out.2.2⟩
            | exact ⟨HMd.out.up.kept HD.out.1, HMd.out.up.kept HD.out.2.1, HMd.out.up.kept HD.out.2.2⟩))
          (first
            | (go_at_call 10; (with_reducible refine (open_to HMd.out.lim HP1.out).mono ?_); rintro e w5 ⟨rfl, U5⟩; have HM5 := Lib.hid (HMd.out.then U5); have HJ5 := Lib.hid (HJd.out.up U5); clear U5)
            | (go_at_call 16; (with_reducible refine (lready_to HM5.out.lim HS8.out HRS.out HOUT.out HWM.out).mono ?_); rintro e w6 ⟨A6, c6, rfl, T6⟩; obtain ⟨F6, M6, J6, -, -, -, E6⟩ := HM5.out.took T6; have HM6 := Lib.hid M6; have HJ6 := Lib.hid J6; have HJW := Lib.hid (HJ5.out.else E6 HA.out); clear T6 M6 J6 E6)
            | (go_at_call 15; (with_reducible refine (same_in HJ6.out.rd HJW.out.rd).mono ?_); rintro e w7 ⟨rfl, U7⟩; have HM7 := Lib.hid (HM6.out.then U7); clear U7)
            | (go_at_call 10; (with_reducible refine (open_to HM7.out.lim HP2.out).mono ?_); rintro e w8 ⟨rfl, U8⟩; have HM8 := Lib.hid (HM7.out.then U8); clear U8)
            | (go_at_call 20; (with_reducible refine (llen_to HM8.out.lim HSZ.out HN81.out).mono ?_); rintro e w9 ⟨rfl, U9⟩; have HM9 := Lib.hid (HM8.out.then U9); clear U9))
        all_goals
          go_wp2_with fail
          go_ret
          exact ⟨ret_bool (by first | exact HLD.out | simpa using HLD.out), HUW.out.trans HM9.out.up⟩
      · obtain rfl : Nv = 0 := by omega
        have HP1 := Lib.hid (show (ordS t (lst N) 3).isOpen (t + z) = false by unfold Lb.isOpen; rw [HOI2.out]; exact decide_eq_false (by rw [HWM.out]; exact hv))
        go_upto_region 25 with fail
        go_region_held3 (fun w' => w'.cell? ⟨nb, 0, none⟩ = some (.int .i64 n0) ∧ w'.cell? ⟨nb, 1, none⟩ = some (.int .i64 n1) ∧ w'.cell? ⟨nb, 2, none⟩ = some (.int .i64 n2))
          ((first
            | exact ⟨HM9.out.up.kept HD.out.1, HM9.out.up.kept HD.out.2.1, HM9.out.up.kept HD.out.2.2⟩
            | exact ⟨HM8.out.up.kept HD.out.1, HM8.out.up.kept HD.out.2.1, HM8.out.up.kept HD.out.2.2⟩
            | exact ⟨HM7.out.up.kept HD.out.1, HM7.out.up.kept HD.out.2.1, HM7.out.up.kept HD.out.2.2⟩
            | exact ⟨HM6.out.up.kept HD.out.1, HM6.out.up.kept HD.out.2.1, HM6.out.up.kept HD.out.2.2⟩
            | exact ⟨HM5.out.up.kept HD.out.1, HM5.out.up.kept HD.out.2.1, HM5.out.up.kept HD.out.2.2⟩
            | exact ⟨HMd.out.up.kept HD.out.1, HMd.out.up.kept HD.out.2.1, HMd.out.up.kept HD.out.2.2⟩))
          (first
            | (go_at_call 10; (with_reducible refine (open_to HMd.out.lim HP1.out).mono ?_); rintro e w5 ⟨rfl, U5⟩; have HM5 := Lib.hid (HMd.out.then U5); have HJ5 := Lib.hid (HJd.out.up U5); clear U5)
            | (go_at_call 16; (with_reducible refine (lready_to HM5.out.lim HS8.out HRS.out HOUT.out HWM.out).mono ?_); rintro e w6 ⟨A6, c6, rfl, T6⟩; obtain ⟨F6, M6, J6, -, -, -, E6⟩ := HM5.out.took T6; have HM6 := Lib.hid M6; have HJ6 := Lib.hid J6; have HJW := Lib.hid (HJ5.out.else E6 HA.out); clear T6 M6 J6 E6)
            | (go_at_call 15; (with_reducible refine (same_in HJ6.out.rd HJW.out.rd).mono ?_); rintro e w7 ⟨rfl, U7⟩; have HM7 := Lib.hid (HM6.out.then U7); clear U7)
            | (go_at_call 10; (with_reducible refine (open_to HM7.out.lim HP2.out).mono ?_); rintro e w8 ⟨rfl, U8⟩; have HM8 := Lib.hid (HM7.out.then U8); clear U8)
            | (go_at_call 20; (with_reducible refine (llen_to HM8.out.lim HSZ.out HN81.out).mono ?_); rintro e w9 ⟨rfl, U9⟩; have HM9 := Lib.hid (HM8.out.then U9); clear U9))
        all_goals
          go_wp2_with fail
          go_ret
          exact ⟨ret_bool (by first | exact HLD.out | simpa using HLD.out), HUW.out.trans HM9.out.up⟩

set_option maxRecDepth 100000 in
theorem lifted (os : Os) (started : os.Started) (H : Type) (enc : TypeId × Value → H) :
    ReturnsInHanded {} Try.checked os 5 .any (Rows.limboOrderSpec.pre6 enc Try.prog Try.f5 Rows.limboOrderRow.domain false) (Rows.limboOrderSpec.post enc Try.prog Try.f5 false true false false) := by
  refine returnsInHanded_of_change (C := Try.checked) own started (by kernel_rfl) Try.func5
    (ChangeSpec.witness6 (enc := enc) (C := Try.checked) false ⟨#[], #[.int .i64 0, .int .i64 0, .int .i64 0, .int .i64 0, .int .i64 0], []⟩ 8 (by kernel_rfl) (by kernel_rfl) (by kernel_rfl) (by kernel_rfl)) ?_
  intro W base args ds gs before hval0 hW hcnd _
  have hval : ∀ (j : Nat) t v, Try.f5.params[j]? = some t → args[j]? = some v → Value.okWide Try.prog W .any base t v := hval0
  have hW' := hW
  obtain ⟨p, q, hA0, hV, rfl, hfz, hnd⟩ := hW
  have hA : DataW.TrodAll enc Try.prog W 0 (fun _ => true) true Try.f5.params.toList args.toList ds p := hA0
  rw [Try.params5] at hA hval
  obtain ⟨v0, vs0, d0, ds0, p0, q0, hargs, rfl, rfl, h0, r0⟩ := trodAll_cons hA
  obtain ⟨v1, vs1, d1, ds1, p1, q1, rfl, rfl, rfl, h1, r1⟩ := trodAll_cons r0
  obtain ⟨v2, vs2, d2, ds2, p2, q2, rfl, rfl, rfl, h2, r2⟩ := trodAll_cons r1
  obtain ⟨v3, vs3, d3, ds3, p3, q3, rfl, rfl, rfl, h3, r3⟩ := trodAll_cons r2
  obtain ⟨v4, vs4, d4, ds4, p4, q4, rfl, rfl, rfl, h4, r4⟩ := trodAll_cons r3
  obtain ⟨rfl, rfl, rfl⟩ := trodAll_nil r4
  obtain rfl : args = #[v0, v1, v2, v3, v4] := by cases args; simp_all
  obtain ⟨rfl, rfl⟩ := trodVars_none hV
  have k0 := h0
  have lt0 : ∀ x ∈ p0, x.block < W.heap.size := by obtain ⟨m, hm⟩ := k0; exact DataW.trod_lt m _ _ _ hm
  obtain ⟨a0, rfl, rfl, rfl, w0⟩ := open_int Try.underlying3 (hval 0 3 v0 rfl rfl) h0
  have k1 := h1
  have lt1 : ∀ x ∈ p1, x.block < W.heap.size := by obtain ⟨m, hm⟩ := k1; exact DataW.trod_lt m _ _ _ hm
  obtain ⟨a1, rfl, rfl, rfl, w1⟩ := open_int Try.underlying3 (hval 1 3 v1 rfl rfl) h1
  have k2 := h2
  have lt2 : ∀ x ∈ p2, x.block < W.heap.size := by obtain ⟨m, hm⟩ := k2; exact DataW.trod_lt m _ _ _ hm
  obtain ⟨a2, rfl, rfl, rfl, w2⟩ := open_int Try.underlying3 (hval 2 3 v2 rfl rfl) h2
  have k3 := h3
  have lt3 : ∀ x ∈ p3, x.block < W.heap.size := by obtain ⟨m, hm⟩ := k3; exact DataW.trod_lt m _ _ _ hm
  obtain ⟨a3, rfl, rfl, rfl, w3⟩ := open_int Try.underlying3 (hval 3 3 v3 rfl rfl) h3
  have k4 := h4
  have lt4 : ∀ x ∈ p4, x.block < W.heap.size := by obtain ⟨m, hm⟩ := k4; exact DataW.trod_lt m _ _ _ hm
  obtain ⟨a4, rfl, rfl, rfl, w4⟩ := open_int Try.underlying3 (hval 4 3 v4 rfl rfl) h4
  clear hA0 hval0
  refine (walk a0 a1 a2 a3 a4 W w0 w1 w2 w3 w4).mono fun e W' ⟨he, bel⟩ => ?_
  subst he
  exact ⟨_, rfl, _, _, _, [], _, [], hW', trodAll_mk1 (shut_bool Try.underlying4 _), (trodAll_cons_mk (Below.trod laidOut (by kernel_rfl) (of_decide_eq_true (by kernel_rfl)) k0 bel lt0) (trodAll_cons_mk (Below.trod laidOut (by kernel_rfl) (of_decide_eq_true (by kernel_rfl)) k1 bel lt1) (trodAll_cons_mk (Below.trod laidOut (by kernel_rfl) (of_decide_eq_true (by kernel_rfl)) k2 bel lt2) (trodAll_cons_mk (Below.trod laidOut (by kernel_rfl) (of_decide_eq_true (by kernel_rfl)) k3 bel lt3) (trodAll_cons_mk (Below.trod laidOut (by kernel_rfl) (of_decide_eq_true (by kernel_rfl)) k4 bel lt4) trodAll_mk0))))), rfl, Below.frame bel _, fun h => by cases h⟩

theorem over : Rows.limboOrderRow.holds Try.pinned (OpenSpec.ofChange Rows.limboOrderSpec) :=
  OpenClaim.holds_of_wide 5 Try.f5 rfl rfl rfl rfl rfl rfl rfl ⟨rfl, rfl, rfl, rfl, rfl⟩ rfl rfl rfl rfl rfl (by kernel_rfl) Try.func5 (by kernel_rfl)
    (of_decide_eq_true (by kernel_rfl)) (by unfold Func.isWrapper; first | (rw [if_pos (by decide +kernel)]; kernel_rfl) | (rw [if_neg (by decide +kernel)]; exact ⟨rfl, rfl⟩))
    (fun os started H enc _ => lifted os started H enc)

/-- THE STATEMENT -/
theorem proved : Rows.LimboOrderSaid := over
#print axioms proved
end Go.Proofs.Ythajdabdiaogiaa.limboOrder
