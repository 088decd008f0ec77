/-
  The reference's List; the statement's own same.
-/
import Derived.Test.YtalhbebpoohgkaaRefRest
namespace Go.Proofs.Ytalhbebpoohgkaa
open Go.RowKit
open W64
set_option maxRecDepth 100000
section
variable {w w' : World} {p g q hd ln n : Nat} {xs : List Int} {c : Int} {s : St} {S : List Nat}
def RListRel (w : World) (S : List Nat) (v i : Value) (wr : World) : Prop := ∃ k : Nat, k ≤ S.length ∧ i = .int .i64 (Stk.linkOf (S.drop k) - 1) ∧ Ints wr v (I (S.take k)) ∧ Fresh w v ∧ Up w wr
theorem get_nat (s : St) (i : Nat) : s.get (i : Int) = s.xs.getD i 0 := by unfold St.get; rw [Int.toNat_natCast]
set_option maxHeartbeats 4000000 in
theorem rlist_in (E : REnv w p g q hd ln n s.xs c) (H : Holds s hd ln n S) :
    Calls Try.prog 19 #[.pointer (some ⟨q, 0, none⟩)] w fun e w' => ∃ v, e = .returned v ∧ Ints w' v (I S) ∧ Fresh w v ∧ Up w w' := by
  obtain ⟨k0, k1, k2, k3⟩ := E.cells
  have r0 := E.mem.cells.1
  have rh := E.mem.cell E.hh
  have n0 := E.n0
  have n1 := E.n1
  have hlx := E.hl
  have htx := E.top
  have hhx := E.hh
  have ok := E.ok hd
  have HT := H.top
  rw [get_nat] at HT
  obtain ⟨y, hy⟩ : ∃ y, s.xs.getD hd 0 = y := ⟨_, rfl⟩
  rw [hy] at rh ok HT
  replace HT := Lib.hid HT
  have i8 : (0 : Int) ≤ (hd : Int) := Int.natCast_nonneg _
  have i9 : (hd : Int) < (s.xs.length : Int) := by omega
  obtain ⟨L, hL⟩ : ∃ L, s.xs.length = L := ⟨_, rfl⟩
  rw [hL] at r0 i9 hlx htx hhx
  have HLL := Lib.hid hL
  have HH := Lib.hid H
  have hlen := H.len
  have HE := Lib.hid E
  clear E H hy hL
  go_enter Try.func19, Try.ntmps19
  go_upto_region 2 with fail
  go_region_held3 (fun w' => w'.cell? ⟨q, 0, none⟩ = some (.pointer (some ⟨p, 0, none⟩)) ∧ w'.cell? ⟨q, 1, none⟩ = some (.int .i64 hd) ∧ w'.cell? ⟨p, 0, none⟩ = some (.slice (some ⟨g, 0, none⟩) L L) ∧ w'.cell? ⟨g, hd, none⟩ = some (.int .u64 y)) ((first | exact ⟨k0, k1, r0, rh⟩ | exact ⟨U1.kept k0, U1.kept k1, U1.kept r0, U1.kept rh⟩))
    (first
      | (go_at_call 47; refine (rtop_to (HE.out.up (up_drew w)) ok.1 ok.2 HT.out).mono ?_; rintro e w1 ⟨rfl, U1⟩))
  have HU := Lib.hid ((up_drew w).trans U1)
  clear U1 k0 k1 k2 k3 r0 rh
  go_wp2_with fail
  go_loopw [3, 4] (fun v i wr => RListRel w S v i wr) (fun v _ _ => S.length - nOf v)
  case atStart => exact ⟨0, Nat.zero_le _, rfl, Ints.nil _, fresh_nil' _, HU.out⟩
  case round =>
    obtain ⟨k, hks, rfl, J, F, hup⟩ := hrel
    have hlk : (S.take k).length = k := by simp; omega
    obtain ⟨A, cp, rfl⟩ := J.slice
    rw [I_len, hlk] at J F ⊢
    have HEr := Lib.hid (HE.out.up hup)
    obtain ⟨k0, k1, k2, k3⟩ := HEr.out.cells
    have HJ := Lib.hid J
    have HF := Lib.hid F
    have HUP := Lib.hid hup
    clear J F hup
    by_cases hlt : k < S.length
    · rw [Stk.linkOf_drop hlt, show (((S.getD k 0 : Nat) : Int) + 1 - 1) = ((S.getD k 0 : Nat) : Int) by omega]
      have hx := HH.out.small _ (Stk.getD_mem hlt)
      have hb := HH.out.link k hlt
      have HTK := Lib.hid (I_take hlt)
      obtain ⟨x, ex⟩ : ∃ x, S.getD k 0 = x := ⟨_, rfl⟩
      rw [ex] at hx hb HTK ⊢
      have eln : (ln : Int) + (x : Int) = ((ln + x : Nat) : Int) := by omega
      rw [eln, get_nat] at hb
      have hz := HE.out.ok (ln + x)
      have hkl : ln + x < s.xs.length := by rw [HLL.out]; omega
      have HKL := Lib.hid hkl
      obtain ⟨z, ez⟩ : ∃ z, s.xs.getD (ln + x) 0 = z := ⟨_, rfl⟩
      rw [ez] at hb hz
      have HZ := Lib.hid ez
      have HB := Lib.hid hb
      clear ex hb ez hkl
      have g1 : (0 : Int) ≤ (x : Int) := Int.natCast_nonneg _
      have g2 : (k : Int) < (n : Int) := by omega
      have g3 : (ln : Int) + (x : Int) < (L : Int) := by omega
      have g4 : (0 : Int) ≤ (ln : Int) + (x : Int) := by omega
      have e1 : ((ln : Int) + (x : Int)).toNat = ln + x := by omega
      have z4 : ln + x ≤ 8400000 := by omega
      obtain ⟨s3, s4⟩ := wrapS (a := ln) (b := x) z4
      clear z4 eln
      go_upto_region 4 with (at_builtin; refine wpList_app rfl _ _ rfl rfl rfl (HJ.out.up (Up.alloc _ _)) (rd_one _ (x : Int)) (by rw [I_len]; simp; omega) ?_; intro v5 w5 J5 G5 A5; obtain ⟨A5v, N5, c5, rfl⟩ := shapeI J5; have HJ5 := Lib.hid J5; have HU5 := Lib.hid (up_app (HUP.out.then_alloc _) G5 HF.out); have HF5 := Lib.hid (fresh_app HF.out (HUP.out.then_alloc (.cells #[.int .i64 (x : Int)] 3)).size A5); clear J5 G5 A5)
      clear k0 k1 k2 k3
      have HED := Lib.hid (HE.out.up HU5.out)
      obtain ⟨k0, k1, k2, k3⟩ := HED.out.cells
      have r0 := HED.out.mem.cells.1
      have rh := HED.out.mem.cell HKL.out
      rw [HLL.out] at r0
      rw [HZ.out] at rh
      go_region_held3 (fun w' => w'.cell? ⟨q, 0, none⟩ = some (.pointer (some ⟨p, 0, none⟩)) ∧ w'.cell? ⟨q, 2, none⟩ = some (.int .i64 ln) ∧ w'.cell? ⟨p, 0, none⟩ = some (.slice (some ⟨g, 0, none⟩) L L) ∧ w'.cell? ⟨g, ln + x, none⟩ = some (.int .u64 z)) ((first | exact ⟨k0, k2, r0, rh⟩))
        (first
          | (go_at_call 48; refine (rbelow_to (HED.out.up (up_drew w5)) hz.1 hz.2 HB.out).mono ?_; rintro e w9 ⟨rfl, rfl⟩))
      have hN5 : N5 = k + 1 := by
        obtain ⟨A9, c9, e9⟩ := HJ5.out.slice
        injection e9 with _ e9 _
        rw [e9, List.length_append, I_len, hlk]; rfl
      subst hN5
      go_wp2_with fail
      go_roundw
      case rel => exact ⟨k + 1, by omega, rfl, by rw [HTK.out]; exact HJ5.out.up (up_drew w5), HF5.out, HU5.out.trans (up_drew w5)⟩
      case measure => simp [nOf]; omega
    · have e : S.take k = S := List.take_of_length_le (by omega)
      have e2 : S.length = k := by omega
      rw [Stk.linkOf_end (by omega)]
      have hc : (0 : Int) - 1 = -1 := by omega
      rw [hc]
      go_wp2_with fail
      go_ret
      rw [e] at HJ
      exact ⟨_, rfl, HJ.out, HF.out, HUP.out⟩
/-- same. -/
def SameRel (w : World) (len : Nat) (i : Value) (wr : World) : Prop := ∃ k : Nat, k ≤ len ∧ i = .int .i64 k ∧ Up w wr
set_option maxHeartbeats 4000000 in
theorem same_yes {pr gr : Nat} (M : Mem w p g s) (R : Ref w pr gr s.xs s.c) (hb : s.xs.length ≤ 8388608) :
    Calls Try.prog 16 #[.pointer (some ⟨p, 0, none⟩), .pointer (some ⟨pr, 0, none⟩)] w fun e w' => e = .returned (.bool true) ∧ Up w w' := by
  have HM := Lib.hid M
  have HR := Lib.hid R
  obtain ⟨L, hL⟩ : ∃ L, s.xs.length = L := ⟨_, rfl⟩
  have HLL := Lib.hid hL
  rw [hL] at hb
  clear M R hL
  go_enter Try.func16, Try.ntmps16
  go_wp2_with fail
  go_loopw [5] (fun i wr => SameRel w L i wr) (fun i _ => L - (intOf i).toNat)
  case atStart => exact ⟨0, Nat.zero_le _, rfl, Up.refl _⟩
  case round =>
    obtain ⟨k, hk, rfl, hup⟩ := hrel
    have HU := Lib.hid hup
    have HRr := Lib.hid (HR.out.up hup)
    have HMr := Lib.hid (HM.out.up hup)
    clear hup
    obtain ⟨r0, r1⟩ := HRr.out.cells
    rw [HLL.out] at r0
    have i0 : (0 : Int) ≤ (k : Int) := Int.natCast_nonneg _
    by_cases hlt : k < L
    · have i1 : (k : Int) < (L : Int) := by omega
      have rk := HRr.out.cell (i := k) (by rw [HLL.out]; exact hlt)
      have HX := Lib.hid (get_nat s k)
      obtain ⟨y, hy⟩ : ∃ y, s.xs.getD k 0 = y := ⟨_, rfl⟩
      rw [hy] at rk HX
      have HHS := Lib.hid (show s.has (k : Int) from ⟨i0, by rw [HLL.out]; exact i1⟩)
      clear hy
      go_upto_region 4 with fail
      go_quiet (first
        | (go_at_call 30; (with_reducible exact quiet_eq (peek_to (HMr.out.up ((Up.refl _).then_drewN _)) HHS.out HX.out))))
      go_wp2_with fail
      go_roundw
      case rel => exact ⟨k + 1, by omega, by go_num, HU.out.then_drewN _⟩
      case measure => simp [intOf]; omega
    · have i1 : ¬ (k : Int) < (L : Int) := by omega
      go_upto_region 6 with fail
      go_quiet (first
        | (go_at_call 35; (with_reducible exact quiet_eq (count_any (HMr.out.up ((Up.refl _).then_drewN _))))))
      go_wp2_with fail
      go_ret
      exact ⟨rfl, HU.out.then_drewN _⟩
end
end Go.Proofs.Ytalhbebpoohgkaa
