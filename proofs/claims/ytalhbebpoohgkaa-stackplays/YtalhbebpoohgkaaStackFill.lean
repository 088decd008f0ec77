/-
  Package stack: Fill.
-/
import Derived.Test.YtalhbebpoohgkaaStack1
namespace Go.Proofs.Ytalhbebpoohgkaa
open Go.RowKit
open W64
set_option maxRecDepth 100000

/-- The links of the first k items are laid. -/
def fillK (s : St) (ln : Nat) : Nat → St
  | 0 => s
  | k + 1 => (fillK s ln k).lay ((ln : Int) + k) ((k : Int) + 2)
/-- The filled stack. -/
def fillS (s : St) (hd ln n : Nat) : St := ((fillK s ln (n - 1)).lay ((ln : Int) + n - 1) 0).lay hd 1
section
variable {w : World} {p g q hd ln n : Nat} {s : St}
theorem fillK_len (s : St) (ln : Nat) : ∀ k, (fillK s ln k).xs.length = s.xs.length
  | 0 => rfl
  | k + 1 => by unfold fillK; rw [lay_len, fillK_len s ln k]
theorem fillK_c (s : St) (ln : Nat) : ∀ k, (fillK s ln k).c = s.c
  | 0 => rfl
  | k + 1 => fillK_c s ln k
theorem fillK_ok {s : St} (h : s.Ok) (ln : Nat) : ∀ k, k ≤ 8192 → (fillK s ln k).Ok
  | 0, _ => h
  | k + 1, hk => (fillK_ok h ln k (by omega)).lay _ (by omega) (by omega)
def FillRel (w : World) (p g q hd ln n : Nat) (s : St) (i : Value) (wr : World) : Prop := ∃ k : Nat, k ≤ n - 1 ∧ i = .int .i64 k ∧ Env wr p g q hd ln n (fillK s ln k) ∧ Else [p, g] w wr
theorem fill_num {ln n k L : Nat} (h0 : 1 ≤ n) (h1 : n ≤ 4096) (hk : k ≤ n - 1) (h2 : ln + n ≤ L) (h3 : L ≤ 8388608) :
    IntKind.i64.wrap ((n : Int) - 1) = (n : Int) - 1 ∧ IntKind.i64.wrap ((ln : Int) + k) = ln + k ∧ IntKind.i64.wrap ((k : Int) + 1) = k + 1 ∧ IntKind.i64.wrap ((ln : Int) + n) = ln + n ∧ IntKind.i64.wrap ((ln : Int) + n - 1) = ln + n - 1 :=
  ⟨IntWalk.i64_in _ (by omega), IntWalk.i64_in _ (by omega), IntWalk.i64_in _ (by omega), IntWalk.i64_in _ (by omega), IntWalk.i64_in _ (by omega)⟩
theorem lay_to {w : World} {p g : Nat} {s s' : St} {i v : Int} (m : Mem w p g s) (h : s.has i) (hs : s.lay i v = s') :
    Calls Try.prog 36 #[.pointer (some ⟨p, 0, none⟩), .int .i64 i, .int .u64 v] w fun e w' => e = .returned (.int .i64 0) ∧ Mem w' p g s' ∧ Else [p, g] w w' := hs ▸ lay_in v m h
set_option maxHeartbeats 4000000 in
theorem fill_in (E : Env w p g q hd ln n s) :
    Calls Try.prog 12 #[.pointer (some ⟨q, 0, none⟩)] w fun e w' => e = .returned (.tuple #[]) ∧ Mem w' p g (fillS s hd ln n) ∧ Else [p, g] w w' := by
  obtain ⟨c0, c1, c2, c3⟩ := E.cells
  have n0 := E.n0
  have n1 := E.n1
  have hl := E.hl
  have ht := E.top
  have hok := Lib.hid E.ok
  have hq : q ∉ [p, g] := by simp [E.np, E.ng]
  have HE := Lib.hid E
  obtain ⟨s0, _, _, s3, s4⟩ := fill_num (k := 0) n0 n1 (Nat.zero_le _) hl ht
  clear E
  go_enter Try.func12, Try.ntmps12
  go_wp2_with fail
  go_loopw [10] (fun i wr => FillRel w p g q hd ln n s i wr) (fun i _ => n - (intOf i).toNat)
  case atStart => exact ⟨0, Nat.zero_le _, rfl, HE.out, Else.refl _ _⟩
  case round =>
    obtain ⟨k, hk, rfl, E1, X1⟩ := hrel
    have HE1 := Lib.hid E1
    have HX1 := Lib.hid X1
    clear E1 X1 c0 c1 c2 c3
    obtain ⟨c0, c1, c2, c3⟩ := HE1.out.cells
    by_cases hlt : k < n - 1
    · obtain ⟨_, s1, s2, _, _⟩ := fill_num n0 n1 hk hl ht
      have i1 : (k : Int) < (n : Int) - 1 := by omega
      have i0 : (0 : Int) ≤ (k : Int) := Int.natCast_nonneg _
      have e2 : (k : Int) + 1 + 1 = k + 2 := by omega
      have hh := Lib.hid (HE1.out.hasL (i := k) (by omega) (by omega))
      go_upto_region 3 with fail
      go_region_held3 (fun w' => w'.cell? ⟨q, 0, none⟩ = some (.pointer (some ⟨p, 0, none⟩)) ∧ w'.cell? ⟨q, 2, none⟩ = some (.int .i64 ln)) ((first | exact ⟨c0, c2⟩ | exact ⟨E5.kept c0 hq, E5.kept c2 hq⟩))
        (first
          | (go_at_call 37; refine (asLink_to e2 (by omega) (by omega) _).mono ?_; rintro e w9 ⟨rfl, rfl⟩)
          | (go_at_call 36; refine (lay_to (s' := fillK s ln (k + 1)) (HE1.out.mem.up (up_drew wr)) hh.out rfl).mono ?_; rintro e w5 ⟨rfl, M5, E5⟩))
      have HX := Lib.hid ((Else.of_up (up_drew wr)).trans E5)
      have HE5 := Lib.hid (HE1.out.turn M5 HX.out (fillK_ok hok.out ln (k + 1) (by omega)) (by rw [fillK_len, fillK_len]))
      clear M5 E5 c0 c1 c2 c3
      go_wp2_with fail
      go_roundw
      case rel => exact ⟨k + 1, by omega, by go_num, HE5.out, HX1.out.trans HX.out⟩
      case measure => simp [intOf]; omega
    · have hk2 : k = n - 1 := by omega
      have i1 : ¬ (k : Int) < (n : Int) - 1 := by omega
      have hh := Lib.hid (HE1.out.hasL (i := (n : Int) - 1) (by omega) (by omega))
      have e3 : (ln : Int) + ((n : Int) - 1) = ln + n - 1 := by omega
      rw [e3] at hh
      have e0 : (-1 : Int) + 1 = 0 := by omega
      have hB : headB 0 0 = true := by decide
      have hN : headN 0 0 = 1 := by decide
      have HB := Lib.hid hB
      have hp := putHead_yes 0 0
      have HPH := Lib.hid (fun w => hp w hB)
      rw [hN] at HPH
      have HK2 := Lib.hid hk2
      have HHD := Lib.hid HE1.out.hasH
      clear hB hN hp hk2
      go_upto_region 5 with fail
      go_region_held3 (fun w' => w'.cell? ⟨q, 0, none⟩ = some (.pointer (some ⟨p, 0, none⟩)) ∧ w'.cell? ⟨q, 2, none⟩ = some (.int .i64 ln) ∧ w'.cell? ⟨q, 3, none⟩ = some (.int .i64 n)) ((first | exact ⟨c0, c2, c3⟩ | exact ⟨E5.kept c0 hq, E5.kept c2 hq, E5.kept c3 hq⟩))
        (first
          | (go_at_call 37; refine (asLink_to e0 (by omega) (by omega) _).mono ?_; rintro e w9 ⟨rfl, rfl⟩)
          | (go_at_call 36; refine (lay_to (HE1.out.mem.up (up_drew wr)) hh.out rfl).mono ?_; rintro e w5 ⟨rfl, M5, E5⟩))
      have HX := Lib.hid ((Else.of_up (up_drew wr)).trans E5)
      have HE5 := Lib.hid (HE1.out.turn M5 HX.out ((fillK_ok hok.out ln k (by omega)).lay _ (by omega) (by omega)) (lay_len _ _ _))
      clear M5 E5 c0 c1 c2 c3
      obtain ⟨c0, c1, c2, c3⟩ := HE5.out.cells
      go_upto_region 7 with (go_at_call 38; refine (HPH.out _).mono ?_; rintro e w6 ⟨rfl, U6⟩)
      replace c0 := U6.kept c0
      replace c1 := U6.kept c1
      have HE6 := Lib.hid (HE5.out.up (U6.trans (up_drew w6)))
      have HX6 := Lib.hid (HX.out.up (U6.trans (up_drew w6)))
      clear c2 c3 U6
      have HHE := Lib.hid HE6.out.hasH
      go_region_held3 (fun w' => w'.cell? ⟨q, 0, none⟩ = some (.pointer (some ⟨p, 0, none⟩)) ∧ w'.cell? ⟨q, 1, none⟩ = some (.int .i64 hd)) ((first | exact ⟨c0, c1⟩ | exact ⟨E7.kept c0 hq, E7.kept c1 hq⟩))
        (first
          | (go_at_call 36; refine (lay_to HE6.out.mem HHE.out rfl).mono ?_; rintro e w7 ⟨rfl, M7, E7⟩))
      go_wp2_with fail
      go_end0
      refine ⟨rfl, ?_, (HX1.out.trans HX6.out).trans E7⟩
      rw [HK2.out] at M7
      exact M7
end
end Go.Proofs.Ytalhbebpoohgkaa
