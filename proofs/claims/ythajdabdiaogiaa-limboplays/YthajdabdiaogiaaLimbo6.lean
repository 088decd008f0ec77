/-
  Package limbo: the contracts of Len and Ready.
-/
import Derived.Test.YthajdabdiaogiaaLimbo5
namespace Go.Proofs.Ythajdabdiaogiaa
open Go.RowKit
set_option maxRecDepth 100000
section
variable {w w' : World} {q : Nat} {F : List Nat} {S : Lb} {V : Nat → Value} {v : Value}
def Lb.upTo (S : Lb) : Nat → Nat
  | 0 => 0
  | k + 1 => S.upTo k + (S.L k).length
def LenRel (w : World) (S : Lb) (v i : Value) (wr : World) : Prop := ∃ k : Nat, k ≤ 3 ∧ i = .int .i64 k ∧ v = .int .i64 (S.upTo k : Nat) ∧ Up w wr
theorem run_ix0 (a b c d e f : Value) (w : World) : (Instr.index 50 (.agg #[a, b, c, d, e, f]) (.int .i64 0)).run Try.prog w = .ok (.agg #[a, b]) w := by rfl
theorem run_ix1 (a b c d e f : Value) (w : World) : (Instr.index 50 (.agg #[a, b, c, d, e, f]) (.int .i64 1)).run Try.prog w = .ok (.agg #[c, d]) w := by rfl
theorem run_ix2 (a b c d e f : Value) (w : World) : (Instr.index 50 (.agg #[a, b, c, d, e, f]) (.int .i64 2)).run Try.prog w = .ok (.agg #[e, f]) w := by rfl
set_option maxHeartbeats 4000000 in
theorem llen_any (E : Lim w q F S) (hs : S.size ≤ 1000000) : Calls Try.prog 20 #[.pointer (some ⟨q, 0, none⟩)] w fun e w' => e = .returned (.int .i64 (S.size : Nat)) ∧ Up w w' := by
  obtain ⟨V, E⟩ := E
  obtain ⟨A0, d0, A1, d1, A2, d2, v0, v1, v2⟩ := E.slices
  obtain ⟨c0, c1, c2, c3, c4, c5, c6⟩ := E.cells
  rw [v0] at c1
  rw [v1] at c3
  rw [v2] at c5
  have e3 : S.size = S.upTo 3 := by simp [Lb.size, Lb.upTo]
  have s1 : S.upTo 1 = 0 + (S.L 0).length := rfl
  have s2 : S.upTo 2 = S.upTo 1 + (S.L 1).length := rfl
  have s3 : S.upTo 3 = S.upTo 2 + (S.L 2).length := rfl
  rw [e3] at hs ⊢
  clear v0 v1 v2 E e3
  obtain ⟨n0, h0⟩ : ∃ n, (S.L 0).length = n := ⟨_, rfl⟩
  obtain ⟨n1, h1⟩ : ∃ n, (S.L 1).length = n := ⟨_, rfl⟩
  obtain ⟨n2, h2⟩ : ∃ n, (S.L 2).length = n := ⟨_, rfl⟩
  rw [h0] at c1 s1
  rw [h1] at c3 s2
  rw [h2] at c5 s3
  have b0 : n0 ≤ 1000000 := by omega
  have b1 : n1 ≤ 1000000 := by omega
  have b2 : n2 ≤ 1000000 := by omega
  have b3 : n0 + n1 + n2 ≤ 1000000 := by omega
  have t1 := Lib.hid (show S.upTo 1 = n0 by omega)
  have t2 := Lib.hid (show S.upTo 2 = n0 + n1 by omega)
  have t3 := Lib.hid (show S.upTo 3 = n0 + n1 + n2 by omega)
  rw [t3.out]
  clear h0 h1 h2 s1 s2 s3 hs
  have x0 := run_ix0
  have x1 := run_ix1
  have x2 := run_ix2
  go_enter Try.func20, Try.ntmps20
  go_wp2_with fail
  go_loopw [3, 10] (fun v i wr => LenRel w S v i wr) (fun _ i _ => 3 - (intOf i).toNat)
  case atStart => exact ⟨0, Nat.zero_le _, rfl, rfl, Up.refl _⟩
  case round =>
    obtain ⟨k, hk, rfl, rfl, hu⟩ := hrel
    have HU := Lib.hid hu
    clear hu
    have : k = 0 ∨ k = 1 ∨ k = 2 ∨ k = 3 := by omega
    rcases this with rfl | rfl | rfl | rfl
    · rw [show S.upTo 0 = 0 from rfl]
      go_wp2_with fail
      go_roundw
      case rel => exact ⟨1, by omega, by go_num, by rw [t1.out], HU.out.then_alloc _⟩
      case measure => simp [intOf]
    · rw [t1.out]
      go_wp2_with fail
      go_roundw
      case rel => exact ⟨2, by omega, by go_num, by rw [t2.out]; go_num, HU.out.then_alloc _⟩
      case measure => simp [intOf]
    · rw [t2.out]
      go_wp2_with fail
      go_roundw
      case rel => exact ⟨3, by omega, by go_num, by rw [t3.out]; go_num, HU.out.then_alloc _⟩
      case measure => simp [intOf]
    · rw [t3.out]
      go_wp2_with fail
      go_ret
      exact ⟨rfl, HU.out⟩
end
end Go.Proofs.Ythajdabdiaogiaa
