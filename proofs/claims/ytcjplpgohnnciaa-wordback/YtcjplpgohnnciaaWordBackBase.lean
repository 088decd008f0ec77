/-
  What is put is got back: the contracts that WordBack wants, beside those of package word.
-/
import Derived.Test.YtcjplpgohnnciaaWordLaws
import Derived.Deep.RegionHeld3
namespace Go.Proofs.Ytcjplpgohnnciaa
open W64 Go.RowKit
theorem getHead_back (i t : Int) (w : World) (h : headB i t = true) :
    Calls Try.prog 15 #[.int .u64 (headN i t)] w fun e w' => e = .returned (.agg #[.int .i64 i, .int .i64 t]) ∧ Up w w' := by
  have q := headB_iff.1 h
  have b : 0 ≤ headN i t ∧ headN i t < 18446744073709551616 := by unfold headN; omega
  have k := getHead_any (headN i t) w b.1 b.2
  have e1 : headN i t % 4294967296 - 1 = i := by unfold headN; omega
  have e2 : headN i t / 4294967296 = t := by unfold headN; omega
  rw [e1, e2] at k; exact k
theorem getRoot_back (g m c o : Int) (w : World) (h : rootB g m c o = true) :
    Calls Try.prog 17 #[.int .u64 (rootN g m c o)] w fun e w' => e = .returned (.agg #[.int .i64 g, .int .i64 m, .int .i64 c, .int .i64 o]) ∧ Up w w' := by
  have q := rootB_iff.1 h
  have b : 0 ≤ rootN g m c o ∧ rootN g m c o < 18446744073709551616 := by unfold rootN; omega
  have k := getRoot_any (rootN g m c o) w b.1 b.2
  have e1 : rootN g m c o / 4294967296 = g := by unfold rootN; omega
  have e2 : rootN g m c o / 65536 % 65536 = m := by unfold rootN; omega
  have e3 : rootN g m c o / 4096 % 16 = c := by unfold rootN; omega
  have e4 : rootN g m c o % 4096 = o := by unfold rootN; omega
  rw [e1, e2, e3, e4] at k; exact k
theorem getPin_back (p : Int) (w : World) (h : pinB p = true) :
    Calls Try.prog 19 #[.int .u64 (pinN p)] w fun e w' => e = .returned (.tuple #[.int .i64 p, .bool true]) ∧ w = w' := by
  unfold pinB at h
  have q := inB_iff.1 h
  have b : 0 ≤ pinN p ∧ pinN p < 18446744073709551616 := by unfold pinN; omega
  have k := getPin_odd (pinN p) w b.1 b.2 (by unfold pinN; omega)
  have e1 : pinN p / 2 = p := by unfold pinN; omega
  rw [e1] at k; exact k
theorem getPin_zero (w : World) :
    Calls Try.prog 19 #[.int .u64 0] w fun e w' => e = .returned (.tuple #[.int .i64 0, .bool false]) ∧ w = w' :=
  getPin_even 0 w (by decide) (by decide) (by decide)
theorem head_of (x : Int) (h0 : 0 ≤ x) (h1 : x < 18446744073709551616) : headB (x % 4294967296 - 1) (x / 4294967296) = true := headB_iff.2 (by omega)
theorem head_all (x : Int) (h0 : 0 ≤ x) (h1 : x < 18446744073709551616) : (headV (x % 4294967296 - 1) (x / 4294967296) == x) = true := by
  rw [beq_iff_eq]; unfold headV; rw [if_pos (head_of x h0 h1)]; unfold headN; omega
theorem root_all {x : Int} (h : rootB (x / 4294967296) (x / 65536 % 65536) (x / 4096 % 16) (x % 4096) = true) :
    (rootV (x / 4294967296) (x / 65536 % 65536) (x / 4096 % 16) (x % 4096) == x) = true := by
  rw [beq_iff_eq]; unfold rootV; rw [if_pos h]; unfold rootN; omega

/-! ### A drawn region by hand: an operation that is wanted, one that is passed over -/
section
variable {P : Program} {ops : Array Oper} {Q : Exit → Act → World → Prop} {md : Region.Mode} {S : World → Prop}
theorem take_yes {i : Nat} {oi : Oper} {v : Value} {fuel : Nat} {listed : Array Bool} {a : Act} {w : World} (hi : ops[i]? = some oi)
    (hs : Region.noSelect ops = true) (hf : Region.free md ops listed i = true) (hr : (Region.ready md ops listed).contains i = true)
    (hw : Region.wanted oi (yielded ops a.tmps) = true) (hS : S w) (hy : ∀ w, S w → (execOp a.eval oi).run P w = .ok (.value v) w)
    (h : wpAnyH P md ops (NoPanic Q) S fuel (listed.setIfInBounds i true) (a.put oi.dst v) w) : wpAnyH P md ops (NoPanic Q) S (fuel + 1) listed a w :=
  wpAnyH_take hi hs hf hr (fun _ _ _ h => h) (Or.inl ⟨hw, hy⟩) hS h
theorem take_no {i : Nat} {oi : Oper} {fuel : Nat} {listed : Array Bool} {a : Act} {w : World} (hi : ops[i]? = some oi)
    (hs : Region.noSelect ops = true) (hf : Region.free md ops listed i = true) (hr : (Region.ready md ops listed).contains i = true)
    (hw : Region.wanted oi (yielded ops a.tmps) = false) (hS : S w)
    (h : wpAnyH P md ops (NoPanic Q) S fuel (listed.setIfInBounds i true) (a.put oi.dst undef) w) : wpAnyH P md ops (NoPanic Q) S (fuel + 1) listed a w :=
  wpAnyH_take hi hs hf hr (fun _ _ _ h => h) (Or.inr ⟨hw, rfl⟩) hS h
end
end Go.Proofs.Ytcjplpgohnnciaa
