/-
  Package stack: Push begins.
-/
import Derived.Test.YtalhbebpoohgkaaPush3
namespace Go.Proofs.Ytalhbebpoohgkaa
open Go.RowKit
set_option maxRecDepth 100000
section
variable {w : World} {p g q hd ln n : Nat} {s : St} {l : List Nat} {v : Value}
set_option maxHeartbeats 2000000 in
theorem spush_no (E : Env w p g q hd ln n s) {xs : List Int} (R : Rd w v xs) (h : ¬ Good n xs) :
    Calls Try.prog 25 #[.pointer (some ⟨q, 0, none⟩), v] w fun e w' => e = .returned (.tuple #[.pointer none, .int .i64 1]) ∧ Up w w' := by
  have hc := Lib.hid (areItems_to E R (decide_eq_false h))
  clear E R h
  go_enter Try.func25, Try.ntmps25
  go_wp2_with (go_at_call 50; refine hc.out.mono ?_; rintro e w1 ⟨rfl, U1⟩)
  go_ret2
  exact ⟨rfl, U1⟩
set_option maxHeartbeats 2000000 in
theorem spush_nil (E : Env w p g q hd ln n s) :
    Calls Try.prog 25 #[.pointer (some ⟨q, 0, none⟩), .slice none 0 0] w fun e w' => ∃ b, e = .returned (.tuple #[.pointer (some ⟨b, 0, none⟩), .int .i64 0]) ∧ PushAt w' b q (.slice none 0 0) [] 0 0 .nilFunc ∧ w.heap.size ≤ b ∧ Up w w' := by
  have hc := Lib.hid (areItems_to E (Rd.nil w) (decide_eq_true (good_nil n)))
  clear E
  go_enter Try.func25, Try.ntmps25
  go_wp2_with (first
    | (go_at_call 50; refine hc.out.mono ?_; rintro e w1 ⟨rfl, U1⟩)
    | (go_at_call 49; refine (clone_nil _).mono ?_; rintro e w' ⟨rfl, rfl⟩))
  go_ret2
  exact ⟨w1.heap.size, rfl, ⟨Whole.new _ _ _, Ints.nil _, by simp [Value.ownBlock]⟩, U1.size, U1.then_alloc _⟩
set_option maxHeartbeats 2000000 in
theorem spush_yes (E : Env w p g q hd ln n s) (R : Rd w v (I l)) (h0 : l ≠ []) (h : Good n (I l)) (hl : l.length ≤ 8192) :
    Calls Try.prog 25 #[.pointer (some ⟨q, 0, none⟩), v] w fun e w' => ∃ b r cap, e = .returned (.tuple #[.pointer (some ⟨b, 0, none⟩), .int .i64 0]) ∧ PushAt w' b q (.slice (some ⟨r, 0, none⟩) l.length cap) l 0 0 (nxL b l.length 0) ∧ w.heap.size ≤ b ∧ w.heap.size ≤ r ∧ Up w w' := by
  have hc := Lib.hid (areItems_to E R (decide_eq_true h))
  have HR := Lib.hid R
  have lp := List.length_pos_iff.2 h0
  have hI : I l ≠ [] := by simpa [I] using h0
  have HI := Lib.hid hI
  obtain ⟨A, cap, e⟩ := R.slice
  rw [I_len] at e
  subst e
  have g1 : (0 : Int) < (l.length : Int) := by omega
  have key : ∀ {w1 w2 : World} {r cap' : Nat} {o : Obj}, Ints w2 (.slice (some ⟨r, 0, none⟩) (I l).length cap') (I l) → r < w2.heap.size → o = .cells #[.pointer (some ⟨q, 0, none⟩), .slice (some ⟨r, 0, none⟩) (I l).length cap', .int .i64 0, .int .u64 0, .nilFunc] 91 → w1 = w2.alloc o → PushAt w1 w2.heap.size q (.slice (some ⟨r, 0, none⟩) l.length cap') l 0 0 .nilFunc := by
    rintro w1 w2 r cap' o hi hr rfl rfl
    rw [I_len] at hi ⊢
    exact ⟨Whole.new _ _ _, hi.up (Up.alloc _ _), by simp [Value.ownBlock]; omega⟩
  have HK := Lib.hid (fun w1 w2 r cap' o => @key w1 w2 r cap' o)
  clear key hI R h E
  go_enter Try.func25, Try.ntmps25
  go_wp2_with (first
    | (go_at_call 50; refine hc.out.mono ?_; rintro e w1 ⟨rfl, U1⟩)
    | (go_at_call 49; refine (clone_in (HR.out.up U1) HI.out (by rw [I_len]; exact hl)).mono ?_; rintro e w2 ⟨r, cap', rfl, i1, i2, i3, i4⟩)
    | (go_at_call 51; refine (linkOrLoad_in (HK.out _ w2 r cap' _ i1 i3 rfl rfl) hl lp).mono ?_; rintro e w3 ⟨rfl, P3, E3⟩))
  go_ret2
  have u1 := U1.size
  have u4 := i4.size
  refine ⟨w2.heap.size, r, cap', rfl, P3, by omega, by omega, Else.up_new ((U1.trans i4).then_alloc _) E3 ?_⟩
  intro k hk; simp at hk; omega
end
end Go.Proofs.Ytalhbebpoohgkaa
