/-
  The statements' own table, first; SameInts.
-/
import Derived.Test.YtalhbebpoohgkaaTakes
namespace Go.Proofs.Ytalhbebpoohgkaa
open Go.RowKit
set_option maxRecDepth 100000
section
variable {w w1 w' : World} {p g q n t b r : Nat} {s s' : St} {S : List Nat} {m : Nat → Stk.Mach} {has : Nat → List Nat} {l : List Nat} {cap most : Nat} {v : Value}
theorem Ints.at_ {w : World} {r k cap : Nat} {l : List Nat} (h : Ints w (.slice (some ⟨r, 0, none⟩) k cap) (I l)) {j : Nat} (hj : j < l.length) : w.cell? ⟨r, j, none⟩ = some (.int .i64 ((l.getD j 0 : Nat) : Int)) := by
  obtain ⟨r', c', e, hc⟩ := h.get (by intro e; rw [e] at hj; simp at hj)
  injection e with e1; injection e1 with e1; injection e1 with e1; subst e1
  exact hc j hj
theorem zero_len (n : Nat) : (St.zero n).xs.length = n := by simp [St.zero]
set_option maxHeartbeats 2000000 in
theorem table_in {k : Int} (n : Nat) (hk : k = n) (h0 : 1 ≤ n) (h1 : n ≤ 400) (w : World) :
    Calls Try.prog 11 #[.int .i64 k] w fun e w' => ∃ p g q, e = .returned (.tuple #[.pointer (some ⟨p, 0, none⟩), .pointer (some ⟨q, 0, none⟩)]) ∧ Env w' p g q 0 2 n (St.zero (n + 2)) ∧ w.heap.size ≤ p ∧ w.heap.size ≤ g ∧ w.heap.size ≤ q ∧ Up w w' := by
  subst hk
  have e2 : (n : Int) + 2 = ((n + 2 : Nat) : Int) := by omega
  have E2 := Lib.hid e2
  clear e2
  have nb : newB (St.zero (n + 2)) 0 2 n := by
    have hl : ((St.zero (n + 2)).xs.length : Int) = n + 2 := by rw [zero_len]; omega
    refine ⟨by omega, by omega, ⟨by omega, by omega⟩, ⟨by omega, by omega⟩, ⟨by omega, by omega⟩, by omega⟩
  have NB := Lib.hid nb
  have hz : (St.zero (n + 2)).xs.length ≤ 8388608 := by rw [zero_len]; omega
  clear nb
  go_enter Try.func11, Try.ntmps11
  go_wp2_with (first
    | (go_at_call 33; refine (new_is E2.out (by omega) (by omega) _).mono ?_; rintro e w1 ⟨rfl, M1, U1⟩; have HM := Lib.hid M1; clear M1)
    | (go_at_call 34; refine (snew_yes HM.out hz NB.out).mono ?_; rintro e w2 ⟨rfl, U2, W2⟩))
  go_ret2
  have g1 := HM.out.top.lt
  have g2 := HM.out.row.lt
  have g3 := U1.size
  refine ⟨_, _, _, rfl, ⟨HM.out.up U2, W2, St.Ok.zero _, by omega, by omega, h0, by omega, by rw [zero_len]; omega, by rw [zero_len]; omega, hz, .inl (by omega)⟩, by omega, by omega, by omega, U1.trans U2⟩
theorem fillK_lk (s : St) : ∀ k i, 2 + k ≤ s.xs.length → Stk.lkOf (fillK s 2 k).xs i = if i < k then (i : Int) + 2 else Stk.lkOf s.xs i
  | 0, i, _ => by simp [fillK]
  | k + 1, i, h => by
    have ih := fillK_lk s k i (by omega)
    unfold fillK St.lay
    dsimp only
    rw [show (((2 : Nat) : Int) + k).toNat = 2 + k by omega, Stk.lkOf_set_link (by rw [fillK_len]; omega)]
    unfold Stk.upd
    by_cases c : i = k
    · subst c; rw [if_pos rfl, if_pos (by omega)]
    · rw [if_neg c, ih]
      by_cases c2 : i < k
      · rw [if_pos c2, if_pos (by omega)]
      · rw [if_neg c2, if_neg (by omega)]
theorem fillS_lk (s : St) (n i : Nat) (h0 : 1 ≤ n) (hl : s.xs.length = n + 2) (hi : i < n) : Stk.lkOf (fillS s 0 2 n).xs i = if i + 1 < n then (i : Int) + 2 else 0 := by
  unfold fillS St.lay
  dsimp only
  rw [show ((0 : Nat) : Int).toNat = 0 by rfl, Stk.lkOf_set_head, show (((2 : Nat) : Int) + n - 1).toNat = 2 + (n - 1) by omega, Stk.lkOf_set_link (by rw [fillK_len]; omega)]
  unfold Stk.upd
  by_cases c : i = n - 1
  · rw [if_pos c, if_neg (by omega)]
  · rw [if_neg c, fillK_lk s (n - 1) i (by omega), if_pos (by omega), if_pos (by omega)]
theorem fillS_hd (s : St) (n : Nat) (hl : s.xs.length = n + 2) : Stk.hdOf (fillS s 0 2 n).xs = 1 := by
  unfold fillS St.lay
  dsimp only
  rw [show ((0 : Nat) : Int).toNat = 0 by rfl, Stk.hdOf_set_head (by rw [List.length_set, fillK_len]; omega)]
theorem fillS_len (s : St) (hd ln n : Nat) : (fillS s hd ln n).xs.length = s.xs.length := by
  unfold fillS; rw [lay_len, lay_len, fillK_len]
theorem fillS_c (s : St) (hd ln n : Nat) : (fillS s hd ln n).c = s.c := fillK_c s ln (n - 1)
theorem fillS_ok {s : St} (h : s.Ok) (hd ln n : Nat) (hn : n ≤ 4096) : (fillS s hd ln n).Ok := ((fillK_ok h ln (n - 1) (by omega)).lay _ (by omega) (by omega)).lay _ (by omega) (by omega)
theorem sys_fill (E : Env w p g q 0 2 n (St.zero (n + 2))) (M : Mem w' p g (fillS (St.zero (n + 2)) 0 2 n)) (u : Else [p, g] w w') :
    Sys w' p g q n (fillS (St.zero (n + 2)) 0 2 n) 0 (List.range n) (fun _ => .idle) (fun _ => []) := by
  have hl := zero_len (n + 2)
  have n0 := E.n0
  have n1 := E.n1
  refine ⟨E.turn M u (fillS_ok E.ok _ _ _ n1) (fillS_len _ _ _ _), (fillS_len _ _ _ _).trans hl, Stk.GI.fill (by omega) (by omega) (fillS_hd _ _ hl) (fun i hi => fillS_lk _ _ _ n0 hl hi)⟩
theorem zero_hd (n : Nat) : Stk.hdOf (St.zero n).xs = 0 := by
  unfold Stk.hdOf St.zero List.getD
  by_cases h : 0 < n <;> simp [h]
theorem zero_lk (n i : Nat) : Stk.lkOf (St.zero n).xs i = 0 := by
  unfold Stk.lkOf St.zero List.getD
  by_cases h : 2 + i < n <;> simp [h]
/-- The empty stack: all items are in one's hands. -/
theorem sys_empty (E : Env w p g q 0 2 n (St.zero (n + 2))) (L : List Nat) (hL : ∀ x, L.count x = if x < n then 1 else 0) :
    Sys w p g q n (St.zero (n + 2)) 0 [] (fun _ => .idle) (Stk.upd (fun _ => []) 0 L) := by
  have n1 := E.n1
  refine ⟨E, zero_len _, ⟨?_, trivial, by omega, fun x _ => ?_, fun x => ?_, fun _ _ => trivial⟩⟩
  · rw [zero_hd]; rfl
  · rw [zero_lk]; omega
  · simp [Stk.sum4, Stk.puts_idle, Stk.upd, hL x]
theorem Sys.perm (Y : Sys w p g q n s t S m has) {u : Nat} (hu : u < 4) {L : List Nat} (h : (has u).Perm L) : Sys w p g q n s t S m (Stk.upd has u L) := by
  refine ⟨Y.env, Y.len, ⟨Y.gi.head, Y.gi.chain, Y.gi.small, Y.gi.links, fun x => ?_, Y.gi.ok⟩⟩
  have c := Y.gi.cnt x
  have e := Stk.cnt_upd m has hu (m u) L x
  rw [Stk.upd_id] at e
  rw [h.count_eq] at e
  omega

end
end Go.Proofs.Ytalhbebpoohgkaa
