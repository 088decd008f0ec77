/-
  The statements' own alone: a Push by itself.
-/
import Derived.Test.YtalhbebpoohgkaaSys
import Derived.Test.YtalhbebpoohgkaaPushNew
namespace Go.Proofs.Ytalhbebpoohgkaa
open Go.RowKit
set_option maxRecDepth 100000

theorem upd_upd {α : Type} (f : Nat → α) (i : Nat) (a b : α) : Stk.upd (Stk.upd f i a) i b = Stk.upd f i b := by
  funext j; unfold Stk.upd; split <;> rfl
theorem upd_back {α : Type} {f : Nat → α} {i : Nat} {a : α} (h : f i = a) : Stk.upd f i a = f := by rw [← h]; exact Stk.upd_id f i
section
variable {w w1 w' : World} {p g q n t b r : Nat} {s s' : St} {S : List Nat} {m : Nat → Stk.Mach} {has : Nat → List Nat} {l : List Nat} {cap : Nat} {v : Value}
theorem apart_new (E : Env w p g q 0 2 n s) (hb : w.heap.size ≤ b) (hv : Fresh w v) : Apart b p g q v := by
  have h1 := E.mem.top.lt
  have h2 := E.mem.row.lt
  have h3 := E.stk.lt
  refine ⟨by omega, by omega, by omega, fun e => ?_, fun e => ?_, fun e => ?_⟩
  · have := hv _ e; omega
  · have := hv _ e; omega
  · have := hv _ e; omega
theorem fresh_row {k c : Nat} (h : w.heap.size ≤ r) : Fresh w (.slice (some ⟨r, 0, none⟩) k c) := by
  intro k hk; simp [Value.ownBlock] at hk; omega
/-- What was done to new blocks is nothing. -/
theorem Else.drop_new {s : List Nat} {a c : World} {x : Nat} (h : Else (x :: s) a c) (hx : a.heap.size ≤ x) : Else s a c :=
  ⟨h.os, h.tape, h.output, h.size, fun k hk hs => h.block k hk (by simp [hs]; omega)⟩

/-- How far a Push by itself is behind k accesses. -/
inductive ARel (w : World) (p g q n t b : Nat) (S : List Nat) (m : Nat → Stk.Mach) (has : Nat → List Nat) (u : Nat) (l : List Nat) (v : Value) (wr : World) : Nat → Prop
  | go {k : Nat} {s' : St} (hk : k ≤ l.length + 1) (P : PushM wr b q v l k (if l.length ≤ k then Stk.hdOf s'.xs else 0)) (Y : Sys wr p g q n s' t S (Stk.upd m u (.push l k (if l.length ≤ k then Stk.hdOf s'.xs else 0))) has) (E : Else [p, g] w wr) : ARel w p g q n t b S m has u l v wr k
  | done {s' : St} (c4 : wr.cell? ⟨b, 4, none⟩ = some .nilFunc) (Y : Sys wr p g q n s' (t + 1) (l ++ S) m has) (E : Else [p, g] w wr) : ARel w p g q n t b S m has u l v wr (l.length + 2)
theorem ARel.le {u k : Nat} {wr : World} (h : ARel w p g q n t b S m has u l v wr k) : k ≤ l.length + 2 := by
  cases h with
  | go hk _ _ _ => omega
  | done _ _ _ => omega
/-- One round of it. -/
theorem ARel.step {u k : Nat} {wr : World} (hu : u < 4) (hm : m u = .idle) (hb : w.heap.size ≤ b) (A : Apart b p g q v) (ht : t < 4294967295) (h : ARel w p g q n t b S m has u l v wr k) (hk : k < l.length + 2) :
    Calls Try.prog 20 #[.pointer (some ⟨b, 0, none⟩)] wr fun e w' => e = .returned (.bool true) ∧ ARel w p g q n t b S m has u l v w' (k + 1) := by
  cases h with
  | done _ _ _ => omega
  | @go _ s' hk2 P Y E =>
    have em := Stk.upd_same m u (.push l k (if l.length ≤ k then Stk.hdOf s'.xs else 0))
    by_cases h1 : k ≤ l.length
    · refine (push_go Y hu em h1 P A).mono ?_
      rintro e w' ⟨rfl, s2, _, hh, P2, Y2, E2⟩
      have ho : (if k + 1 = l.length then Stk.hdOf s'.xs else if l.length ≤ k then Stk.hdOf s'.xs else 0) = if l.length ≤ k + 1 then Stk.hdOf s2.xs else 0 := by
        rw [hh]
        by_cases c1 : k + 1 = l.length
        · rw [if_pos c1, if_pos (by omega)]
        · rw [if_neg c1]
          by_cases c2 : l.length ≤ k
          · rw [if_pos c2, if_pos (by omega)]
          · rw [if_neg c2, if_neg (by omega)]
      rw [ho] at P2 Y2
      rw [upd_upd] at Y2
      exact ⟨rfl, .go (by omega) P2 Y2 (((E.wide b).trans E2).drop_new hb)⟩
    · have e2 : (if l.length ≤ k then Stk.hdOf s'.xs else 0) = Stk.hdOf s'.xs := if_pos (by omega)
      refine (push_done Y hu em (by omega) e2 ht P A).mono ?_
      rintro e w' ⟨rfl, s2, _, c4, Y2, E2⟩
      rw [upd_upd, upd_back hm] at Y2
      have ek : k + 1 = l.length + 2 := by omega
      rw [ek]
      exact ⟨rfl, .done c4 Y2 (((E.wide b).trans E2).drop_new hb)⟩
/-- Items in one's hands are items, none twice. -/
theorem Sys.good (Y : Sys w p g q n s t S m has) {u : Nat} (hu : u < 4) {rr : List Nat} (h' : has u = l ++ rr) : Good n (I l) ∧ l.length ≤ n := by
  have key : ∀ x, l.count x ≤ (if x < n then 1 else 0) := by
    intro x
    have c := Y.gi.cnt x
    have s1 := Stk.sum4_ge (fun w => (has w).count x + (Stk.puts (m w)).count x) hu
    rw [h', List.count_append] at s1
    omega
  have nd : l.Nodup := by
    rw [List.nodup_iff_count]
    intro x
    have := key x
    split at this <;> omega
  have lt : ∀ x ∈ l, x < n := by
    intro x hx
    have c := key x
    have := List.count_pos_iff.2 hx
    by_cases hn : x < n
    · exact hn
    · rw [if_neg hn] at c; omega
  refine ⟨⟨fun x hx => ?_, ?_⟩, ?_⟩
  · obtain ⟨y, hy, rfl⟩ := List.mem_map.1 hx
    have := lt y hy
    exact ⟨by omega, by omega⟩
  · unfold I
    rw [List.nodup_iff_pairwise_ne, List.pairwise_map]
    exact (List.nodup_iff_pairwise_ne.1 nd).imp (fun hne e => hne (by omega))
  · have h := (Y.gi.once rfl).1
    simp only [List.length_append] at h
    have e2 : (has u).length = l.length + rr.length := by rw [h']; simp
    rcases (show u = 0 ∨ u = 1 ∨ u = 2 ∨ u = 3 by omega) with rfl | rfl | rfl | rfl <;> omega
/-- A Push begins. -/
theorem Sys.push_new (Y : Sys w p g q n s t S m has) {u : Nat} (hu : u < 4) (hm : Stk.puts (m u) = []) {rr : List Nat} (hh : has u = l ++ rr) (h0 : l ≠ []) : Sys w p g q n s t S (Stk.upd m u (.push l 0 0)) (Stk.upd has u rr) :=
  ⟨Y.env, Y.len, Y.gi.push_new hu hm hh h0 0⟩
theorem PushAt.begins (P : PushAt w b q v l 0 0 (nxL b l.length 0)) (h0 : l ≠ []) : PushM w b q v l 0 0 := by
  have lp := List.length_pos_iff.2 h0
  rw [nxL_is lp] at P
  refine ⟨?_, by omega, by omega⟩
  rw [Nat.zero_min]; exact P
set_option maxHeartbeats 2000000 in
theorem alone_in (Y : Sys w p g q n s t S m has) {u : Nat} (hu : u < 4) (hm : m u = .idle) {rr : List Nat} (hh : has u = l ++ rr) (h0 : l ≠ []) (hn : n ≤ 400) (ht : t < 4294967295) (R : Rd w v (I l)) :
    Calls Try.prog 28 #[.pointer (some ⟨q, 0, none⟩), v] w fun e w' => e = .returned (.int .i64 ((l.length : Int) + 2)) ∧ ∃ s', Sys w' p g q n s' (t + 1) (l ++ S) m (Stk.upd has u rr) ∧ Else [p, g] w w' := by
  obtain ⟨hG, hl⟩ := Y.good hu hh
  have lp := List.length_pos_iff.2 h0
  have hp := Lib.hid (spush_yes Y.env R h0 hG (by omega))
  have HY := Lib.hid Y
  clear hG R Y
  go_enter Try.func28, Try.ntmps28
  go_wp2_with (go_at_call 25; refine hp.out.mono ?_; rintro e w1 ⟨b, r, cap, rfl, P1, hb, hr, U1⟩; have HP := Lib.hid P1; clear P1)
  have A := Lib.hid (apart_new (v := .slice (some ⟨r, 0, none⟩) l.length cap) HY.out.env hb (fresh_row hr))
  go_loopw [7] (fun i wr => ∃ k : Nat, i = .int .i64 k ∧ ARel w p g q n t b S m (Stk.upd has u rr) u l (.slice (some ⟨r, 0, none⟩) l.length cap) wr k) (fun i _ => l.length + 3 - (intOf i).toNat)
  case atStart =>
    refine ⟨0, rfl, .go (s' := s) (Nat.zero_le _) ?_ ?_ (Else.of_up U1)⟩
    · rw [if_neg (by omega)]; exact HP.out.begins h0
    · rw [if_neg (by omega)]; exact (HY.out.push_new hu (by rw [hm]; rfl) hh h0).up U1
  case round =>
    obtain ⟨k, rfl, hrel⟩ := hrel
    have HR := Lib.hid hrel
    have hle := hrel.le
    clear hrel
    by_cases hk : k < l.length + 2
    · have i1 : (k : Int) + 1 ≤ 500 := by omega
      go_wp2_with (go_at_call 20; refine (HR.out.step hu hm hb A.out ht hk).mono ?_; rintro e w2 ⟨rfl, h2⟩; have H2 := Lib.hid h2; clear h2)
      go_roundw
      case rel => exact ⟨k + 1, by go_num, H2.out⟩
      case measure => simp [intOf]; omega
    · have ek : k = l.length + 2 := by omega
      subst ek
      cases HR.out with
      | go hk2 _ _ _ => omega
      | @done s2 c4 Y2 E2 =>
        have C4 := Lib.hid c4
        clear c4
        go_wp2_with (go_at_call 20; refine (pushStep_end C4.out).mono ?_; rintro e w2 ⟨rfl, rfl⟩)
        go_ret
        exact ⟨ret_int (by push_cast; rfl), s2, Y2, E2⟩
set_option maxHeartbeats 2000000 in
theorem alone_nil (E : Env w p g q 0 2 n s) :
    Calls Try.prog 28 #[.pointer (some ⟨q, 0, none⟩), .slice none 0 0] w fun e w' => e = .returned (.int .i64 0) ∧ Up w w' := by
  have hp := Lib.hid (spush_nil E)
  go_enter Try.func28, Try.ntmps28
  go_wp2_with (go_at_call 25; refine hp.out.mono ?_; rintro e w1 ⟨b, rfl, P1, hb, U1⟩; have HP := Lib.hid P1.cells.2.2.2.2; clear P1)
  go_loopw [7] (fun i wr => i = .int .i64 0 ∧ w1 = wr) (fun _ _ => 1)
  case atStart => exact ⟨rfl, rfl⟩
  case round =>
    obtain ⟨rfl, rfl⟩ := hrel
    go_wp2_with (go_at_call 20; refine (pushStep_end HP.out).mono ?_; rintro e w2 ⟨rfl, rfl⟩)
    go_ret
    exact ⟨rfl, U1⟩
end
end Go.Proofs.Ytalhbebpoohgkaa
