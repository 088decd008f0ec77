/-
  The statements' own takes: a Pop by itself.
-/
import Derived.Test.YtalhbebpoohgkaaAlone
namespace Go.Proofs.Ytalhbebpoohgkaa
open Go.RowKit
set_option maxRecDepth 100000
section
variable {w w1 w' : World} {p g q n t b r : Nat} {s s' : St} {S : List Nat} {m : Nat → Stk.Mach} {has : Nat → List Nat} {l : List Nat} {cap most : Nat} {v : Value}
/-- How far a Pop by itself is behind k accesses. -/
inductive TRel (w : World) (p g q n t b most : Nat) (S : List Nat) (m : Nat → Stk.Mach) (has : Nat → List Nat) (u : Nat) (wr : World) : Nat → Prop
  | start {s' : St} {l : List Nat} {v : Value} {deep old : Int} (P : PopM wr b q v l most 0 deep old) (F : Fresh w v) (Y : Sys wr p g q n s' t S m has) (E : Else [p, g] w wr) : TRel w p g q n t b most S m has u wr 0
  | link {k : Nat} {s' : St} {v : Value} {deep : Int} (h0 : 0 < k) (h1 : k ≤ most) (h2 : k ≤ S.length) (F : Fresh w v) (P : PopM wr b q v (S.take k) most 1 deep (Stk.hdOf s'.xs)) (Y : Sys wr p g q n s' t S (Stk.upd m u (.pop most 1 deep (Stk.hdOf s'.xs) (S.take k))) has) (E : Else [p, g] w wr) : TRel w p g q n t b most S m has u wr k
  | turn {k : Nat} {s' : St} {v : Value} {deep : Int} (hk : k = min most S.length + 1) (F : Fresh w v) (P : PopM wr b q v (S.take (min most S.length)) most 2 deep (Stk.hdOf s'.xs)) (Y : Sys wr p g q n s' t S (Stk.upd m u (.pop most 2 deep (Stk.hdOf s'.xs) (S.take (min most S.length)))) has) (E : Else [p, g] w wr) : TRel w p g q n t b most S m has u wr k
  | done {k : Nat} {s' : St} {v : Value} {deep old : Int} (hk : k = min most S.length + 2) (F : Fresh w v) (P : PopAt wr b q v (S.take (min most S.length)) most deep old .nilFunc) (Y : Sys wr p g q n s' (t + 1) (S.drop (min most S.length)) m (Stk.upd has u (has u ++ S.take (min most S.length)))) (E : Else [p, g] w wr) : TRel w p g q n t b most S m has u wr k
theorem TRel.le {u k : Nat} {wr : World} (h : TRel w p g q n t b most S m has u wr k) : k ≤ min most S.length + 2 := by
  cases h with
  | start _ _ _ _ => omega
  | link _ _ _ _ _ _ _ => omega
  | turn _ _ _ _ _ => omega
  | done _ _ _ _ _ => omega
theorem fresh_or {wr : World} {c : Nat} (F : Fresh w v) (hs : w.heap.size ≤ wr.heap.size) (h : v.ownBlock = some r ∨ wr.heap.size ≤ r) {k : Nat} : Fresh w (.slice (some ⟨r, 0, none⟩) k c) := by
  intro j hj; simp [Value.ownBlock] at hj
  rcases h with h | h
  · have := F _ h; omega
  · omega
theorem apart_at (E : Env w p g q 0 2 n s) (hb : w.heap.size ≤ b) (F : Fresh w v) : Apart b p g q v := apart_new E hb F
theorem take_last {S : List Nat} {k : Nat} (h0 : 0 < k) (h2 : k ≤ S.length) (hne : S.take k ≠ []) : (S.take k).getLast hne = S.getD (k - 1) 0 := by
  rw [Stk.getLast_getD, List.length_take, Nat.min_eq_left h2]
  unfold List.getD
  rw [List.getElem?_take, if_pos (by omega)]
/-- One round of it. -/
theorem TRel.step {u k : Nat} {wr : World} (E0 : Env w p g q 0 2 n s) (hu : u < 4) (hm : m u = .idle) (hb : w.heap.size ≤ b) (ht : t < 4294967295) (hS : S ≠ []) (h : TRel w p g q n t b most S m has u wr k) (hk : k < min most S.length + 2) :
    Calls Try.prog 22 #[.pointer (some ⟨b, 0, none⟩)] wr fun e w' => e = .returned (.bool true) ∧ TRel w p g q n t b most S m has u w' (k + 1) := by
  have sp := List.length_pos_iff.2 hS
  cases h with
  | done hk2 _ _ _ _ => omega
  | @start s' l v deep old P F Y E =>
    have A := apart_at E0 hb F
    obtain ⟨x, rs, rfl⟩ : ∃ x rs, S = x :: rs := by
      cases S with
      | nil => exact absurd rfl hS
      | cons x rs => exact ⟨x, rs, rfl⟩
    refine (pop_head Y hu (by rw [hm]; rfl) rfl P A).mono ?_
    rintro e w' ⟨rfl, s2, r2, cap2, _, hx, hr, P2, A2, Y2, E2⟩
    have hsz := E.size
    rw [← hx] at P2 Y2
    have m1 := P.m1
    refine ⟨rfl, .link (by omega) (by omega) (by simp) (fresh_row (k := 1) (c := cap2) (by omega)) P2 Y2 (((E.wide b).trans E2).drop_new hb)⟩
  | @link _ s' v deep h0 h1 h2 F P Y E =>
    have A := apart_at E0 hb F
    have em := Stk.upd_same m u (.pop most 1 deep (Stk.hdOf s'.xs) (S.take k))
    have hne : S.take k ≠ [] := by
      intro e; have := congrArg List.length e; simp only [List.length_take, List.length_nil] at this; omega
    have hlast := take_last h0 h2 hne
    have hch := Y.gi.chain.get (j := k - 1) (by omega)
    rw [show k - 1 + 1 = k by omega] at hch
    have hlen : (S.take k).length = k := by simp; omega
    by_cases hmore : k < S.length ∧ k ≠ most
    · have hd : Stk.lkOf s'.xs ((S.take k).getLast hne) = (S.getD k 0 : Nat) + 1 := by rw [hlast, hch, Stk.linkOf_drop hmore.1]
      refine (pop_goes Y hu em hne hd (by rw [hlen]; exact hmore.2) P A).mono ?_
      rintro e w' ⟨rfl, s2, r2, cap2, _, hx, hr, P2, A2, Y2, E2⟩
      obtain ⟨r0, c0, rfl, _⟩ := P.at_.row.get hne
      have E3 := E2 r0 rfl
      have hr0 := F r0 rfl
      rw [upd_upd] at Y2
      rw [← hx, Stk.take_more hmore.1] at P2 Y2
      rw [hlen] at P2
      refine ⟨rfl, .link (by omega) (by omega) (by omega) (fresh_or (k := k + 1) (c := cap2) F E.size hr) P2 Y2 ?_⟩
      have E4 : Else [b, r0, p, g] w wr := E.more (by intro j hj; simp at hj ⊢; rcases hj with h | h <;> simp [h])
      exact ((E4.trans E3).drop_new hb).drop_new hr0
    · have hk2 : k = min most S.length := by omega
      have hend : Stk.lkOf s'.xs ((S.take k).getLast hne) = 0 ∨ (S.take k).length = most := by
        by_cases c : k < S.length
        · right; rw [hlen]
          by_cases c2 : k = most
          · exact c2
          · exact absurd ⟨c, c2⟩ hmore
        · left; rw [hlast, hch, Stk.linkOf_end (by omega)]
      refine (pop_stop Y hu em hne hend P A).mono ?_
      rintro e w' ⟨rfl, s2, _, hx, P2, Y2, E2⟩
      rw [upd_upd] at Y2
      rw [← hx] at P2 Y2
      have ek : S.take k = S.take (min most S.length) := by rw [← hk2]
      have : ∀ {d : Int}, PopM w' b q v (S.take k) most 2 d (Stk.hdOf s2.xs) → Sys w' p g q n s2 t S (Stk.upd m u (.pop most 2 d (Stk.hdOf s2.xs) (S.take k))) has → TRel w p g q n t b most S m has u w' (k + 1) := by
        intro d P3 Y3
        rw [ek] at P3 Y3
        exact .turn (by omega) F P3 Y3 (((E.wide b).trans E2).drop_new hb)
      exact ⟨rfl, this P2 Y2⟩
  | @turn _ s' v deep hk2 F P Y E =>
    have A := apart_at E0 hb F
    have em := Stk.upd_same m u (.pop most 2 deep (Stk.hdOf s'.xs) (S.take (min most S.length)))
    refine (pop_done Y hu em rfl ht P A).mono ?_
    rintro e w' ⟨rfl, s2, rs, _, hrs, P2, Y2, E2⟩
    rw [upd_upd, upd_back hm] at Y2
    have er : rs = S.drop (min most S.length) := by
      have h1 := List.take_append_drop (min most S.length) S
      have h2 : S.take (min most S.length) ++ rs = S.take (min most S.length) ++ S.drop (min most S.length) := by rw [← hrs, h1]
      exact List.append_cancel_left h2
    rw [er] at Y2
    exact ⟨rfl, .done (by omega) F P2 Y2 (((E.wide b).trans E2).drop_new hb)⟩
set_option maxHeartbeats 2000000 in
theorem takes_in (Y : Sys w p g q n s t S m has) {u : Nat} (hu : u < 4) (hm : m u = .idle) (hS : S ≠ []) (ht : t < 4294967295) {mm : Int} (hmm : min (max mm 1) 8 = (most : Int)) :
    Calls Try.prog 29 #[.pointer (some ⟨q, 0, none⟩), .int .i64 mm] w fun e w' => ∃ r cap s', e = .returned (.tuple #[.slice (some ⟨r, 0, none⟩) (min most S.length) cap, .int .i64 ((min most S.length : Nat) + 2 : Int)]) ∧ Ints w' (.slice (some ⟨r, 0, none⟩) (min most S.length) cap) (I (S.take (min most S.length))) ∧ w.heap.size ≤ r ∧ Sys w' p g q n s' (t + 1) (S.drop (min most S.length)) m (Stk.upd has u (has u ++ S.take (min most S.length))) ∧ Else [p, g] w w' := by
  have sp := List.length_pos_iff.2 hS
  have hp := Lib.hid (spop_in (w := w) (q := q) mm hmm)
  have HY := Lib.hid Y
  have m1 : 1 ≤ most := by omega
  have m8 : most ≤ 8 := by omega
  clear Y
  go_enter Try.func29, Try.ntmps29
  go_wp2_with (go_at_call 26; refine hp.out.mono ?_; rintro e w1 ⟨rfl, P1, U1⟩; have HP := Lib.hid P1; clear P1)
  go_loopw [7] (fun i wr => ∃ k : Nat, i = .int .i64 k ∧ TRel w p g q n t w.heap.size most S m has u wr k) (fun i _ => 11 - (intOf i).toNat)
  case atStart => exact ⟨0, rfl, .start (s' := s) ⟨HP.out, by omega, by omega, m1, m8, by simp⟩ (fun k hk => by simp [Value.ownBlock] at hk) (HY.out.up U1) (Else.of_up U1)⟩
  case round =>
    obtain ⟨k, rfl, hrel⟩ := hrel
    have HR := Lib.hid hrel
    have hle := hrel.le
    clear hrel
    by_cases hk : k < min most S.length + 2
    · have i1 : (k : Int) + 1 ≤ 500 := by omega
      go_wp2_with (go_at_call 22; refine (HR.out.step HY.out.env hu hm (Nat.le_refl _) ht hS hk).mono ?_; rintro e w2 ⟨rfl, h2⟩; have H2 := Lib.hid h2; clear h2)
      go_roundw
      case rel => exact ⟨k + 1, by go_num, H2.out⟩
      case measure => simp [intOf]; omega
    · have fin : ∃ s' v deep old, k = min most S.length + 2 ∧ Fresh w v ∧ PopAt wr w.heap.size q v (S.take (min most S.length)) most deep old .nilFunc ∧ Sys wr p g q n s' (t + 1) (S.drop (min most S.length)) m (Stk.upd has u (has u ++ S.take (min most S.length))) ∧ Else [p, g] w wr := by
        cases HR.out with
        | start _ _ _ _ => omega
        | link _ _ _ _ _ _ _ => omega
        | turn _ _ _ _ _ => omega
        | @done _ s2 v deep old hk2 F P Y E => exact ⟨s2, v, deep, old, hk2, F, P, Y, E⟩
      obtain ⟨s2, v, deep, old, rfl, F, P, Y2, E2⟩ := fin
      have hlen : (S.take (min most S.length)).length = min most S.length := by rw [List.length_take]; omega
      have hgot := got_in P (by intro e; rw [e] at hlen; simp at hlen; omega) (by omega)
      rw [hlen] at hgot
      have HGOT := Lib.hid hgot
      have C5 := Lib.hid P.cells.2.2.2.2.2
      have HY2 := Lib.hid Y2
      clear hgot P F Y2
      generalize hMM : min most S.length = M at *
      go_wp2_with (first
        | (go_at_call 22; refine (popStep_end C5.out).mono ?_; rintro e w2 ⟨rfl, rfl⟩)
        | (go_at_call 24; refine HGOT.out.mono ?_; rintro e w3 ⟨r3, cap3, rfl, I3, h3, h4, U3⟩))
      go_ret2
      have := E2.size
      subst hMM
      exact ⟨r3, cap3, s2, by push_cast; rfl, I3, by omega, HY2.out.up U3, E2.up U3⟩
set_option maxHeartbeats 2000000 in
theorem takes_none (Y : Sys w p g q n s t [] m has) {u : Nat} (hu : u < 4) (hm : m u = .idle) {mm : Int} (hmm : min (max mm 1) 8 = (most : Int)) :
    Calls Try.prog 29 #[.pointer (some ⟨q, 0, none⟩), .int .i64 mm] w fun e w' => ∃ s', e = .returned (.tuple #[.slice none 0 0, .int .i64 1]) ∧ s'.xs = s.xs ∧ Sys w' p g q n s' t [] m has ∧ Else [p, g] w w' := by
  have hp := Lib.hid (spop_in (w := w) (q := q) mm hmm)
  have HY := Lib.hid Y
  have m1 : 1 ≤ most := by omega
  have m8 : most ≤ 8 := by omega
  clear Y
  go_enter Try.func29, Try.ntmps29
  go_wp2_with (go_at_call 26; refine hp.out.mono ?_; rintro e w1 ⟨rfl, P1, U1⟩; have HP := Lib.hid P1; clear P1)
  have P0 : PopM w1 w.heap.size q (.slice none 0 0) [] most 0 0 0 := ⟨HP.out, by omega, by omega, m1, m8, by simp⟩
  have hst := Lib.hid (pop_none (HY.out.up U1) hu (by rw [hm]; rfl) rfl P0 (apart_new HY.out.env (Nat.le_refl _) (fun k hk => by simp [Value.ownBlock] at hk)))
  clear P0
  refine wp_loop_rounds 2 ?_
  rw [rounds_succ]
  go_wp2_with (go_at_call 22; refine hst.out.mono ?_; rintro e w2 ⟨rfl, s2, _, hx2, P2, Y2, E2⟩; have HP2 := Lib.hid P2; have C5 := Lib.hid P2.cells.2.2.2.2.2; have HY2 := Lib.hid Y2; have HE2 := Lib.hid E2; clear P2 Y2 E2)
  rw [rounds_succ]
  go_wp2_with (first
    | (go_at_call 22; refine (popStep_end C5.out).mono ?_; rintro e w3 ⟨rfl, rfl⟩)
    | (go_at_call 24; refine (got_nil HP2.out).mono ?_; rintro e w3 ⟨rfl, rfl⟩))
  go_ret2
  have Y3 := HY2.out
  rw [upd_back hm] at Y3
  exact ⟨s2, rfl, hx2, Y3, ((Else.of_up U1).trans HE2.out).drop_new (Nat.le_refl _)⟩
end
end Go.Proofs.Ytalhbebpoohgkaa
