/-
  Package stack: the machine Pop: the Load of a link, the exchange, Step, Done.
-/
import Derived.Test.YtalhbebpoohgkaaPop
namespace Go.Proofs.Ytalhbebpoohgkaa
open Go.RowKit
open W64
set_option maxRecDepth 100000
section
variable {w w' : World} {p g q hd ln n b most : Nat} {s : St} {v v' : Value} {l l' : List Nat} {deep old : Int} {nx : Value}
theorem wrap_last {K k : Nat} (h : K = k + 1) (h8 : K ≤ 8) : (k : Int) < (K : Int) ∧ wrap64 ((K : Int) - 1) = k ∧ IntKind.i64.wrap ((K : Int) - 1) = k := by
  refine ⟨by omega, ?_, ?_⟩
  · rw [wrap64_in (by omega) (by omega)]; omega
  · rw [IntWalk.i64_in _ (by omega)]; omega
theorem wrap_ln {ln x n L : Nat} (h : x < n) (h1 : ln + n ≤ L) (h2 : L ≤ 8388608) : wrap64 ((ln : Int) + x) = ln + x ∧ IntKind.i64.wrap ((ln : Int) + x) = ln + x :=
  ⟨wrap64_in (by omega) (by omega), IntWalk.i64_in _ (by omega)⟩
set_option maxHeartbeats 4000000 in
theorem pop_linkA (E : Env w p g q hd ln n s) (P : PopAt w b q v l most deep old nx) (A : Apart b p g q v) (hl0 : l ≠ []) (hn : ∀ x ∈ l, x < n) (hl : l.length ≤ 8) (hd : belowN n (s.get (ln + (l.getD (l.length - 1) 0 : Nat))) = -1) :
    Calls Try.prog 66 #[.pointer (some ⟨b, 0, none⟩)] w fun e w' => e = .returned (.tuple #[]) ∧ PopAt w' b q v l most (-1) old (meth 74 b) ∧ Mem w' p g (s.hit 1 (ln + (l.getD (l.length - 1) 0 : Nat)) (s.get (ln + (l.getD (l.length - 1) 0 : Nat))) true) ∧ Else [b, p, g] w w' := by
  obtain ⟨r, cap, rfl, ds⟩ := P.row.get hl0
  have lp := List.length_pos_iff.2 hl0
  have d0 := ds (l.length - 1) (by omega)
  clear ds
  obtain ⟨c0, c1, c2, c3, _, c5⟩ := P.cells
  obtain ⟨k0, _, k2, _⟩ := E.cells
  have m0 := hn _ (Stk.getD_mem (show l.length - 1 < l.length by omega))
  generalize l.getD (l.length - 1) 0 = x at *
  have hx := E.ok (ln + x)
  have hh := Lib.hid (E.hasL (i := x) (by omega) (by omega))
  have n1 := E.n1
  have hl2 := E.hl
  have ht := E.top
  obtain ⟨z, hz⟩ : ∃ z, s.get (ln + x) = z := ⟨_, rfl⟩
  rw [hz] at hx hd ⊢
  obtain ⟨k, hk⟩ : ∃ k, l.length = k + 1 := ⟨l.length - 1, by omega⟩
  have hk1 : l.length - 1 = k := by omega
  rw [hk1] at d0
  obtain ⟨K, hK⟩ : ∃ K : Nat, K = l.length := ⟨_, rfl⟩
  rw [← hK] at c2
  have i0 : (0 : Int) ≤ (k : Int) := Int.natCast_nonneg _
  obtain ⟨i1, s1, s2⟩ := wrap_last (hK.trans hk) (Nat.le_trans (Nat.le_of_eq hK) hl)
  obtain ⟨s3, s4⟩ := wrap_ln m0 hl2 ht
  have hq : q ∉ [p, g] := by simp [E.np, E.ng]
  have hb := A.b2
  have hbq := A.bq
  have hr : r ∉ [p, g] := fun hk => A.v2 r hk rfl
  have HE := Lib.hid E
  have HP := Lib.hid P
  have HA := Lib.hid A
  have HD := Lib.hid hd
  have HZ := Lib.hid hz
  have HK := Lib.hid hK
  have hf := run_func
  clear P E A hd hz hk hk1 hn hl2 ht m0 hK
  go_enter Try.func66, Try.ntmps66
  go_upto_region 0 with fail
  go_region_held3 (fun w' => w'.cell? ⟨b, 0, none⟩ = some (.pointer (some ⟨q, 0, none⟩)) ∧ w'.cell? ⟨q, 0, none⟩ = some (.pointer (some ⟨p, 0, none⟩)) ∧ w'.cell? ⟨q, 2, none⟩ = some (.int .i64 ln) ∧ w'.cell? ⟨b, 2, none⟩ = some (.slice (some ⟨r, 0, none⟩) K cap) ∧ w'.cell? ⟨r, k, none⟩ = some (.int .i64 x)) ((first | exact ⟨c0, k0, k2, c2, d0⟩ | exact ⟨E1.kept c0 hb, E1.kept k0 hq, E1.kept k2 hq, E1.kept c2 hb, E1.kept d0 hr⟩))
    (first
      | (go_at_call 65; refine (load_to (HE.out.mem.up (up_drew w)) hh.out HZ.out rfl).mono ?_; rintro e w1 ⟨rfl, M1, E1⟩))
  have HE1 := Lib.hid ((Else.of_up (up_drew w)).trans E1)
  have P2 := Lib.hid (HP.out.else HE1.out HA.out.b2 HA.out.v2)
  have EE := Lib.hid (HE.out.turn M1 HE1.out (HE.out.ok.hit 1 (ln + x) true hx.1 hx.2) (hit_len _ _ _ _ _))
  clear M1 E1 c0 c1 c2 c3 c5 d0 k0 k2
  obtain ⟨c0, c1, c2, c3, _, c5⟩ := P2.out.cells
  have f3 := P2.out.top.frozen 3
  go_upto_region 2 with (go_at_call 46; refine (ofLink_to EE.out hx.1 hx.2 HD.out).mono ?_; rintro e w9 ⟨rfl, rfl⟩)
  have P3 := Lib.hid (P2.out.below (-1))
  have M3 := Lib.hid (EE.out.mem.self HA.out.bp HA.out.bg 3 (.int .i64 (-1)))
  have E3 : Else [b, p, g] w (w1.setCell ⟨b, 3, none⟩ (.int .i64 (-1))) := else_self (HE1.out.wide b) (by simp)
  have E3 := Lib.hid E3
  clear c0 c1 c2 c3 c5 f3 P2 EE HE1
  generalize w1.setCell ⟨b, 3, none⟩ (.int .i64 (-1)) = w2 at *
  obtain ⟨c0, c1, c2, c3, _, c5⟩ := P3.out.cells
  rw [← HK.out] at c2
  go_quiet (fail)
  have f5 := P3.out.top.frozen 5
  go_wp2_with fail
  refine bodyPost_ret (v := .tuple #[]) (by simp [results, Try.results66, go_sem]) rfl ?_
  have V := Up.drewN w2 nq
  exact ⟨rfl, (P3.out.up V).next _, (M3.out.up V).self HA.out.bp HA.out.bg _ _, else_self (E3.out.up V) (by simp)⟩
set_option maxHeartbeats 4000000 in
theorem pop_linkB (E : Env w p g q hd ln n s) (P : PopAt w b q v l most deep old nx) (A : Apart b p g q v) (hl0 : l ≠ []) (hn : ∀ x ∈ l, x < n) (hl : l.length ≤ 8) {d : Nat} (hd : belowN n (s.get (ln + (l.getD (l.length - 1) 0 : Nat))) = d) (hm : l.length = most) :
    Calls Try.prog 66 #[.pointer (some ⟨b, 0, none⟩)] w fun e w' => e = .returned (.tuple #[]) ∧ PopAt w' b q v l most (d : Int) old (meth 74 b) ∧ Mem w' p g (s.hit 1 (ln + (l.getD (l.length - 1) 0 : Nat)) (s.get (ln + (l.getD (l.length - 1) 0 : Nat))) true) ∧ Else [b, p, g] w w' := by
  obtain ⟨r, cap, rfl, ds⟩ := P.row.get hl0
  have lp := List.length_pos_iff.2 hl0
  have d0 := ds (l.length - 1) (by omega)
  clear ds
  obtain ⟨c0, c1, c2, c3, _, c5⟩ := P.cells
  obtain ⟨k0, _, k2, _⟩ := E.cells
  have m0 := hn _ (Stk.getD_mem (show l.length - 1 < l.length by omega))
  generalize l.getD (l.length - 1) 0 = x at *
  have hx := E.ok (ln + x)
  have hh := Lib.hid (E.hasL (i := x) (by omega) (by omega))
  have n1 := E.n1
  have hl2 := E.hl
  have ht := E.top
  obtain ⟨z, hz⟩ : ∃ z, s.get (ln + x) = z := ⟨_, rfl⟩
  rw [hz] at hx hd ⊢
  obtain ⟨k, hk⟩ : ∃ k, l.length = k + 1 := ⟨l.length - 1, by omega⟩
  have hk1 : l.length - 1 = k := by omega
  rw [hk1] at d0
  obtain ⟨K, hK⟩ : ∃ K : Nat, K = l.length := ⟨_, rfl⟩
  rw [← hK] at c2
  have i0 : (0 : Int) ≤ (k : Int) := Int.natCast_nonneg _
  obtain ⟨i1, s1, s2⟩ := wrap_last (hK.trans hk) (Nat.le_trans (Nat.le_of_eq hK) hl)
  obtain ⟨s3, s4⟩ := wrap_ln m0 hl2 ht
  have hq : q ∉ [p, g] := by simp [E.np, E.ng]
  have hb := A.b2
  have hbq := A.bq
  have hr : r ∉ [p, g] := fun hk => A.v2 r hk rfl
  have HE := Lib.hid E
  have HP := Lib.hid P
  have HA := Lib.hid A
  have HD := Lib.hid hd
  have HZ := Lib.hid hz
  have HK := Lib.hid hK
  have hf := run_func
  clear P E A hd hz hk hk1 hn hl2 ht m0 hK
  go_enter Try.func66, Try.ntmps66
  go_upto_region 0 with fail
  go_region_held3 (fun w' => w'.cell? ⟨b, 0, none⟩ = some (.pointer (some ⟨q, 0, none⟩)) ∧ w'.cell? ⟨q, 0, none⟩ = some (.pointer (some ⟨p, 0, none⟩)) ∧ w'.cell? ⟨q, 2, none⟩ = some (.int .i64 ln) ∧ w'.cell? ⟨b, 2, none⟩ = some (.slice (some ⟨r, 0, none⟩) K cap) ∧ w'.cell? ⟨r, k, none⟩ = some (.int .i64 x)) ((first | exact ⟨c0, k0, k2, c2, d0⟩ | exact ⟨E1.kept c0 hb, E1.kept k0 hq, E1.kept k2 hq, E1.kept c2 hb, E1.kept d0 hr⟩))
    (first
      | (go_at_call 65; refine (load_to (HE.out.mem.up (up_drew w)) hh.out HZ.out rfl).mono ?_; rintro e w1 ⟨rfl, M1, E1⟩))
  have HE1 := Lib.hid ((Else.of_up (up_drew w)).trans E1)
  have P2 := Lib.hid (HP.out.else HE1.out HA.out.b2 HA.out.v2)
  have EE := Lib.hid (HE.out.turn M1 HE1.out (HE.out.ok.hit 1 (ln + x) true hx.1 hx.2) (hit_len _ _ _ _ _))
  clear M1 E1 c0 c1 c2 c3 c5 d0 k0 k2
  obtain ⟨c0, c1, c2, c3, _, c5⟩ := P2.out.cells
  have f3 := P2.out.top.frozen 3
  go_upto_region 2 with (go_at_call 46; refine (ofLink_to EE.out hx.1 hx.2 HD.out).mono ?_; rintro e w9 ⟨rfl, rfl⟩)
  have P3 := Lib.hid (P2.out.below (d : Int))
  have M3 := Lib.hid (EE.out.mem.self HA.out.bp HA.out.bg 3 (.int .i64 (d : Int)))
  have E3 : Else [b, p, g] w (w1.setCell ⟨b, 3, none⟩ (.int .i64 (d : Int))) := else_self (HE1.out.wide b) (by simp)
  have E3 := Lib.hid E3
  clear c0 c1 c2 c3 c5 f3 P2 EE HE1
  generalize w1.setCell ⟨b, 3, none⟩ (.int .i64 (d : Int)) = w2 at *
  obtain ⟨c0, c1, c2, c3, _, c5⟩ := P3.out.cells
  rw [← HK.out] at c2
  have g1 : ((d : Int) == -1) = false := by simp
  have g2 : ((K : Int) == (most : Int)) = true := by have := HK.out; simp; omega
  go_quiet (fail)
  have f5 := P3.out.top.frozen 5
  go_wp2_with fail
  refine bodyPost_ret (v := .tuple #[]) (by simp [results, Try.results66, go_sem]) rfl ?_
  have V := Up.drewN w2 nq
  exact ⟨rfl, (P3.out.up V).next _, (M3.out.up V).self HA.out.bp HA.out.bg _ _, else_self (E3.out.up V) (by simp)⟩

set_option maxHeartbeats 2000000 in
theorem pop_turn (E : Env w p g q hd ln n s) (P : PopAt w b q v l most deep old nx) (A : Apart b p g q v) {c : Bool} {s' : St}
    (hc : ∀ {w1 : World}, Env w1 p g q hd ln n s → Calls Try.prog 81 #[.pointer (some ⟨q, 0, none⟩), .int .u64 old, .int .i64 deep] w1 fun e w' => e = .returned (.bool c) ∧ Mem w' p g s' ∧ Else [p, g] w1 w') :
    Calls Try.prog 74 #[.pointer (some ⟨b, 0, none⟩)] w fun e w' => e = .returned (.tuple #[]) ∧ PopAt w' b q v l most deep old (if c then .nilFunc else meth 52 b) ∧ Mem w' p g s' ∧ Else [b, p, g] w w' := by
  obtain ⟨c0, _, _, c3, c4, c5⟩ := P.cells
  have hb := A.b2
  have HP := Lib.hid P
  have HA := Lib.hid A
  have HC := Lib.hid (hc (E.up (up_drew w)))
  have hf := run_func
  clear P E A hc
  cases c
  · go_enter Try.func74, Try.ntmps74
    go_upto_region 0 with fail
    go_region_held3 (fun w' => w'.cell? ⟨b, 0, none⟩ = some (.pointer (some ⟨q, 0, none⟩)) ∧ w'.cell? ⟨b, 3, none⟩ = some (.int .i64 deep) ∧ w'.cell? ⟨b, 4, none⟩ = some (.int .u64 old)) ((first | exact ⟨c0, c3, c4⟩ | exact ⟨E2.kept c0 hb, E2.kept c3 hb, E2.kept c4 hb⟩))
      (first
        | (go_at_call 81; refine HC.out.mono ?_; rintro e w2 ⟨rfl, M2, E2⟩))
    have E3 := Lib.hid ((Else.of_up (up_drew w)).trans E2)
    have P2 := Lib.hid (HP.out.else E3.out HA.out.b2 HA.out.v2)
    have j5 := P2.out.cells.2.2.2.2.2
    have f5 := P2.out.top.frozen 5
    go_wp2_with fail
    go_end0
    exact ⟨rfl, P2.out.next _, M2.self HA.out.bp HA.out.bg _ _, else_self (E3.out.wide b) (by simp)⟩
  · go_enter Try.func74, Try.ntmps74
    go_upto_region 0 with fail
    go_region_held3 (fun w' => w'.cell? ⟨b, 0, none⟩ = some (.pointer (some ⟨q, 0, none⟩)) ∧ w'.cell? ⟨b, 3, none⟩ = some (.int .i64 deep) ∧ w'.cell? ⟨b, 4, none⟩ = some (.int .u64 old)) ((first | exact ⟨c0, c3, c4⟩ | exact ⟨E2.kept c0 hb, E2.kept c3 hb, E2.kept c4 hb⟩))
      (first
        | (go_at_call 81; refine HC.out.mono ?_; rintro e w2 ⟨rfl, M2, E2⟩))
    have E3 := Lib.hid ((Else.of_up (up_drew w)).trans E2)
    have P2 := Lib.hid (HP.out.else E3.out HA.out.b2 HA.out.v2)
    have j5 := P2.out.cells.2.2.2.2.2
    have f5 := P2.out.top.frozen 5
    go_wp2_with fail
    go_end0
    exact ⟨rfl, P2.out.next _, M2.self HA.out.bp HA.out.bg _ _, else_self (E3.out.wide b) (by simp)⟩
end
end Go.Proofs.Ytalhbebpoohgkaa
