/-
  Texts beneath SupplyWaits, part 12: Pop2, Pop3, StkStep.
-/
import Derived.Test.YtkopplnjomkleaaPart11
import Derived.Deep.RegionLaw
/-
  Package stack: the machine Pop: the Load of a link, the exchange, Step, Done.
-/
namespace Go.Proofs.Ytkopplnjomkleaa
open Go.RowKit
open W64
set_option maxRecDepth 100000
section
variable {w w' : World} {p g q hd ln n b most : Nat} {s : St} {v v' : Value} {l l' : List Nat} {deep old : Int} {nx : Value}
theorem wrap_last {K k : Nat} (h : K = k + 1) (h8 : K ≤ 8) : (k : Int) < (K : Int) ∧ wrap64 ((K : Int) - 1) = k ∧ IntKind.i64.wrap ((K : Int) - 1) = k := by
  refine ⟨by omega, ?_, ?_⟩
  · rw [wrap64_in (by omega) (by omega)]; omega
  · rw [IntWalk.i64_in _ (by omega)]; omega
theorem wrap_ln {ln x n L : Nat} (h : x < n) (h1 : ln + n ≤ L) (h2 : L ≤ 8388608) : wrap64 ((ln : Int) + x) = ln + x ∧ IntKind.i64.wrap ((ln : Int) + x) = ln + x :=
  ⟨wrap64_in (by omega) (by omega), IntWalk.i64_in _ (by omega)⟩
set_option maxHeartbeats 4000000 in
theorem pop_linkA (E : Env w p g q hd ln n s) (P : PopAt w b q v l most deep old nx) (A : Apart b p g q v) (hl0 : l ≠ []) (hn : ∀ x ∈ l, x < n) (hl : l.length ≤ 8) (hd : belowN n (s.get (ln + (l.getD (l.length - 1) 0 : Nat))) = -1) :
    Calls Try.prog 91 #[.pointer (some ⟨b, 0, none⟩)] w fun e w' => e = .returned (.tuple #[]) ∧ PopAt w' b q v l most (-1) old (meth 95 b) ∧ Mem w' p g (s.hit 1 (ln + (l.getD (l.length - 1) 0 : Nat)) (s.get (ln + (l.getD (l.length - 1) 0 : Nat))) true) ∧ Else [b, p, g] w w' := by
  obtain ⟨r, cap, rfl, ds⟩ := P.row.get hl0
  have lp := List.length_pos_iff.2 hl0
  have d0 := ds (l.length - 1) (by omega)
  clear ds
  obtain ⟨c0, c1, c2, c3, _, c5⟩ := P.cells
  obtain ⟨k0, _, k2, _⟩ := E.cells
  have m0 := hn _ (Stk.getD_mem (show l.length - 1 < l.length by omega))
  generalize l.getD (l.length - 1) 0 = x at *
  have hx := E.ok (ln + x)
  have hh := Lib.hid (E.hasL (i := x) (by omega) (by omega))
  have n1 := E.n1
  have hl2 := E.hl
  have ht := E.top
  obtain ⟨z, hz⟩ : ∃ z, s.get (ln + x) = z := ⟨_, rfl⟩
  rw [hz] at hx hd ⊢
  obtain ⟨k, hk⟩ : ∃ k, l.length = k + 1 := ⟨l.length - 1, by omega⟩
  have hk1 : l.length - 1 = k := by omega
  rw [hk1] at d0
  obtain ⟨K, hK⟩ : ∃ K : Nat, K = l.length := ⟨_, rfl⟩
  rw [← hK] at c2
  have i0 : (0 : Int) ≤ (k : Int) := Int.natCast_nonneg _
  obtain ⟨i1, s1, s2⟩ := wrap_last (hK.trans hk) (Nat.le_trans (Nat.le_of_eq hK) hl)
  obtain ⟨s3, s4⟩ := wrap_ln m0 hl2 ht
  have hq : q ∉ [p, g] := by simp [E.np, E.ng]
  have hb := A.b2
  have hbq := A.bq
  have hr : r ∉ [p, g] := fun hk => A.v2 r hk rfl
  have HE := Lib.hid E
  have HP := Lib.hid P
  have HA := Lib.hid A
  have HD := Lib.hid hd
  have HZ := Lib.hid hz
  have HK := Lib.hid hK
  have hf := run_func
  clear P E A hd hz hk hk1 hn hl2 ht m0 hK
  go_enter Try.func91, Try.ntmps91
  go_upto_region 0 with fail
  go_region_held3 (fun w' => w'.cell? ⟨b, 0, none⟩ = some (.pointer (some ⟨q, 0, none⟩)) ∧ w'.cell? ⟨q, 0, none⟩ = some (.pointer (some ⟨p, 0, none⟩)) ∧ w'.cell? ⟨q, 2, none⟩ = some (.int .i64 ln) ∧ w'.cell? ⟨b, 2, none⟩ = some (.slice (some ⟨r, 0, none⟩) K cap) ∧ w'.cell? ⟨r, k, none⟩ = some (.int .i64 x)) ((first | exact ⟨c0, k0, k2, c2, d0⟩ | exact ⟨E1.kept c0 hb, E1.kept k0 hq, E1.kept k2 hq, E1.kept c2 hb, E1.kept d0 hr⟩))
    (first
      | (go_at_call 69; refine (load_to (HE.out.mem.up (up_drew w)) hh.out HZ.out rfl).mono ?_; rintro e w1 ⟨rfl, M1, E1⟩))
  have HE1 := Lib.hid ((Else.of_up (up_drew w)).trans E1)
  have P2 := Lib.hid (HP.out.else HE1.out HA.out.b2 HA.out.v2)
  have EE := Lib.hid (HE.out.turn M1 HE1.out (HE.out.ok.hit 1 (ln + x) true hx.1 hx.2) (hit_len _ _ _ _ _))
  clear M1 E1 c0 c1 c2 c3 c5 d0 k0 k2
  obtain ⟨c0, c1, c2, c3, _, c5⟩ := P2.out.cells
  have f3 := P2.out.top.frozen 3
  go_upto_region 2 with (go_at_call 37; refine (ofLink_to EE.out hx.1 hx.2 HD.out).mono ?_; rintro e w9 ⟨rfl, rfl⟩)
  have P3 := Lib.hid (P2.out.below (-1))
  have M3 := Lib.hid (EE.out.mem.self HA.out.bp HA.out.bg 3 (.int .i64 (-1)))
  have E3 : Else [b, p, g] w (w1.setCell ⟨b, 3, none⟩ (.int .i64 (-1))) := else_self (HE1.out.wide b) (by simp)
  have E3 := Lib.hid E3
  clear c0 c1 c2 c3 c5 f3 P2 EE HE1
  generalize w1.setCell ⟨b, 3, none⟩ (.int .i64 (-1)) = w2 at *
  obtain ⟨c0, c1, c2, c3, _, c5⟩ := P3.out.cells
  rw [← HK.out] at c2
  go_quiet (fail)
  have f5 := P3.out.top.frozen 5
  go_wp2_with fail
  refine bodyPost_ret (v := .tuple #[]) (by simp [results, Try.results91, go_sem]) rfl ?_
  have V := Up.drewN w2 nq
  exact ⟨rfl, (P3.out.up V).next _, (M3.out.up V).self HA.out.bp HA.out.bg _ _, else_self (E3.out.up V) (by simp)⟩
set_option maxHeartbeats 4000000 in
theorem pop_linkB (E : Env w p g q hd ln n s) (P : PopAt w b q v l most deep old nx) (A : Apart b p g q v) (hl0 : l ≠ []) (hn : ∀ x ∈ l, x < n) (hl : l.length ≤ 8) {d : Nat} (hd : belowN n (s.get (ln + (l.getD (l.length - 1) 0 : Nat))) = d) (hm : l.length = most) :
    Calls Try.prog 91 #[.pointer (some ⟨b, 0, none⟩)] w fun e w' => e = .returned (.tuple #[]) ∧ PopAt w' b q v l most (d : Int) old (meth 95 b) ∧ Mem w' p g (s.hit 1 (ln + (l.getD (l.length - 1) 0 : Nat)) (s.get (ln + (l.getD (l.length - 1) 0 : Nat))) true) ∧ Else [b, p, g] w w' := by
  obtain ⟨r, cap, rfl, ds⟩ := P.row.get hl0
  have lp := List.length_pos_iff.2 hl0
  have d0 := ds (l.length - 1) (by omega)
  clear ds
  obtain ⟨c0, c1, c2, c3, _, c5⟩ := P.cells
  obtain ⟨k0, _, k2, _⟩ := E.cells
  have m0 := hn _ (Stk.getD_mem (show l.length - 1 < l.length by omega))
  generalize l.getD (l.length - 1) 0 = x at *
  have hx := E.ok (ln + x)
  have hh := Lib.hid (E.hasL (i := x) (by omega) (by omega))
  have n1 := E.n1
  have hl2 := E.hl
  have ht := E.top
  obtain ⟨z, hz⟩ : ∃ z, s.get (ln + x) = z := ⟨_, rfl⟩
  rw [hz] at hx hd ⊢
  obtain ⟨k, hk⟩ : ∃ k, l.length = k + 1 := ⟨l.length - 1, by omega⟩
  have hk1 : l.length - 1 = k := by omega
  rw [hk1] at d0
  obtain ⟨K, hK⟩ : ∃ K : Nat, K = l.length := ⟨_, rfl⟩
  rw [← hK] at c2
  have i0 : (0 : Int) ≤ (k : Int) := Int.natCast_nonneg _
  obtain ⟨i1, s1, s2⟩ := wrap_last (hK.trans hk) (Nat.le_trans (Nat.le_of_eq hK) hl)
  obtain ⟨s3, s4⟩ := wrap_ln m0 hl2 ht
  have hq : q ∉ [p, g] := by simp [E.np, E.ng]
  have hb := A.b2
  have hbq := A.bq
  have hr : r ∉ [p, g] := fun hk => A.v2 r hk rfl
  have HE := Lib.hid E
  have HP := Lib.hid P
  have HA := Lib.hid A
  have HD := Lib.hid hd
  have HZ := Lib.hid hz
  have HK := Lib.hid hK
  have hf := run_func
  clear P E A hd hz hk hk1 hn hl2 ht m0 hK
  go_enter Try.func91, Try.ntmps91
  go_upto_region 0 with fail
  go_region_held3 (fun w' => w'.cell? ⟨b, 0, none⟩ = some (.pointer (some ⟨q, 0, none⟩)) ∧ w'.cell? ⟨q, 0, none⟩ = some (.pointer (some ⟨p, 0, none⟩)) ∧ w'.cell? ⟨q, 2, none⟩ = some (.int .i64 ln) ∧ w'.cell? ⟨b, 2, none⟩ = some (.slice (some ⟨r, 0, none⟩) K cap) ∧ w'.cell? ⟨r, k, none⟩ = some (.int .i64 x)) ((first | exact ⟨c0, k0, k2, c2, d0⟩ | exact ⟨E1.kept c0 hb, E1.kept k0 hq, E1.kept k2 hq, E1.kept c2 hb, E1.kept d0 hr⟩))
    (first
      | (go_at_call 69; refine (load_to (HE.out.mem.up (up_drew w)) hh.out HZ.out rfl).mono ?_; rintro e w1 ⟨rfl, M1, E1⟩))
  have HE1 := Lib.hid ((Else.of_up (up_drew w)).trans E1)
  have P2 := Lib.hid (HP.out.else HE1.out HA.out.b2 HA.out.v2)
  have EE := Lib.hid (HE.out.turn M1 HE1.out (HE.out.ok.hit 1 (ln + x) true hx.1 hx.2) (hit_len _ _ _ _ _))
  clear M1 E1 c0 c1 c2 c3 c5 d0 k0 k2
  obtain ⟨c0, c1, c2, c3, _, c5⟩ := P2.out.cells
  have f3 := P2.out.top.frozen 3
  go_upto_region 2 with (go_at_call 37; refine (ofLink_to EE.out hx.1 hx.2 HD.out).mono ?_; rintro e w9 ⟨rfl, rfl⟩)
  have P3 := Lib.hid (P2.out.below (d : Int))
  have M3 := Lib.hid (EE.out.mem.self HA.out.bp HA.out.bg 3 (.int .i64 (d : Int)))
  have E3 : Else [b, p, g] w (w1.setCell ⟨b, 3, none⟩ (.int .i64 (d : Int))) := else_self (HE1.out.wide b) (by simp)
  have E3 := Lib.hid E3
  clear c0 c1 c2 c3 c5 f3 P2 EE HE1
  generalize w1.setCell ⟨b, 3, none⟩ (.int .i64 (d : Int)) = w2 at *
  obtain ⟨c0, c1, c2, c3, _, c5⟩ := P3.out.cells
  rw [← HK.out] at c2
  have g1 : ((d : Int) == -1) = false := by simp
  have g2 : ((K : Int) == (most : Int)) = true := by have := HK.out; simp; omega
  go_quiet (fail)
  have f5 := P3.out.top.frozen 5
  go_wp2_with fail
  refine bodyPost_ret (v := .tuple #[]) (by simp [results, Try.results91, go_sem]) rfl ?_
  have V := Up.drewN w2 nq
  exact ⟨rfl, (P3.out.up V).next _, (M3.out.up V).self HA.out.bp HA.out.bg _ _, else_self (E3.out.up V) (by simp)⟩

set_option maxHeartbeats 2000000 in
theorem pop_turn (E : Env w p g q hd ln n s) (P : PopAt w b q v l most deep old nx) (A : Apart b p g q v) {c : Bool} {s' : St}
    (hc : ∀ {w1 : World}, Env w1 p g q hd ln n s → Calls Try.prog 97 #[.pointer (some ⟨q, 0, none⟩), .int .u64 old, .int .i64 deep] w1 fun e w' => e = .returned (.bool c) ∧ Mem w' p g s' ∧ Else [p, g] w1 w') :
    Calls Try.prog 95 #[.pointer (some ⟨b, 0, none⟩)] w fun e w' => e = .returned (.tuple #[]) ∧ PopAt w' b q v l most deep old (if c then .nilFunc else meth 82 b) ∧ Mem w' p g s' ∧ Else [b, p, g] w w' := by
  obtain ⟨c0, _, _, c3, c4, c5⟩ := P.cells
  have hb := A.b2
  have HP := Lib.hid P
  have HA := Lib.hid A
  have HC := Lib.hid (hc (E.up (up_drew w)))
  have hf := run_func
  clear P E A hc
  cases c
  · go_enter Try.func95, Try.ntmps95
    go_upto_region 0 with fail
    go_region_held3 (fun w' => w'.cell? ⟨b, 0, none⟩ = some (.pointer (some ⟨q, 0, none⟩)) ∧ w'.cell? ⟨b, 3, none⟩ = some (.int .i64 deep) ∧ w'.cell? ⟨b, 4, none⟩ = some (.int .u64 old)) ((first | exact ⟨c0, c3, c4⟩ | exact ⟨E2.kept c0 hb, E2.kept c3 hb, E2.kept c4 hb⟩))
      (first
        | (go_at_call 97; refine HC.out.mono ?_; rintro e w2 ⟨rfl, M2, E2⟩))
    have E3 := Lib.hid ((Else.of_up (up_drew w)).trans E2)
    have P2 := Lib.hid (HP.out.else E3.out HA.out.b2 HA.out.v2)
    have j5 := P2.out.cells.2.2.2.2.2
    have f5 := P2.out.top.frozen 5
    go_wp2_with fail
    go_end0
    exact ⟨rfl, P2.out.next _, M2.self HA.out.bp HA.out.bg _ _, else_self (E3.out.wide b) (by simp)⟩
  · go_enter Try.func95, Try.ntmps95
    go_upto_region 0 with fail
    go_region_held3 (fun w' => w'.cell? ⟨b, 0, none⟩ = some (.pointer (some ⟨q, 0, none⟩)) ∧ w'.cell? ⟨b, 3, none⟩ = some (.int .i64 deep) ∧ w'.cell? ⟨b, 4, none⟩ = some (.int .u64 old)) ((first | exact ⟨c0, c3, c4⟩ | exact ⟨E2.kept c0 hb, E2.kept c3 hb, E2.kept c4 hb⟩))
      (first
        | (go_at_call 97; refine HC.out.mono ?_; rintro e w2 ⟨rfl, M2, E2⟩))
    have E3 := Lib.hid ((Else.of_up (up_drew w)).trans E2)
    have P2 := Lib.hid (HP.out.else E3.out HA.out.b2 HA.out.v2)
    have j5 := P2.out.cells.2.2.2.2.2
    have f5 := P2.out.top.frozen 5
    go_wp2_with fail
    go_end0
    exact ⟨rfl, P2.out.next _, M2.self HA.out.bp HA.out.bg _ _, else_self (E3.out.wide b) (by simp)⟩
end
end Go.Proofs.Ytkopplnjomkleaa

/-
  Package stack: the machine Pop: the Load of a link, the exchange, Step, Done.
-/
namespace Go.Proofs.Ytkopplnjomkleaa
open Go.RowKit
open W64
set_option maxRecDepth 100000
section
variable {w w' : World} {p g q hd ln n b most : Nat} {s : St} {v v' : Value} {l l' : List Nat} {deep old : Int} {nx : Value}
theorem Else.of_grown {a c : World} {row : Option Nat} (h : a.grownBy c row) : Else row.toList a c :=
  ⟨h.os, h.tape, h.output, h.size, fun k hk hn => h.block k hk (fun e => hn (by rw [← e]; simp))⟩
theorem more_end {w w4 wD : World} {p g q b most r cap K gg cap2 d : Nat} {s : St} {l : List Nat} {deep old : Int} {nx : Value} {o : Obj}
    (P : PopAt w4 b q (.slice (some ⟨r, 0, none⟩) l.length cap) l most deep old nx) (M : Mem w4 p g s) (E : Else [b, p, g] w w4) (A : Apart b p g q (.slice (some ⟨r, 0, none⟩) l.length cap))
    (O : wD.ownsRow 0 3 1 (.slice (some ⟨gg, 0, none⟩) (K + 1) cap2) (K + 1) ((I l).map (Value.int .i64) ++ [.int .i64 (d : Int)])) (G : (w4.drew.alloc o).grownBy wD (Value.slice (some ⟨r, 0, none⟩) K cap).ownBlock)
    (hat : (Value.slice (some ⟨r, 0, none⟩) K cap).ownBlock = some gg ∨ gg = w4.heap.size + 1) (hK : K = l.length) :
    (∃ r' cap', ((Value.slice (some ⟨r, 0, none⟩) l.length cap).ownBlock = some r' ∨ w.heap.size ≤ r') ∧ PopAt (wD.setCell ⟨b, 2, none⟩ (.slice (some ⟨gg, 0, none⟩) (K + 1) cap2)) b q (.slice (some ⟨r', 0, none⟩) (l.length + 1) cap') (l ++ [d]) most deep old nx) ∧
    Mem (wD.setCell ⟨b, 2, none⟩ (.slice (some ⟨gg, 0, none⟩) (K + 1) cap2)) p g s ∧ ∀ r', (Value.slice (some ⟨r, 0, none⟩) l.length cap).ownBlock = some r' → Else [b, r', p, g] w (wD.setCell ⟨b, 2, none⟩ (.slice (some ⟨gg, 0, none⟩) (K + 1) cap2)) := by
  subst hK
  have U : Up w4 (w4.drew.alloc o) := (up_drew w4).then_alloc o
  have hbw := P.top.lt
  have hrb : r ≠ b := fun e => P.away (by rw [e]; rfl)
  have EG := Else.of_grown G
  have hgb : gg ≠ b := by
    rcases hat with h | h
    · simp [Value.ownBlock] at h; omega
    · omega
  have top := EG.whole (P.top.up U) (by simp [Value.ownBlock]; exact fun e => hrb e.symm)
  have M2 := (M.up U).else EG (by simp [Value.ownBlock]; exact fun e => A.vp (by simp [Value.ownBlock, e])) (by simp [Value.ownBlock]; exact fun e => A.vg (by simp [Value.ownBlock, e]))
  refine ⟨⟨gg, cap2, ?_, ⟨top.set 2 _, row_self (ints_of_own O (by simp [I]) (by simp [I])) (by simp [Value.ownBlock]; exact hgb) _, by simp [Value.ownBlock]; exact hgb⟩⟩, M2.self A.bp A.bg _ _, fun r' hr' => ?_⟩
  · rcases hat with h | h
    · exact .inl h
    · have := E.size; exact .inr (by omega)
  · simp [Value.ownBlock] at hr'; subst hr'
    have E1 : Else [b, r, p, g] w w4 := E.more (by intro k hk; simp at hk ⊢; rcases hk with h | h | h <;> simp [h])
    have E2 : Else [b, r, p, g] (w4.drew.alloc o) wD := EG.more (by intro k hk; simp [Value.ownBlock] at hk; simp [hk])
    exact else_self ((E1.up U).trans E2) (by simp)
set_option maxHeartbeats 4000000 in
theorem pop_linkC (E : Env w p g q hd ln n s) (P : PopAt w b q v l most deep old nx) (A : Apart b p g q v) (hl0 : l ≠ []) (hn : ∀ x ∈ l, x < n) (hl : l.length ≤ 8) {d : Nat} (hd : belowN n (s.get (ln + (l.getD (l.length - 1) 0 : Nat))) = d) (hm : l.length ≠ most) :
    Calls Try.prog 91 #[.pointer (some ⟨b, 0, none⟩)] w fun e w' => e = .returned (.tuple #[]) ∧ (∃ r cap, (v.ownBlock = some r ∨ w.heap.size ≤ r) ∧ PopAt w' b q (.slice (some ⟨r, 0, none⟩) (l.length + 1) cap) (l ++ [d]) most d old nx) ∧ Mem w' p g (s.hit 1 (ln + (l.getD (l.length - 1) 0 : Nat)) (s.get (ln + (l.getD (l.length - 1) 0 : Nat))) true) ∧ (∀ r, v.ownBlock = some r → Else [b, r, p, g] w w') := by
  obtain ⟨r, cap, rfl, ds⟩ := P.row.get hl0
  have lp := List.length_pos_iff.2 hl0
  have d0 := ds (l.length - 1) (by omega)
  clear ds
  obtain ⟨c0, c1, c2, c3, _, c5⟩ := P.cells
  obtain ⟨k0, _, k2, _⟩ := E.cells
  have m0 := hn _ (Stk.getD_mem (show l.length - 1 < l.length by omega))
  generalize l.getD (l.length - 1) 0 = x at *
  have hx := E.ok (ln + x)
  have hh := Lib.hid (E.hasL (i := x) (by omega) (by omega))
  have n1 := E.n1
  have hl2 := E.hl
  have ht := E.top
  obtain ⟨z, hz⟩ : ∃ z, s.get (ln + x) = z := ⟨_, rfl⟩
  rw [hz] at hx hd ⊢
  obtain ⟨k, hk⟩ : ∃ k, l.length = k + 1 := ⟨l.length - 1, by omega⟩
  have hk1 : l.length - 1 = k := by omega
  rw [hk1] at d0
  obtain ⟨K, hK⟩ : ∃ K : Nat, K = l.length := ⟨_, rfl⟩
  rw [← hK] at c2
  have i0 : (0 : Int) ≤ (k : Int) := Int.natCast_nonneg _
  obtain ⟨i1, s1, s2⟩ := wrap_last (hK.trans hk) (Nat.le_trans (Nat.le_of_eq hK) hl)
  obtain ⟨s3, s4⟩ := wrap_ln m0 hl2 ht
  have hq : q ∉ [p, g] := by simp [E.np, E.ng]
  have hb := A.b2
  have hbq := A.bq
  have hr : r ∉ [p, g] := fun hk => A.v2 r hk rfl
  have HE := Lib.hid E
  have HP := Lib.hid P
  have HA := Lib.hid A
  have HD := Lib.hid hd
  have HZ := Lib.hid hz
  have HK := Lib.hid hK
  have hf := run_func
  clear P E A hd hz hk hk1 hn hl2 ht m0 hK
  go_enter Try.func91, Try.ntmps91
  go_upto_region 0 with fail
  go_region_held3 (fun w' => w'.cell? ⟨b, 0, none⟩ = some (.pointer (some ⟨q, 0, none⟩)) ∧ w'.cell? ⟨q, 0, none⟩ = some (.pointer (some ⟨p, 0, none⟩)) ∧ w'.cell? ⟨q, 2, none⟩ = some (.int .i64 ln) ∧ w'.cell? ⟨b, 2, none⟩ = some (.slice (some ⟨r, 0, none⟩) K cap) ∧ w'.cell? ⟨r, k, none⟩ = some (.int .i64 x)) ((first | exact ⟨c0, k0, k2, c2, d0⟩ | exact ⟨E1.kept c0 hb, E1.kept k0 hq, E1.kept k2 hq, E1.kept c2 hb, E1.kept d0 hr⟩))
    (first
      | (go_at_call 69; refine (load_to (HE.out.mem.up (up_drew w)) hh.out HZ.out rfl).mono ?_; rintro e w1 ⟨rfl, M1, E1⟩))
  have HE1 := Lib.hid ((Else.of_up (up_drew w)).trans E1)
  have P2 := Lib.hid (HP.out.else HE1.out HA.out.b2 HA.out.v2)
  have EE := Lib.hid (HE.out.turn M1 HE1.out (HE.out.ok.hit 1 (ln + x) true hx.1 hx.2) (hit_len _ _ _ _ _))
  clear M1 E1 c0 c1 c2 c3 c5 d0 k0 k2
  obtain ⟨c0, c1, c2, c3, _, c5⟩ := P2.out.cells
  have f3 := P2.out.top.frozen 3
  go_upto_region 2 with (go_at_call 37; refine (ofLink_to EE.out hx.1 hx.2 HD.out).mono ?_; rintro e w9 ⟨rfl, rfl⟩)
  have P3 := Lib.hid (P2.out.below (d : Int))
  have M3 := Lib.hid (EE.out.mem.self HA.out.bp HA.out.bg 3 (.int .i64 (d : Int)))
  have E3 : Else [b, p, g] w (w1.setCell ⟨b, 3, none⟩ (.int .i64 (d : Int))) := else_self (HE1.out.wide b) (by simp)
  have E3 := Lib.hid E3
  clear c0 c1 c2 c3 c5 f3 P2 EE HE1
  generalize w1.setCell ⟨b, 3, none⟩ (.int .i64 (d : Int)) = w2 at *
  obtain ⟨c0, c1, c2, c3, _, c5⟩ := P3.out.cells
  rw [← HK.out] at c2
  have g1 : ((d : Int) == -1) = false := by simp
  have g2 : ((K : Int) == (most : Int)) = false := by have := HK.out; simp; omega
  go_quiet (fail)
  have V := Up.drewN w2 nq
  have P4 := Lib.hid (P3.out.up V)
  have M4 := Lib.hid (M3.out.up V)
  have E4 := Lib.hid (E3.out.up V)
  clear c0 c1 c2 c3 c5 P3 M3 E3 V
  go_upto_region 4 with fail
  generalize w2.drewN nq = w4 at *
  obtain ⟨_, _, c2, c3, _, _⟩ := P4.out.cells
  rw [← HK.out] at c2
  have fb := P4.out.top.frozen 2
  obtain ⟨i9, hi, hz0, hz1, hz2⟩ := info_parts info_int
  have own4 := P4.out.row
  unfold Ints at own4
  rw [I_len, ← HK.out] at own4
  have OWN := Lib.hid (own_up own4 ((up_drew w4).then_alloc (.cells #[.int .i64 (d : Int)] 3)))
  have hK8 : K ≤ 8 := Nat.le_trans (Nat.le_of_eq HK.out) hl
  have g63 : K + 1 ≤ maxLen := by unfold maxLen; omega
  have gby : (K + 1) * 8 ≤ 140737488355328 := by omega
  have hbw := P4.out.top.lt
  have hH : (w4.drew.alloc (.cells #[.int .i64 (d : Int)] 3)).heap.size = w4.heap.size + 1 := by simp
  have hrb : r ≠ b := fun e => HP.out.away (by rw [e]; rfl)
  have hbr : some b ≠ (Value.slice (some ⟨r, 0, none⟩) K cap).ownBlock := by simp [Value.ownBlock]; exact fun e => hrb e.symm
  have P5 := Lib.hid (P4.out.up ((up_drew w4).then_alloc (.cells #[.int .i64 (d : Int)] 3)))
  clear own4
  go_region_law ((refine step_append_lies _ (by rfl) _ _ 42 (by rfl) 0 3 i9 (.int .i64 0) 1 8 Try.underlying42 hi hz0 hz1 hz2 rfl (by decide) (.slice (some ⟨r, 0, none⟩) K cap) K ((I l).map (Value.int .i64)) (by rfl) OWN.out ⟨w4.heap.size, 0, none⟩ 1 1 [.int .i64 (d : Int)] (by rfl) rfl (one_new _ _ _) (by simp [Value.oneCell']) (by decide) g63 gby (Nat.zero_le _) _ hH ?_; intro gg cap2 wD hownD hgrow hat hltD; have P6 := Lib.hid (Whole.grown P5.out.top hgrow hbr); have y2 := P6.out.cell (i := 2) rfl; have f2 := P6.out.frozen 2; have HOD := Lib.hid hownD; have HG := Lib.hid hgrow; clear hownD hgrow))
  all_goals
    go_wp2_with fail
    go_end0
    refine ⟨rfl, ?_⟩
    have fin := more_end P4.out M4.out E4.out HA.out HOD.out HG.out hat HK.out
    exact fin
end
end Go.Proofs.Ytkopplnjomkleaa

/-
  Package stack: Step, Done, Got of a Pop, Step and Done of a Push, told by plain data (Po, Pu), at any memory; both begin.
-/
namespace Go.Proofs.Ytkopplnjomkleaa
open Go.RowKit
open W64
set_option maxRecDepth 100000
section
variable {w w' : World} {p g q hd ln n b r : Nat} {s s' : St} {v v' : Value} {P : Po} {U : Pu} {l : List Nat} {xs : List Int} {own : List Nat}
theorem get_at (s : St) (i : Nat) : s.get (i : Int) = s.xs.getD i 0 := by unfold St.get; rw [Int.toNat_natCast]
theorem get_ln (s : St) (a x : Nat) : s.get ((a : Int) + (x : Nat)) = s.xs.getD (a + x) 0 := by unfold St.get; rw [show ((a : Int) + (x : Nat)).toNat = a + x by omega]
theorem St.Ok.words (h : s.Ok) : Words s.xs := fun i => by have := h (i : Int); rw [get_at] at this; exact this
/-- Behind an access that turned the memory. -/
theorem Env.went (E : Env w p g q hd ln n s) (m : Mem w' p g s') {t : List Nat} (u : Else t w w') (hq : q ∉ t) (ok : s'.Ok) (hl : s'.xs.length = s.xs.length) : Env w' p g q hd ln n s' :=
  ⟨m, u.whole E.stk hq, ok, E.np, E.ng, E.n0, E.n1, hl ▸ E.hh, hl ▸ E.hl, hl ▸ E.top, E.far⟩
theorem Env.read (E : Env w p g q hd ln n s) {k a : Int} {y : Bool} (m : Mem w' p g (s.hit k a (s.get a) y)) {t : List Nat} (u : Else t w w') (hq : q ∉ t) : Env w' p g q hd ln n (s.hit k a (s.get a) y) :=
  E.went m u hq (E.ok.hit _ _ _ (E.ok a).1 (E.ok a).2) (hit_len _ _ _ _ _)
theorem Env.wrote (E : Env w p g q hd ln n s) {k a x : Int} {y : Bool} (m : Mem w' p g (s.hit k a x y)) (h0 : 0 ≤ x) (h1 : x < 18446744073709551616) {t : List Nat} (u : Else t w w') (hq : q ∉ t) : Env w' p g q hd ln n (s.hit k a x y) :=
  E.went m u hq (E.ok.hit _ _ _ h0 h1) (hit_len _ _ _ _ _)
theorem hit_at (s : St) (k : Int) (a : Nat) (x : Int) (y : Bool) : (s.hit k (a : Int) x y).xs = s.xs.set a x := by unfold St.hit; dsimp only; rw [Int.toNat_natCast]
theorem hit_ln (s : St) (k : Int) (a c : Nat) (x : Int) (y : Bool) : (s.hit k ((a : Int) + (c : Nat)) x y).xs = s.xs.set (a + c) x := by unfold St.hit; dsimp only; rw [show ((a : Int) + (c : Nat)).toNat = a + c by omega]
/-- What one access leaves: the cells, the count, the machine; nothing else has turned but for the machine's own blocks and the memory. -/
def Acc (w : World) (p g q hd ln n : Nat) (s : St) (xs : List Int) (own : List Nat) (M : World → Prop) (w' : World) : Prop :=
  ∃ s', s'.c = wrap64 (s.c + 1) ∧ s'.xs = xs ∧ Env w' p g q hd ln n s' ∧ M w' ∧ Else (own ++ [p, g]) w w'
def poNx (b : Nat) (P : Po) : Value := if P.fin = true then .nilFunc else if P.i = 0 then meth 82 b else if P.i = 1 then meth 91 b else meth 95 b
structure PoM (w : World) (b q n : Nat) (v : Value) (P : Po) : Prop where
  at_ : PopAt w b q v P.l P.most P.deep P.old (poNx b P)
  ok : P.Ok n
  nil : P.l = [] → v = .slice none 0 0
theorem PoM.else (M : PoM w b q n v P) {t : List Nat} (u : Else t w w') (h1 : b ∉ t) (h2 : Away v t) : PoM w' b q n v P := ⟨M.at_.else u h1 h2, M.ok, M.nil⟩
theorem PoM.up (M : PoM w b q n v P) (u : Up w w') : PoM w' b q n v P := ⟨M.at_.up u, M.ok, M.nil⟩
theorem PoM.next (M : PoM w b q n v P) : w.cell? ⟨b, 5, none⟩ = some (poNx b P) := M.at_.cells.2.2.2.2.2
theorem poNx_meth (b : Nat) (h : P.fin = false) : ∃ f, poNx b P = meth f b := by
  unfold poNx
  rw [h, if_neg (by decide)]
  split
  · exact ⟨_, rfl⟩
  · split
    · exact ⟨_, rfl⟩
    · exact ⟨_, rfl⟩
theorem popDone_to (M : PoM w b q n v P) {c : Bool} (hc : P.fin = c) :
    Calls Try.prog 84 #[.pointer (some ⟨b, 0, none⟩)] w fun e w' => e = .returned (.bool c) ∧ w = w' := by
  have c5 := M.next
  cases c
  · obtain ⟨f, hf⟩ := poNx_meth b hc
    rw [hf] at c5
    exact popDone_no c5
  · unfold poNx at c5
    rw [if_pos hc] at c5
    exact popDone_yes c5
theorem popStep_no (M : PoM w b q n v P) (hc : P.fin = true) :
    Calls Try.prog 83 #[.pointer (some ⟨b, 0, none⟩)] w fun e w' => e = .returned (.bool false) ∧ w = w' := by
  have c5 := M.next
  unfold poNx at c5
  rw [if_pos hc] at c5
  exact popStep_end c5
/-- Got, whether it is done or not. -/
theorem popGot (M : PoM w b q n v P) : Calls Try.prog 85 #[.pointer (some ⟨b, 0, none⟩)] w fun e w' => ∃ o, e = .returned o ∧ Ints w' o (I (if P.fin then P.l else [])) ∧ Fresh w o ∧ Up w w' := by
  have c5 := M.next
  have H := M.at_
  cases hf : P.fin
  · obtain ⟨f, hf⟩ := poNx_meth b hf
    rw [hf] at c5
    refine (got_not c5).mono ?_
    rintro e w' ⟨rfl, rfl⟩
    exact ⟨_, rfl, Ints.nil _, fresh_nil _, Up.refl _⟩
  · unfold poNx at H
    rw [if_pos hf] at H
    by_cases h0 : P.l = []
    · have hv := M.nil h0
      rw [hv] at H
      refine (got_nil H).mono ?_
      rintro e w' ⟨rfl, rfl⟩
      rw [if_pos rfl, h0]
      exact ⟨_, rfl, Ints.nil _, fresh_nil _, Up.refl _⟩
    · have h8 := M.ok.len
      have h9 := M.ok.m8
      refine (got_in H h0 (by omega)).mono ?_
      rintro e w' ⟨r, cap, rfl, J, hr, _, U⟩
      rw [if_pos rfl]
      exact ⟨_, rfl, J, fun k hk => by simp [Value.ownBlock] at hk; omega, U⟩
theorem apart_own (A : Apart b p g q v) (E : Env w p g q hd ln n s) : q ∉ [b, p, g] := by simp [A.bq.symm, E.np, E.ng]
theorem own_wide (h : Else [b, p, g] w w') (o : Option Nat) : Else ((b :: o.toList) ++ [p, g]) w w' := h.more (by intro j hj; simp at hj ⊢; rcases hj with h | h | h <;> simp [h])
def Near (w : World) (v v' : Value) : Prop := v'.ownBlock = v.ownBlock ∨ v'.ownBlock = none ∨ ∃ r, v'.ownBlock = some r ∧ w.heap.size ≤ r
theorem poStep (E : Env w p g q hd ln n s) (A : Apart b p g q v) (M : PoM w b q n v P) (hf : P.fin = false) :
    Calls Try.prog 83 #[.pointer (some ⟨b, 0, none⟩)] w fun e w' => e = .returned (.bool true) ∧ ∃ v', Near w v v' ∧ Acc w p g q hd ln n s (P.xs hd s.xs) (b :: v.ownBlock.toList) (fun w' => PoM w' b q n v' (P.go n hd ln s.xs)) w' := by
  have K := M.ok
  have KG := K.go (hd := hd) (ln := ln) (xs := s.xs) E.ok.words E.n0
  have c5 := M.next
  have H := M.at_
  have hq := apart_own A E
  obtain ⟨most, i, deep, old, l, fin⟩ := P
  dsimp only at hf
  subst hf
  have hl8 : l.length ≤ 8 := Nat.le_trans K.len K.m8
  have gh := get_at s hd
  rcases (show i = 0 ∨ i = 1 ∨ i = 2 by have := K.i2; dsimp only at this; omega) with rfl | rfl | rfl
  · have ex : Po.xs hd s.xs ⟨most, 0, deep, old, l, false⟩ = s.xs := by unfold Po.xs; rw [if_neg (by simp)]
    have c5' : w.cell? ⟨b, 5, none⟩ = some (meth 82 b) := c5
    rw [ex]
    by_cases ht : topN n (s.get hd) = -1
    · have eg : Po.go n hd ln s.xs ⟨most, 0, deep, old, l, false⟩ = ⟨most, 0, deep, s.get hd, [], true⟩ := by unfold Po.go; rw [if_pos rfl, ← gh, if_pos ht]
      rw [eg] at KG ⊢
      refine (popStep_load c5' (pop_load0 E H A ht)).mono ?_
      rintro e w' ⟨rfl, P2, M2, E2⟩
      exact ⟨rfl, _, .inr (.inl rfl), _, rfl, read_xs _ _ _ _, E.read M2 E2 hq, ⟨P2, KG, fun _ => rfl⟩, own_wide E2 _⟩
    · obtain ⟨t, ht2⟩ : ∃ t : Nat, topN n (s.get hd) = t := ⟨_, (topN_nat (E.ok hd).1 E.n0 ht).1⟩
      have eg : Po.go n hd ln s.xs ⟨most, 0, deep, old, l, false⟩ = ⟨most, 1, deep, s.get hd, [t], false⟩ := by unfold Po.go; rw [if_pos rfl, ← gh, if_neg ht, ht2]; rfl
      rw [eg] at KG ⊢
      refine (popStep_load c5' (pop_load1 E H A ht2)).mono ?_
      rintro e w' ⟨rfl, ⟨r, cap, hr, P2⟩, M2, E2⟩
      exact ⟨rfl, _, .inr (.inr ⟨r, rfl, hr⟩), _, rfl, read_xs _ _ _ _, E.read M2 E2 hq, ⟨P2, KG, fun h => by simp at h⟩, own_wide E2 _⟩
  · have ex : Po.xs hd s.xs ⟨most, 1, deep, old, l, false⟩ = s.xs := by unfold Po.xs; rw [if_neg (by simp)]
    have c5' : w.cell? ⟨b, 5, none⟩ = some (meth 91 b) := c5
    rw [ex]
    have hne : l ≠ [] := K.ne (by simp)
    have gl := get_ln s ln (l.getD (l.length - 1) 0)
    by_cases hb : belowN n (s.get (ln + (l.getD (l.length - 1) 0 : Nat))) = -1
    · have eg : Po.go n hd ln s.xs ⟨most, 1, deep, old, l, false⟩ = ⟨most, 2, -1, old, l, false⟩ := by
        unfold Po.go Po.last; dsimp only; rw [if_neg (by decide), if_pos rfl, ← gl, if_pos (.inl hb), hb]
      rw [eg] at KG ⊢
      refine (popStep_link c5' (pop_linkA E H A hne K.lt hl8 hb)).mono ?_
      rintro e w' ⟨rfl, P2, M2, E2⟩
      exact ⟨rfl, _, .inl rfl, _, rfl, read_xs _ _ _ _, E.read M2 E2 hq, ⟨P2, KG, fun h => absurd h hne⟩, own_wide E2 _⟩
    · obtain ⟨d, hd2⟩ : ∃ d : Nat, belowN n (s.get (ln + (l.getD (l.length - 1) 0 : Nat))) = d := ⟨_, (belowN_nat (E.ok _).1 E.n0 hb).1⟩
      by_cases hm : l.length = most
      · have eg : Po.go n hd ln s.xs ⟨most, 1, deep, old, l, false⟩ = ⟨most, 2, d, old, l, false⟩ := by
          unfold Po.go Po.last; dsimp only; rw [if_neg (by decide), if_pos rfl, ← gl, if_pos (.inr hm), hd2]
        rw [eg] at KG ⊢
        refine (popStep_link c5' (pop_linkB E H A hne K.lt hl8 hd2 hm)).mono ?_
        rintro e w' ⟨rfl, P2, M2, E2⟩
        exact ⟨rfl, _, .inl rfl, _, rfl, read_xs _ _ _ _, E.read M2 E2 hq, ⟨P2, KG, fun h => absurd h hne⟩, own_wide E2 _⟩
      · have eg : Po.go n hd ln s.xs ⟨most, 1, deep, old, l, false⟩ = ⟨most, 1, d, old, l ++ [d], false⟩ := by
          unfold Po.go Po.last; dsimp only; rw [if_neg (by decide), if_pos rfl, ← gl, if_neg (fun h => h.elim hb hm), hd2]; rfl
        rw [eg] at KG ⊢
        obtain ⟨r0, c0, hv, _⟩ := H.row.get hne
        subst hv
        refine (popStep_link c5' (pop_linkC E H A hne K.lt hl8 hd2 hm)).mono ?_
        rintro e w' ⟨rfl, ⟨r, cap, hr, P2⟩, M2, E2⟩
        have E3 := E2 r0 rfl
        have hq3 : q ∉ [b, r0, p, g] := by have := A.vq; simp [Value.ownBlock] at this; simp [A.bq.symm, E.np, E.ng]; exact fun h => this h.symm
        refine ⟨rfl, .slice (some ⟨r, 0, none⟩) (l.length + 1) cap, ?_, _, rfl, read_xs _ _ _ _, E.read M2 E3 hq3, ⟨?_, KG, fun h => by simp at h⟩, E3⟩
        · rcases hr with h | h
          · exact .inl h.symm
          · exact .inr (.inr ⟨r, rfl, h⟩)
        · exact P2
  · have c5' : w.cell? ⟨b, 5, none⟩ = some (meth 95 b) := c5
    have d2 := K.d2 rfl
    dsimp only at d2
    have o0 := K.o0
    have o1 := K.o1
    dsimp only at o0 o1
    by_cases hc : s.get hd = old
    · have ex : Po.xs hd s.xs ⟨most, 2, deep, old, l, false⟩ = s.xs.set hd (nextW old deep) := by unfold Po.xs; rw [if_pos ⟨rfl, by rw [← gh]; exact hc⟩]
      have eg : Po.go n hd ln s.xs ⟨most, 2, deep, old, l, false⟩ = ⟨most, 0, deep, old, l, true⟩ := by
        unfold Po.go; dsimp only; rw [if_neg (by decide), if_neg (by decide), ← gh, decide_eq_true hc]
      rw [ex]
      rw [eg] at KG ⊢
      have hw := nextW_in old deep
      refine (popStep_turn c5' (pop_turn E H A (fun E1 => sturn_yes E1 d2.1 d2.2 hc))).mono ?_
      rintro e w' ⟨rfl, P2, M2, E2⟩
      exact ⟨rfl, _, .inl rfl, _, rfl, hit_at _ _ _ _ _, E.wrote M2 hw.1 hw.2 E2 hq, ⟨P2, KG, M.nil⟩, own_wide E2 _⟩
    · have ex : Po.xs hd s.xs ⟨most, 2, deep, old, l, false⟩ = s.xs := by unfold Po.xs; rw [if_neg (fun h => hc (by rw [gh]; exact h.2))]
      have eg : Po.go n hd ln s.xs ⟨most, 2, deep, old, l, false⟩ = ⟨most, 0, deep, old, l, false⟩ := by
        unfold Po.go; dsimp only; rw [if_neg (by decide), if_neg (by decide), ← gh, decide_eq_false hc]
      rw [ex]
      rw [eg] at KG ⊢
      refine (popStep_turn c5' (pop_turn E H A (fun E1 => sturn_no E1 o0 o1 d2.1 d2.2 hc))).mono ?_
      rintro e w' ⟨rfl, P2, M2, E2⟩
      exact ⟨rfl, _, .inl rfl, _, rfl, read_xs _ _ _ _, E.read M2 E2 hq, ⟨P2, KG, M.nil⟩, own_wide E2 _⟩
/-- A Pop begins. -/
theorem poNew (m : Int) {most : Nat} (hm : min (max m 1) 8 = most) (n : Nat) :
    Calls Try.prog 71 #[.pointer (some ⟨q, 0, none⟩), .int .i64 m] w fun e w' => e = .returned (.pointer (some ⟨w.heap.size, 0, none⟩)) ∧ PoM w' w.heap.size q n (.slice none 0 0) ⟨most, 0, 0, 0, [], false⟩ ∧ Up w w' := by
  refine (spop_in m hm).mono ?_
  rintro e w' ⟨rfl, P, U⟩
  exact ⟨rfl, ⟨P, ⟨by dsimp only; omega, by dsimp only; omega, by simp, by simp, by simp, by simp, by simp, by simp, by simp⟩, fun _ => rfl⟩, U⟩
/-! ### Push -/
end
end Go.Proofs.Ytkopplnjomkleaa
