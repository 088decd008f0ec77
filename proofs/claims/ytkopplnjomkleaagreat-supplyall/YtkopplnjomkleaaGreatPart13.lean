/-
  Texts beneath SupplyAll, part 13: Pop2, Pop3.
-/
import Derived.Test.YtkopplnjomkleaaGreatPart12
import Derived.Deep.RegionLaw
/-
  Package stack: the machine Pop: the Load of a link, the exchange, Step, Done.
-/
namespace Go.Proofs.YtkopplnjomkleaaGreat
open Go.RowKit
open W64
set_option maxRecDepth 100000
section
variable {w w' : World} {p g q hd ln n b most : Nat} {s : St} {v v' : Value} {l l' : List Nat} {deep old : Int} {nx : Value}
theorem wrap_last {K k : Nat} (h : K = k + 1) (h8 : K ≤ 8) : (k : Int) < (K : Int) ∧ wrap64 ((K : Int) - 1) = k ∧ IntKind.i64.wrap ((K : Int) - 1) = k := by
  refine ⟨by omega, ?_, ?_⟩
  · rw [wrap64_in (by omega) (by omega)]; omega
  · rw [IntWalk.i64_in _ (by omega)]; omega
theorem wrap_ln {ln x n L : Nat} (h : x < n) (h1 : ln + n ≤ L) (h2 : L ≤ 8388608) : wrap64 ((ln : Int) + x) = ln + x ∧ IntKind.i64.wrap ((ln : Int) + x) = ln + x :=
  ⟨wrap64_in (by omega) (by omega), IntWalk.i64_in _ (by omega)⟩
set_option maxHeartbeats 4000000 in
theorem pop_linkA (E : Env w p g q hd ln n s) (P : PopAt w b q v l most deep old nx) (A : Apart b p g q v) (hl0 : l ≠ []) (hn : ∀ x ∈ l, x < n) (hl : l.length ≤ 8) (hd : belowN n (s.get (ln + (l.getD (l.length - 1) 0 : Nat))) = -1) :
    Calls Tryz.prog 150 #[.pointer (some ⟨b, 0, none⟩)] w fun e w' => e = .returned (.tuple #[]) ∧ PopAt w' b q v l most (-1) old (meth 157 b) ∧ Mem w' p g (s.hit 1 (ln + (l.getD (l.length - 1) 0 : Nat)) (s.get (ln + (l.getD (l.length - 1) 0 : Nat))) true) ∧ Else [b, p, g] w w' := by
  obtain ⟨r, cap, rfl, ds⟩ := P.row.get hl0
  have lp := List.length_pos_iff.2 hl0
  have d0 := ds (l.length - 1) (by omega)
  clear ds
  obtain ⟨c0, c1, c2, c3, _, c5⟩ := P.cells
  obtain ⟨k0, _, k2, _⟩ := E.cells
  have m0 := hn _ (Stk.getD_mem (show l.length - 1 < l.length by omega))
  generalize l.getD (l.length - 1) 0 = x at *
  have hx := E.ok (ln + x)
  have hh := Lib.hid (E.hasL (i := x) (by omega) (by omega))
  have n1 := E.n1
  have hl2 := E.hl
  have ht := E.top
  obtain ⟨z, hz⟩ : ∃ z, s.get (ln + x) = z := ⟨_, rfl⟩
  rw [hz] at hx hd ⊢
  obtain ⟨k, hk⟩ : ∃ k, l.length = k + 1 := ⟨l.length - 1, by omega⟩
  have hk1 : l.length - 1 = k := by omega
  rw [hk1] at d0
  obtain ⟨K, hK⟩ : ∃ K : Nat, K = l.length := ⟨_, rfl⟩
  rw [← hK] at c2
  have i0 : (0 : Int) ≤ (k : Int) := Int.natCast_nonneg _
  obtain ⟨i1, s1, s2⟩ := wrap_last (hK.trans hk) (Nat.le_trans (Nat.le_of_eq hK) hl)
  obtain ⟨s3, s4⟩ := wrap_ln m0 hl2 ht
  have hq : q ∉ [p, g] := by simp [E.np, E.ng]
  have hb := A.b2
  have hbq := A.bq
  have hr : r ∉ [p, g] := fun hk => A.v2 r hk rfl
  have HE := Lib.hid E
  have HP := Lib.hid P
  have HA := Lib.hid A
  have HD := Lib.hid hd
  have HZ := Lib.hid hz
  have HK := Lib.hid hK
  have hf := run_func
  clear P E A hd hz hk hk1 hn hl2 ht m0 hK
  go_enter Tryz.func150, Tryz.ntmps150
  go_upto_region 0 with fail
  go_region_held3 (fun w' => w'.cell? ⟨b, 0, none⟩ = some (.pointer (some ⟨q, 0, none⟩)) ∧ w'.cell? ⟨q, 0, none⟩ = some (.pointer (some ⟨p, 0, none⟩)) ∧ w'.cell? ⟨q, 2, none⟩ = some (.int .i64 ln) ∧ w'.cell? ⟨b, 2, none⟩ = some (.slice (some ⟨r, 0, none⟩) K cap) ∧ w'.cell? ⟨r, k, none⟩ = some (.int .i64 x)) ((first | exact ⟨c0, k0, k2, c2, d0⟩ | exact ⟨E1.kept c0 hb, E1.kept k0 hq, E1.kept k2 hq, E1.kept c2 hb, E1.kept d0 hr⟩))
    (first
      | (go_at_call 110; refine (load_to (HE.out.mem.up (up_drew w)) hh.out HZ.out rfl).mono ?_; rintro e w1 ⟨rfl, M1, E1⟩))
  have HE1 := Lib.hid ((Else.of_up (up_drew w)).trans E1)
  have P2 := Lib.hid (HP.out.else HE1.out HA.out.b2 HA.out.v2)
  have EE := Lib.hid (HE.out.turn M1 HE1.out (HE.out.ok.hit 1 (ln + x) true hx.1 hx.2) (hit_len _ _ _ _ _))
  clear M1 E1 c0 c1 c2 c3 c5 d0 k0 k2
  obtain ⟨c0, c1, c2, c3, _, c5⟩ := P2.out.cells
  have f3 := P2.out.top.frozen 3
  go_upto_region 2 with (go_at_call 55; refine (ofLink_to EE.out hx.1 hx.2 HD.out).mono ?_; rintro e w9 ⟨rfl, rfl⟩)
  have P3 := Lib.hid (P2.out.below (-1))
  have M3 := Lib.hid (EE.out.mem.self HA.out.bp HA.out.bg 3 (.int .i64 (-1)))
  have E3 : Else [b, p, g] w (w1.setCell ⟨b, 3, none⟩ (.int .i64 (-1))) := else_self (HE1.out.wide b) (by simp)
  have E3 := Lib.hid E3
  clear c0 c1 c2 c3 c5 f3 P2 EE HE1
  generalize w1.setCell ⟨b, 3, none⟩ (.int .i64 (-1)) = w2 at *
  obtain ⟨c0, c1, c2, c3, _, c5⟩ := P3.out.cells
  rw [← HK.out] at c2
  go_quiet (fail)
  have f5 := P3.out.top.frozen 5
  go_wp2_with fail
  refine bodyPost_ret (v := .tuple #[]) (by simp [results, Tryz.results150, go_sem]) rfl ?_
  have V := Up.drewN w2 nq
  exact ⟨rfl, (P3.out.up V).next _, (M3.out.up V).self HA.out.bp HA.out.bg _ _, else_self (E3.out.up V) (by simp)⟩
set_option maxHeartbeats 4000000 in
theorem pop_linkB (E : Env w p g q hd ln n s) (P : PopAt w b q v l most deep old nx) (A : Apart b p g q v) (hl0 : l ≠ []) (hn : ∀ x ∈ l, x < n) (hl : l.length ≤ 8) {d : Nat} (hd : belowN n (s.get (ln + (l.getD (l.length - 1) 0 : Nat))) = d) (hm : l.length = most) :
    Calls Tryz.prog 150 #[.pointer (some ⟨b, 0, none⟩)] w fun e w' => e = .returned (.tuple #[]) ∧ PopAt w' b q v l most (d : Int) old (meth 157 b) ∧ Mem w' p g (s.hit 1 (ln + (l.getD (l.length - 1) 0 : Nat)) (s.get (ln + (l.getD (l.length - 1) 0 : Nat))) true) ∧ Else [b, p, g] w w' := by
  obtain ⟨r, cap, rfl, ds⟩ := P.row.get hl0
  have lp := List.length_pos_iff.2 hl0
  have d0 := ds (l.length - 1) (by omega)
  clear ds
  obtain ⟨c0, c1, c2, c3, _, c5⟩ := P.cells
  obtain ⟨k0, _, k2, _⟩ := E.cells
  have m0 := hn _ (Stk.getD_mem (show l.length - 1 < l.length by omega))
  generalize l.getD (l.length - 1) 0 = x at *
  have hx := E.ok (ln + x)
  have hh := Lib.hid (E.hasL (i := x) (by omega) (by omega))
  have n1 := E.n1
  have hl2 := E.hl
  have ht := E.top
  obtain ⟨z, hz⟩ : ∃ z, s.get (ln + x) = z := ⟨_, rfl⟩
  rw [hz] at hx hd ⊢
  obtain ⟨k, hk⟩ : ∃ k, l.length = k + 1 := ⟨l.length - 1, by omega⟩
  have hk1 : l.length - 1 = k := by omega
  rw [hk1] at d0
  obtain ⟨K, hK⟩ : ∃ K : Nat, K = l.length := ⟨_, rfl⟩
  rw [← hK] at c2
  have i0 : (0 : Int) ≤ (k : Int) := Int.natCast_nonneg _
  obtain ⟨i1, s1, s2⟩ := wrap_last (hK.trans hk) (Nat.le_trans (Nat.le_of_eq hK) hl)
  obtain ⟨s3, s4⟩ := wrap_ln m0 hl2 ht
  have hq : q ∉ [p, g] := by simp [E.np, E.ng]
  have hb := A.b2
  have hbq := A.bq
  have hr : r ∉ [p, g] := fun hk => A.v2 r hk rfl
  have HE := Lib.hid E
  have HP := Lib.hid P
  have HA := Lib.hid A
  have HD := Lib.hid hd
  have HZ := Lib.hid hz
  have HK := Lib.hid hK
  have hf := run_func
  clear P E A hd hz hk hk1 hn hl2 ht m0 hK
  go_enter Tryz.func150, Tryz.ntmps150
  go_upto_region 0 with fail
  go_region_held3 (fun w' => w'.cell? ⟨b, 0, none⟩ = some (.pointer (some ⟨q, 0, none⟩)) ∧ w'.cell? ⟨q, 0, none⟩ = some (.pointer (some ⟨p, 0, none⟩)) ∧ w'.cell? ⟨q, 2, none⟩ = some (.int .i64 ln) ∧ w'.cell? ⟨b, 2, none⟩ = some (.slice (some ⟨r, 0, none⟩) K cap) ∧ w'.cell? ⟨r, k, none⟩ = some (.int .i64 x)) ((first | exact ⟨c0, k0, k2, c2, d0⟩ | exact ⟨E1.kept c0 hb, E1.kept k0 hq, E1.kept k2 hq, E1.kept c2 hb, E1.kept d0 hr⟩))
    (first
      | (go_at_call 110; refine (load_to (HE.out.mem.up (up_drew w)) hh.out HZ.out rfl).mono ?_; rintro e w1 ⟨rfl, M1, E1⟩))
  have HE1 := Lib.hid ((Else.of_up (up_drew w)).trans E1)
  have P2 := Lib.hid (HP.out.else HE1.out HA.out.b2 HA.out.v2)
  have EE := Lib.hid (HE.out.turn M1 HE1.out (HE.out.ok.hit 1 (ln + x) true hx.1 hx.2) (hit_len _ _ _ _ _))
  clear M1 E1 c0 c1 c2 c3 c5 d0 k0 k2
  obtain ⟨c0, c1, c2, c3, _, c5⟩ := P2.out.cells
  have f3 := P2.out.top.frozen 3
  go_upto_region 2 with (go_at_call 55; refine (ofLink_to EE.out hx.1 hx.2 HD.out).mono ?_; rintro e w9 ⟨rfl, rfl⟩)
  have P3 := Lib.hid (P2.out.below (d : Int))
  have M3 := Lib.hid (EE.out.mem.self HA.out.bp HA.out.bg 3 (.int .i64 (d : Int)))
  have E3 : Else [b, p, g] w (w1.setCell ⟨b, 3, none⟩ (.int .i64 (d : Int))) := else_self (HE1.out.wide b) (by simp)
  have E3 := Lib.hid E3
  clear c0 c1 c2 c3 c5 f3 P2 EE HE1
  generalize w1.setCell ⟨b, 3, none⟩ (.int .i64 (d : Int)) = w2 at *
  obtain ⟨c0, c1, c2, c3, _, c5⟩ := P3.out.cells
  rw [← HK.out] at c2
  have g1 : ((d : Int) == -1) = false := by simp
  have g2 : ((K : Int) == (most : Int)) = true := by have := HK.out; simp; omega
  go_quiet (fail)
  have f5 := P3.out.top.frozen 5
  go_wp2_with fail
  refine bodyPost_ret (v := .tuple #[]) (by simp [results, Tryz.results150, go_sem]) rfl ?_
  have V := Up.drewN w2 nq
  exact ⟨rfl, (P3.out.up V).next _, (M3.out.up V).self HA.out.bp HA.out.bg _ _, else_self (E3.out.up V) (by simp)⟩

set_option maxHeartbeats 2000000 in
theorem pop_turn (E : Env w p g q hd ln n s) (P : PopAt w b q v l most deep old nx) (A : Apart b p g q v) {c : Bool} {s' : St}
    (hc : ∀ {w1 : World}, Env w1 p g q hd ln n s → Calls Tryz.prog 161 #[.pointer (some ⟨q, 0, none⟩), .int .u64 old, .int .i64 deep] w1 fun e w' => e = .returned (.bool c) ∧ Mem w' p g s' ∧ Else [p, g] w1 w') :
    Calls Tryz.prog 157 #[.pointer (some ⟨b, 0, none⟩)] w fun e w' => e = .returned (.tuple #[]) ∧ PopAt w' b q v l most deep old (if c then .nilFunc else meth 138 b) ∧ Mem w' p g s' ∧ Else [b, p, g] w w' := by
  obtain ⟨c0, _, _, c3, c4, c5⟩ := P.cells
  have hb := A.b2
  have HP := Lib.hid P
  have HA := Lib.hid A
  have HC := Lib.hid (hc (E.up (up_drew w)))
  have hf := run_func
  clear P E A hc
  cases c
  · go_enter Tryz.func157, Tryz.ntmps157
    go_upto_region 0 with fail
    go_region_held3 (fun w' => w'.cell? ⟨b, 0, none⟩ = some (.pointer (some ⟨q, 0, none⟩)) ∧ w'.cell? ⟨b, 3, none⟩ = some (.int .i64 deep) ∧ w'.cell? ⟨b, 4, none⟩ = some (.int .u64 old)) ((first | exact ⟨c0, c3, c4⟩ | exact ⟨E2.kept c0 hb, E2.kept c3 hb, E2.kept c4 hb⟩))
      (first
        | (go_at_call 161; refine HC.out.mono ?_; rintro e w2 ⟨rfl, M2, E2⟩))
    have E3 := Lib.hid ((Else.of_up (up_drew w)).trans E2)
    have P2 := Lib.hid (HP.out.else E3.out HA.out.b2 HA.out.v2)
    have j5 := P2.out.cells.2.2.2.2.2
    have f5 := P2.out.top.frozen 5
    go_wp2_with fail
    go_end0
    exact ⟨rfl, P2.out.next _, M2.self HA.out.bp HA.out.bg _ _, else_self (E3.out.wide b) (by simp)⟩
  · go_enter Tryz.func157, Tryz.ntmps157
    go_upto_region 0 with fail
    go_region_held3 (fun w' => w'.cell? ⟨b, 0, none⟩ = some (.pointer (some ⟨q, 0, none⟩)) ∧ w'.cell? ⟨b, 3, none⟩ = some (.int .i64 deep) ∧ w'.cell? ⟨b, 4, none⟩ = some (.int .u64 old)) ((first | exact ⟨c0, c3, c4⟩ | exact ⟨E2.kept c0 hb, E2.kept c3 hb, E2.kept c4 hb⟩))
      (first
        | (go_at_call 161; refine HC.out.mono ?_; rintro e w2 ⟨rfl, M2, E2⟩))
    have E3 := Lib.hid ((Else.of_up (up_drew w)).trans E2)
    have P2 := Lib.hid (HP.out.else E3.out HA.out.b2 HA.out.v2)
    have j5 := P2.out.cells.2.2.2.2.2
    have f5 := P2.out.top.frozen 5
    go_wp2_with fail
    go_end0
    exact ⟨rfl, P2.out.next _, M2.self HA.out.bp HA.out.bg _ _, else_self (E3.out.wide b) (by simp)⟩
end
end Go.Proofs.YtkopplnjomkleaaGreat

/-
  Package stack: the machine Pop: the Load of a link, the exchange, Step, Done.
-/
namespace Go.Proofs.YtkopplnjomkleaaGreat
open Go.RowKit
open W64
set_option maxRecDepth 100000
section
variable {w w' : World} {p g q hd ln n b most : Nat} {s : St} {v v' : Value} {l l' : List Nat} {deep old : Int} {nx : Value}
theorem Else.of_grown {a c : World} {row : Option Nat} (h : a.grownBy c row) : Else row.toList a c :=
  ⟨h.os, h.tape, h.output, h.size, fun k hk hn => h.block k hk (fun e => hn (by rw [← e]; simp))⟩
theorem more_end {w w4 wD : World} {p g q b most r cap K gg cap2 d : Nat} {s : St} {l : List Nat} {deep old : Int} {nx : Value} {o : Obj}
    (P : PopAt w4 b q (.slice (some ⟨r, 0, none⟩) l.length cap) l most deep old nx) (M : Mem w4 p g s) (E : Else [b, p, g] w w4) (A : Apart b p g q (.slice (some ⟨r, 0, none⟩) l.length cap))
    (O : wD.ownsRow 0 3 1 (.slice (some ⟨gg, 0, none⟩) (K + 1) cap2) (K + 1) ((I l).map (Value.int .i64) ++ [.int .i64 (d : Int)])) (G : (w4.drew.alloc o).grownBy wD (Value.slice (some ⟨r, 0, none⟩) K cap).ownBlock)
    (hat : (Value.slice (some ⟨r, 0, none⟩) K cap).ownBlock = some gg ∨ gg = w4.heap.size + 1) (hK : K = l.length) :
    (∃ r' cap', ((Value.slice (some ⟨r, 0, none⟩) l.length cap).ownBlock = some r' ∨ w.heap.size ≤ r') ∧ PopAt (wD.setCell ⟨b, 2, none⟩ (.slice (some ⟨gg, 0, none⟩) (K + 1) cap2)) b q (.slice (some ⟨r', 0, none⟩) (l.length + 1) cap') (l ++ [d]) most deep old nx) ∧
    Mem (wD.setCell ⟨b, 2, none⟩ (.slice (some ⟨gg, 0, none⟩) (K + 1) cap2)) p g s ∧ ∀ r', (Value.slice (some ⟨r, 0, none⟩) l.length cap).ownBlock = some r' → Else [b, r', p, g] w (wD.setCell ⟨b, 2, none⟩ (.slice (some ⟨gg, 0, none⟩) (K + 1) cap2)) := by
  subst hK
  have U : Up w4 (w4.drew.alloc o) := (up_drew w4).then_alloc o
  have hbw := P.top.lt
  have hrb : r ≠ b := fun e => P.away (by rw [e]; rfl)
  have EG := Else.of_grown G
  have hgb : gg ≠ b := by
    rcases hat with h | h
    · simp [Value.ownBlock] at h; omega
    · omega
  have top := EG.whole (P.top.up U) (by simp [Value.ownBlock]; exact fun e => hrb e.symm)
  have M2 := (M.up U).else EG (by simp [Value.ownBlock]; exact fun e => A.vp (by simp [Value.ownBlock, e])) (by simp [Value.ownBlock]; exact fun e => A.vg (by simp [Value.ownBlock, e]))
  refine ⟨⟨gg, cap2, ?_, ⟨top.set 2 _, row_self (ints_of_own O (by simp [I]) (by simp [I])) (by simp [Value.ownBlock]; exact hgb) _, by simp [Value.ownBlock]; exact hgb⟩⟩, M2.self A.bp A.bg _ _, fun r' hr' => ?_⟩
  · rcases hat with h | h
    · exact .inl h
    · have := E.size; exact .inr (by omega)
  · simp [Value.ownBlock] at hr'; subst hr'
    have E1 : Else [b, r, p, g] w w4 := E.more (by intro k hk; simp at hk ⊢; rcases hk with h | h | h <;> simp [h])
    have E2 : Else [b, r, p, g] (w4.drew.alloc o) wD := EG.more (by intro k hk; simp [Value.ownBlock] at hk; simp [hk])
    exact else_self ((E1.up U).trans E2) (by simp)
set_option maxHeartbeats 4000000 in
theorem pop_linkC (E : Env w p g q hd ln n s) (P : PopAt w b q v l most deep old nx) (A : Apart b p g q v) (hl0 : l ≠ []) (hn : ∀ x ∈ l, x < n) (hl : l.length ≤ 8) {d : Nat} (hd : belowN n (s.get (ln + (l.getD (l.length - 1) 0 : Nat))) = d) (hm : l.length ≠ most) :
    Calls Tryz.prog 150 #[.pointer (some ⟨b, 0, none⟩)] w fun e w' => e = .returned (.tuple #[]) ∧ (∃ r cap, (v.ownBlock = some r ∨ w.heap.size ≤ r) ∧ PopAt w' b q (.slice (some ⟨r, 0, none⟩) (l.length + 1) cap) (l ++ [d]) most d old nx) ∧ Mem w' p g (s.hit 1 (ln + (l.getD (l.length - 1) 0 : Nat)) (s.get (ln + (l.getD (l.length - 1) 0 : Nat))) true) ∧ (∀ r, v.ownBlock = some r → Else [b, r, p, g] w w') := by
  obtain ⟨r, cap, rfl, ds⟩ := P.row.get hl0
  have lp := List.length_pos_iff.2 hl0
  have d0 := ds (l.length - 1) (by omega)
  clear ds
  obtain ⟨c0, c1, c2, c3, _, c5⟩ := P.cells
  obtain ⟨k0, _, k2, _⟩ := E.cells
  have m0 := hn _ (Stk.getD_mem (show l.length - 1 < l.length by omega))
  generalize l.getD (l.length - 1) 0 = x at *
  have hx := E.ok (ln + x)
  have hh := Lib.hid (E.hasL (i := x) (by omega) (by omega))
  have n1 := E.n1
  have hl2 := E.hl
  have ht := E.top
  obtain ⟨z, hz⟩ : ∃ z, s.get (ln + x) = z := ⟨_, rfl⟩
  rw [hz] at hx hd ⊢
  obtain ⟨k, hk⟩ : ∃ k, l.length = k + 1 := ⟨l.length - 1, by omega⟩
  have hk1 : l.length - 1 = k := by omega
  rw [hk1] at d0
  obtain ⟨K, hK⟩ : ∃ K : Nat, K = l.length := ⟨_, rfl⟩
  rw [← hK] at c2
  have i0 : (0 : Int) ≤ (k : Int) := Int.natCast_nonneg _
  obtain ⟨i1, s1, s2⟩ := wrap_last (hK.trans hk) (Nat.le_trans (Nat.le_of_eq hK) hl)
  obtain ⟨s3, s4⟩ := wrap_ln m0 hl2 ht
  have hq : q ∉ [p, g] := by simp [E.np, E.ng]
  have hb := A.b2
  have hbq := A.bq
  have hr : r ∉ [p, g] := fun hk => A.v2 r hk rfl
  have HE := Lib.hid E
  have HP := Lib.hid P
  have HA := Lib.hid A
  have HD := Lib.hid hd
  have HZ := Lib.hid hz
  have HK := Lib.hid hK
  have hf := run_func
  clear P E A hd hz hk hk1 hn hl2 ht m0 hK
  go_enter Tryz.func150, Tryz.ntmps150
  go_upto_region 0 with fail
  go_region_held3 (fun w' => w'.cell? ⟨b, 0, none⟩ = some (.pointer (some ⟨q, 0, none⟩)) ∧ w'.cell? ⟨q, 0, none⟩ = some (.pointer (some ⟨p, 0, none⟩)) ∧ w'.cell? ⟨q, 2, none⟩ = some (.int .i64 ln) ∧ w'.cell? ⟨b, 2, none⟩ = some (.slice (some ⟨r, 0, none⟩) K cap) ∧ w'.cell? ⟨r, k, none⟩ = some (.int .i64 x)) ((first | exact ⟨c0, k0, k2, c2, d0⟩ | exact ⟨E1.kept c0 hb, E1.kept k0 hq, E1.kept k2 hq, E1.kept c2 hb, E1.kept d0 hr⟩))
    (first
      | (go_at_call 110; refine (load_to (HE.out.mem.up (up_drew w)) hh.out HZ.out rfl).mono ?_; rintro e w1 ⟨rfl, M1, E1⟩))
  have HE1 := Lib.hid ((Else.of_up (up_drew w)).trans E1)
  have P2 := Lib.hid (HP.out.else HE1.out HA.out.b2 HA.out.v2)
  have EE := Lib.hid (HE.out.turn M1 HE1.out (HE.out.ok.hit 1 (ln + x) true hx.1 hx.2) (hit_len _ _ _ _ _))
  clear M1 E1 c0 c1 c2 c3 c5 d0 k0 k2
  obtain ⟨c0, c1, c2, c3, _, c5⟩ := P2.out.cells
  have f3 := P2.out.top.frozen 3
  go_upto_region 2 with (go_at_call 55; refine (ofLink_to EE.out hx.1 hx.2 HD.out).mono ?_; rintro e w9 ⟨rfl, rfl⟩)
  have P3 := Lib.hid (P2.out.below (d : Int))
  have M3 := Lib.hid (EE.out.mem.self HA.out.bp HA.out.bg 3 (.int .i64 (d : Int)))
  have E3 : Else [b, p, g] w (w1.setCell ⟨b, 3, none⟩ (.int .i64 (d : Int))) := else_self (HE1.out.wide b) (by simp)
  have E3 := Lib.hid E3
  clear c0 c1 c2 c3 c5 f3 P2 EE HE1
  generalize w1.setCell ⟨b, 3, none⟩ (.int .i64 (d : Int)) = w2 at *
  obtain ⟨c0, c1, c2, c3, _, c5⟩ := P3.out.cells
  rw [← HK.out] at c2
  have g1 : ((d : Int) == -1) = false := by simp
  have g2 : ((K : Int) == (most : Int)) = false := by have := HK.out; simp; omega
  go_quiet (fail)
  have V := Up.drewN w2 nq
  have P4 := Lib.hid (P3.out.up V)
  have M4 := Lib.hid (M3.out.up V)
  have E4 := Lib.hid (E3.out.up V)
  clear c0 c1 c2 c3 c5 P3 M3 E3 V
  go_upto_region 4 with fail
  generalize w2.drewN nq = w4 at *
  obtain ⟨_, _, c2, c3, _, _⟩ := P4.out.cells
  rw [← HK.out] at c2
  have fb := P4.out.top.frozen 2
  obtain ⟨i9, hi, hz0, hz1, hz2⟩ := info_parts info_int
  have own4 := P4.out.row
  unfold Ints at own4
  rw [I_len, ← HK.out] at own4
  have OWN := Lib.hid (own_up own4 ((up_drew w4).then_alloc (.cells #[.int .i64 (d : Int)] 3)))
  have hK8 : K ≤ 8 := Nat.le_trans (Nat.le_of_eq HK.out) hl
  have g63 : K + 1 ≤ maxLen := by unfold maxLen; omega
  have gby : (K + 1) * 8 ≤ 140737488355328 := by omega
  have hbw := P4.out.top.lt
  have hH : (w4.drew.alloc (.cells #[.int .i64 (d : Int)] 3)).heap.size = w4.heap.size + 1 := by simp
  have hrb : r ≠ b := fun e => HP.out.away (by rw [e]; rfl)
  have hbr : some b ≠ (Value.slice (some ⟨r, 0, none⟩) K cap).ownBlock := by simp [Value.ownBlock]; exact fun e => hrb e.symm
  have P5 := Lib.hid (P4.out.up ((up_drew w4).then_alloc (.cells #[.int .i64 (d : Int)] 3)))
  clear own4
  go_region_law ((refine step_append_lies _ (by rfl) _ _ 22 (by rfl) 0 3 i9 (.int .i64 0) 1 8 Tryz.underlying22 hi hz0 hz1 hz2 rfl (by decide) (.slice (some ⟨r, 0, none⟩) K cap) K ((I l).map (Value.int .i64)) (by rfl) OWN.out ⟨w4.heap.size, 0, none⟩ 1 1 [.int .i64 (d : Int)] (by rfl) rfl (one_new _ _ _) (by simp [Value.oneCell']) (by decide) g63 gby (Nat.zero_le _) _ hH ?_; intro gg cap2 wD hownD hgrow hat hltD; have P6 := Lib.hid (Whole.grown P5.out.top hgrow hbr); have y2 := P6.out.cell (i := 2) rfl; have f2 := P6.out.frozen 2; have HOD := Lib.hid hownD; have HG := Lib.hid hgrow; clear hownD hgrow))
  all_goals
    go_wp2_with fail
    go_end0
    refine ⟨rfl, ?_⟩
    have fin := more_end P4.out M4.out E4.out HA.out HOD.out HG.out hat HK.out
    exact fin
end
end Go.Proofs.YtkopplnjomkleaaGreat
