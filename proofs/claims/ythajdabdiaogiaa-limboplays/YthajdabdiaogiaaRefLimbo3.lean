/-
  The reference's limbo: the contract of Ready.
-/
import Derived.Test.YthajdabdiaogiaaRefLimbo2
import Derived.Test.YthajdabdiaogiaaLimbo8
namespace Go.Proofs.Ythajdabdiaogiaa
open Go.RowKit
set_option maxRecDepth 100000
section
variable {w w1 w2 w3 w4 wr w' : World} {p : Nat} {F F1 : List Nat} {R R1 : Lb} {V : Nat → Value} {v : Value} {now : Int}
/-- How far the reference's Ready is. -/
structure RRdyAt (w : World) (p : Nat) (F : List Nat) (R : Lb) (now : Int) (v : Value) (wr : World) (o : List Int) (R1 : Lb) (F1 : List Nat) : Prop where
  lim : RLim wr p F1 R1
  ints : Ints wr v o
  away : Away v F1
  next : Next w F F1
  fresh : Fresh w v
  els : Else F w wr
  outs : o ++ R1.router now = R.router now
  rest : R1.rremain now = R.rremain now
  size : R1.size + o.length = R.size
  mem : p ∈ F
def RRdyRel (w : World) (p : Nat) (F : List Nat) (R : Lb) (now : Int) (v : Value) (wr : World) : Prop := ∃ o R1 F1, RRdyAt w p F R now v wr o R1 F1
theorem raway_q (L : RLim w p F R) (A : Away v F) : Away v [p] := fun b hb e => by simp at hb; subst hb; exact A _ L.mem e
/-- One round: the append, and the store of nil. -/
theorem RRdyAt.step {o : List Int} {k X : Nat} {v5 : Value} {w5 : World} (H : RRdyAt w p F R now v wr o R1 F1) (hop : R1.ropn now = some k) (U : Up wr w2) (E : RLimV w2 p F1 R1 V)
    (J5 : Ints w5 v5 (o ++ R1.L k)) (G5 : w2.grownBy w5 v.ownBlock) (A5 : v5.ownBlock = v.ownBlock ∨ v5.ownBlock = some w2.heap.size)
    (top : Whole (w5.setCell ⟨p, X, none⟩ (.slice none 0 0)) p 56 #[.int .i64 (R1.T 0), .int .i64 (R1.T 1), .int .i64 (R1.T 2), put V k (.slice none 0 0) 0, put V k (.slice none 0 0) 1, put V k (.slice none 0 0) 2, .int .i64 R1.last]) :
    ∃ F3, RRdyAt w p F R now v5 (w5.setCell ⟨p, X, none⟩ (.slice none 0 0)) (o ++ R1.L k) (R1.rclear k) F3 := by
  obtain ⟨_, _, hk, hl⟩ := Lb.ropn_some hop
  obtain ⟨e1, e2⟩ := Lb.router_some hop
  have hs := R1.size_rclear hk
  have u5 : Else v.ownBlock.toList w2 w5 := (Else.refl _ _).grown G5 (fun b hb => .inl (by simp [hb]))
  have E5 := E.else u5 (fun b hb hv => by simp at hv; exact H.away b hb hv)
  have u7 : Else [p] w5 (w5.setCell ⟨p, X, none⟩ (.slice none 0 0)) := (Else.refl _ _).set (.inl (by simp)) _
  obtain ⟨L7, N7, _, _⟩ := E5.swap (R' := R1.rclear k) hk u7 (Ints.nil _) (fresh_nil _) rfl top
  have av5 : Away v5 F1 := fun b hb e => by
    rcases A5 with h | h
    · exact H.away b hb (h ▸ e)
    · rw [e] at h; injection h with h
      have := E.lt b hb; omega
  have hsz := (H.els.up U).size
  have u25 : Else F w w5 := (H.els.up U).grown G5 (fun b hb => .inr (H.fresh b hb))
  refine ⟨_, ⟨_, L7⟩, J5.else u7 (fun b hb e => by simp at hb; subst hb; exact av5 _ E.mem e), fun b hb e => ?_, fun b hb => ?_, fun b hb => ?_, u25.trans (u7.more (fun b hb => by simp at hb; subst hb; exact H.mem)), ?_, ?_, ?_, H.mem⟩
  · have hb' : b ∈ F1 := by simp [Value.ownBlock] at hb; exact (mem_less.1 hb).1
    exact av5 b hb' e
  · have hb' : b ∈ F1 := by simp [Value.ownBlock] at hb; exact (mem_less.1 hb).1
    exact H.next b hb'
  · rcases A5 with h | h
    · exact H.fresh b (h ▸ hb)
    · rw [hb] at h; injection h with h; omega
  · rw [List.append_assoc, ← e1]; exact H.outs
  · rw [← e2]; exact H.rest
  · have := H.size; rw [List.length_append]; omega
set_option maxHeartbeats 8000000 in
theorem rlready_any (E : RLim w p F R) (hn2 : now < 9223372036854775808) (hs : R.size ≤ 8192) : Calls Try.prog 17 #[.pointer (some ⟨p, 0, none⟩), .int .i64 now] w fun e w' => ∃ o, e = .returned o ∧ RTook w w' p F (R.rremain now) (R.router now) o := by
  have HE := Lib.hid E
  clear E
  go_enter Try.func17, Try.ntmps17
  go_wp2_with fail
  go_loopw [5] (fun v wr => RRdyRel w p F R now v wr) (fun v _ => R.size - nOf v)
  case atStart => exact ⟨[], R, F, HE.out, Ints.nil _, fun b _ e => by simp [Value.ownBlock] at e, Next.refl _ _, fresh_nil _, Else.refl _ _, rfl, rfl, by simp, HE.out.mem⟩
  case round =>
    obtain ⟨o, R1, F1, H⟩ := hrel
    have HH := Lib.hid H
    obtain ⟨A, N, c, rfl⟩ := shapeI H.ints
    clear H
    rcases hop : R1.ropn now with _ | k
    · have HO := Lib.hid (show (R1.ropn now).isSome = false by rw [hop]; rfl)
      have HOP := Lib.hid hop
      clear hop
      go_wp2_with (go_at_call 11; refine (ropen_to HH.out.lim hn2 HO.out).mono ?_; rintro e w1 ⟨rfl, U1⟩; have HU1 := Lib.hid U1; clear U1)
      go_ret
      obtain ⟨e1, e2⟩ := Lb.router_none HOP.out
      have h1 := HH.out.outs
      have h2 := HH.out.rest
      rw [e1, List.append_nil] at h1
      rw [e2] at h2
      rw [← h1, ← h2]
      exact ⟨_, rfl, F1, HH.out.lim.up HU1.out, HH.out.ints.up HU1.out, HH.out.away, HH.out.next, fun b hb => .inr (HH.out.fresh b hb), HH.out.els.up HU1.out⟩
    · have HO := Lib.hid (show (R1.ropn now).isSome = true by rw [hop]; rfl)
      have HOP := Lib.hid hop
      obtain ⟨hn3, hto, hk, hl⟩ := Lb.ropn_some hop
      have HTO := Lib.hid hto
      have hsz := HH.out.size
      have HL := Lib.hid hl
      have HN := Lib.hid HH.out.ints.nOf
      have HLEN := Lib.hid (show o.length + (R1.L k).length ≤ 8192 by have : (R1.L k).length ≤ R1.size := Lb.len_le hk; omega)
      clear hop hto hl
      go_upto_region 4 with (first
        | (go_at_call 11; refine (ropen_to HH.out.lim hn2 HO.out).mono ?_; rintro e w1 ⟨rfl, U1⟩; have HU1 := Lib.hid U1; clear U1)
        | (go_at_call 23; refine (least_to (HH.out.lim.up HU1.out) hn3 hn2 HTO.out).mono ?_; rintro e w2 ⟨rfl, U2⟩; have HU2 := Lib.hid (HU1.out.trans U2); clear U2))
      obtain ⟨V, E2⟩ := HH.out.lim.up HU2.out
      obtain ⟨c0, c1, c2, c3, c4, c5, c6⟩ := E2.cells
      obtain ⟨A0, d0, A1, d1, A2, d2, v0, v1, v2⟩ := E2.slices
      have HE2 := Lib.hid E2
      have : k = 0 ∨ k = 1 ∨ k = 2 := by omega
      rcases this with rfl | rfl | rfl
      · rw [idx_0]
        have HZ := Lib.hid v0
        rw [v0] at c3
        obtain ⟨NK, hNK⟩ : ∃ n, (R1.L 0).length = n := ⟨_, rfl⟩
        have HNK := Lib.hid hNK
        rw [hNK] at c3 HZ
        have HNE := Lib.hid (show some p ≠ (Value.slice A N c).ownBlock from fun e => HH.out.away p E2.mem e.symm)
        have HRK := Lib.hid (show Rd w2 (.slice A0 NK d0) (R1.L 0) from HZ.out ▸ (E2.ints 0 (by decide)).rd)
        clear v0 v1 v2 E2 hNK
        go_wp2_with (first
          | (at_builtin; refine wpList_app rfl _ _ rfl rfl rfl (HH.out.ints.up HU2.out) HRK.out HLEN.out ?_; intro v5 w5 J5 G5 A5; obtain ⟨B5, N5, k5, rfl⟩ := shapeI J5; have HJ5 := Lib.hid J5; have HT5 := Lib.hid (HE2.out.top.grown G5 HNE.out); have y5 := HT5.out.cell (i := 3) rfl; have g5 := HT5.out.frozen 3; have HG5 := Lib.hid G5; have HA5 := Lib.hid A5; clear J5 G5 A5))
        obtain ⟨F3, HS⟩ := RRdyAt.step (k := 0) (X := 3) HH.out HOP.out HU2.out HE2.out HJ5.out HG5.out HA5.out (HT5.out.set 3 (.slice none 0 0))
        have HS := Lib.hid HS
        go_roundw
        case rel => exact ⟨_, _, _, HS.out⟩
        case measure =>
          have h5 := HJ5.out.nOf
          have h6 := HN.out
          have h7 := List.length_pos_iff.2 HL.out
          have h8 : (R1.L 0).length ≤ R1.size := Lb.len_le (by decide)
          rw [List.length_append] at h5
          simp only [nOf] at h5 h6 ⊢
          omega
      · rw [idx_1]
        have HZ := Lib.hid v1
        rw [v1] at c4
        obtain ⟨NK, hNK⟩ : ∃ n, (R1.L 1).length = n := ⟨_, rfl⟩
        have HNK := Lib.hid hNK
        rw [hNK] at c4 HZ
        have HNE := Lib.hid (show some p ≠ (Value.slice A N c).ownBlock from fun e => HH.out.away p E2.mem e.symm)
        have HRK := Lib.hid (show Rd w2 (.slice A1 NK d1) (R1.L 1) from HZ.out ▸ (E2.ints 1 (by decide)).rd)
        clear v0 v1 v2 E2 hNK
        go_wp2_with (first
          | (at_builtin; refine wpList_app rfl _ _ rfl rfl rfl (HH.out.ints.up HU2.out) HRK.out HLEN.out ?_; intro v5 w5 J5 G5 A5; obtain ⟨B5, N5, k5, rfl⟩ := shapeI J5; have HJ5 := Lib.hid J5; have HT5 := Lib.hid (HE2.out.top.grown G5 HNE.out); have y5 := HT5.out.cell (i := 4) rfl; have g5 := HT5.out.frozen 4; have HG5 := Lib.hid G5; have HA5 := Lib.hid A5; clear J5 G5 A5))
        obtain ⟨F3, HS⟩ := RRdyAt.step (k := 1) (X := 4) HH.out HOP.out HU2.out HE2.out HJ5.out HG5.out HA5.out (HT5.out.set 4 (.slice none 0 0))
        have HS := Lib.hid HS
        go_roundw
        case rel => exact ⟨_, _, _, HS.out⟩
        case measure =>
          have h5 := HJ5.out.nOf
          have h6 := HN.out
          have h7 := List.length_pos_iff.2 HL.out
          have h8 : (R1.L 1).length ≤ R1.size := Lb.len_le (by decide)
          rw [List.length_append] at h5
          simp only [nOf] at h5 h6 ⊢
          omega
      · rw [idx_2]
        have HZ := Lib.hid v2
        rw [v2] at c5
        obtain ⟨NK, hNK⟩ : ∃ n, (R1.L 2).length = n := ⟨_, rfl⟩
        have HNK := Lib.hid hNK
        rw [hNK] at c5 HZ
        have HNE := Lib.hid (show some p ≠ (Value.slice A N c).ownBlock from fun e => HH.out.away p E2.mem e.symm)
        have HRK := Lib.hid (show Rd w2 (.slice A2 NK d2) (R1.L 2) from HZ.out ▸ (E2.ints 2 (by decide)).rd)
        clear v0 v1 v2 E2 hNK
        go_wp2_with (first
          | (at_builtin; refine wpList_app rfl _ _ rfl rfl rfl (HH.out.ints.up HU2.out) HRK.out HLEN.out ?_; intro v5 w5 J5 G5 A5; obtain ⟨B5, N5, k5, rfl⟩ := shapeI J5; have HJ5 := Lib.hid J5; have HT5 := Lib.hid (HE2.out.top.grown G5 HNE.out); have y5 := HT5.out.cell (i := 5) rfl; have g5 := HT5.out.frozen 5; have HG5 := Lib.hid G5; have HA5 := Lib.hid A5; clear J5 G5 A5))
        obtain ⟨F3, HS⟩ := RRdyAt.step (k := 2) (X := 5) HH.out HOP.out HU2.out HE2.out HJ5.out HG5.out HA5.out (HT5.out.set 5 (.slice none 0 0))
        have HS := Lib.hid HS
        go_roundw
        case rel => exact ⟨_, _, _, HS.out⟩
        case measure =>
          have h5 := HJ5.out.nOf
          have h6 := HN.out
          have h7 := List.length_pos_iff.2 HL.out
          have h8 : (R1.L 2).length ≤ R1.size := Lb.len_le (by decide)
          rw [List.length_append] at h5
          simp only [nOf] at h5 h6 ⊢
          omega
end
end Go.Proofs.Ythajdabdiaogiaa
