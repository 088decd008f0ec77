/-
  Texts beneath SupplyAll, part 24: RefLimbo3, RefSup, ChWalk, ChRef.
-/
import Derived.Test.YtkopplnjomkleaaGreatPart23
/-
  The reference's limbo: the contract of Ready.
-/
namespace Go.Proofs.YtkopplnjomkleaaGreat
open Go.RowKit
set_option maxRecDepth 100000
section
variable {w w1 w2 w3 w4 wr w' : World} {p : Nat} {F F1 : List Nat} {R R1 : Lb} {V : Nat → Value} {v : Value} {now : Int}
/-- How far the reference's Ready is. -/
structure RRdyAt (w : World) (p : Nat) (F : List Nat) (R : Lb) (now : Int) (v : Value) (wr : World) (o : List Int) (R1 : Lb) (F1 : List Nat) : Prop where
  lim : RLim wr p F1 R1
  ints : Ints wr v o
  away : Away v F1
  next : Next w F F1
  fresh : Fresh w v
  els : Else F w wr
  outs : o ++ R1.router now = R.router now
  rest : R1.rremain now = R.rremain now
  size : R1.size + o.length = R.size
  mem : p ∈ F
def RRdyRel (w : World) (p : Nat) (F : List Nat) (R : Lb) (now : Int) (v : Value) (wr : World) : Prop := ∃ o R1 F1, RRdyAt w p F R now v wr o R1 F1
theorem raway_q (L : RLim w p F R) (A : Away v F) : Away v [p] := fun b hb e => by simp at hb; subst hb; exact A _ L.mem e
/-- One round: the append, and the store of nil. -/
theorem RRdyAt.step {o : List Int} {k X : Nat} {v5 : Value} {w5 : World} (H : RRdyAt w p F R now v wr o R1 F1) (hop : R1.ropn now = some k) (U : Up wr w2) (E : RLimV w2 p F1 R1 V)
    (J5 : Ints w5 v5 (o ++ R1.L k)) (G5 : w2.grownBy w5 v.ownBlock) (A5 : v5.ownBlock = v.ownBlock ∨ v5.ownBlock = some w2.heap.size)
    (top : Whole (w5.setCell ⟨p, X, none⟩ (.slice none 0 0)) p 159 #[.int .i64 (R1.T 0), .int .i64 (R1.T 1), .int .i64 (R1.T 2), put V k (.slice none 0 0) 0, put V k (.slice none 0 0) 1, put V k (.slice none 0 0) 2, .int .i64 R1.last]) :
    ∃ F3, RRdyAt w p F R now v5 (w5.setCell ⟨p, X, none⟩ (.slice none 0 0)) (o ++ R1.L k) (R1.rclear k) F3 := by
  obtain ⟨_, _, hk, hl⟩ := Lb.ropn_some hop
  obtain ⟨e1, e2⟩ := Lb.router_some hop
  have hs := R1.size_rclear hk
  have u5 : Else v.ownBlock.toList w2 w5 := (Else.refl _ _).grown G5 (fun b hb => .inl (by simp [hb]))
  have E5 := E.else u5 (fun b hb hv => by simp at hv; exact H.away b hb hv)
  have u7 : Else [p] w5 (w5.setCell ⟨p, X, none⟩ (.slice none 0 0)) := (Else.refl _ _).set (.inl (by simp)) _
  obtain ⟨L7, N7, _, _⟩ := E5.swap (R' := R1.rclear k) hk u7 (Ints.nil _) (fresh_nil _) rfl top
  have av5 : Away v5 F1 := fun b hb e => by
    rcases A5 with h | h
    · exact H.away b hb (h ▸ e)
    · rw [e] at h; injection h with h
      have := E.lt b hb; omega
  have hsz := (H.els.up U).size
  have u25 : Else F w w5 := (H.els.up U).grown G5 (fun b hb => .inr (H.fresh b hb))
  refine ⟨_, ⟨_, L7⟩, J5.else u7 (fun b hb e => by simp at hb; subst hb; exact av5 _ E.mem e), fun b hb e => ?_, fun b hb => ?_, fun b hb => ?_, u25.trans (u7.more (fun b hb => by simp at hb; subst hb; exact H.mem)), ?_, ?_, ?_, H.mem⟩
  · have hb' : b ∈ F1 := by simp [Value.ownBlock] at hb; exact (mem_less.1 hb).1
    exact av5 b hb' e
  · have hb' : b ∈ F1 := by simp [Value.ownBlock] at hb; exact (mem_less.1 hb).1
    exact H.next b hb'
  · rcases A5 with h | h
    · exact H.fresh b (h ▸ hb)
    · rw [hb] at h; injection h with h; omega
  · rw [List.append_assoc, ← e1]; exact H.outs
  · rw [← e2]; exact H.rest
  · have := H.size; rw [List.length_append]; omega
set_option maxHeartbeats 8000000 in
theorem rlready_any (E : RLim w p F R) (hn2 : now < 9223372036854775808) (hs : R.size ≤ 8192) : Calls Tryz.prog 102 #[.pointer (some ⟨p, 0, none⟩), .int .i64 now] w fun e w' => ∃ o, e = .returned o ∧ RTook w w' p F (R.rremain now) (R.router now) o := by
  have HE := Lib.hid E
  clear E
  go_enter Tryz.func102, Tryz.ntmps102
  go_wp2_with fail
  go_loopw [5] (fun v wr => RRdyRel w p F R now v wr) (fun v _ => R.size - nOf v)
  case atStart => exact ⟨[], R, F, HE.out, Ints.nil _, fun b _ e => by simp [Value.ownBlock] at e, Next.refl _ _, fresh_nil _, Else.refl _ _, rfl, rfl, by simp, HE.out.mem⟩
  case round =>
    obtain ⟨o, R1, F1, H⟩ := hrel
    have HH := Lib.hid H
    obtain ⟨A, N, c, rfl⟩ := shapeI H.ints
    clear H
    rcases hop : R1.ropn now with _ | k
    · have HO := Lib.hid (show (R1.ropn now).isSome = false by rw [hop]; rfl)
      have HOP := Lib.hid hop
      clear hop
      go_wp2_with (go_at_call 131; refine (ropen_to HH.out.lim hn2 HO.out).mono ?_; rintro e w1 ⟨rfl, U1⟩; have HU1 := Lib.hid U1; clear U1)
      go_ret
      obtain ⟨e1, e2⟩ := Lb.router_none HOP.out
      have h1 := HH.out.outs
      have h2 := HH.out.rest
      rw [e1, List.append_nil] at h1
      rw [e2] at h2
      rw [← h1, ← h2]
      exact ⟨_, rfl, F1, HH.out.lim.up HU1.out, HH.out.ints.up HU1.out, HH.out.away, HH.out.next, fun b hb => .inr (HH.out.fresh b hb), HH.out.els.up HU1.out⟩
    · have HO := Lib.hid (show (R1.ropn now).isSome = true by rw [hop]; rfl)
      have HOP := Lib.hid hop
      obtain ⟨hn3, hto, hk, hl⟩ := Lb.ropn_some hop
      have HTO := Lib.hid hto
      have hsz := HH.out.size
      have HL := Lib.hid hl
      have HN := Lib.hid HH.out.ints.nOf
      have HLEN := Lib.hid (show o.length + (R1.L k).length ≤ 8192 by have : (R1.L k).length ≤ R1.size := Lb.len_le hk; omega)
      clear hop hto hl
      go_upto_region 4 with (first
        | (go_at_call 131; refine (ropen_to HH.out.lim hn2 HO.out).mono ?_; rintro e w1 ⟨rfl, U1⟩; have HU1 := Lib.hid U1; clear U1)
        | (go_at_call 132; refine (least_to (HH.out.lim.up HU1.out) hn3 hn2 HTO.out).mono ?_; rintro e w2 ⟨rfl, U2⟩; have HU2 := Lib.hid (HU1.out.trans U2); clear U2))
      obtain ⟨V, E2⟩ := HH.out.lim.up HU2.out
      obtain ⟨c0, c1, c2, c3, c4, c5, c6⟩ := E2.cells
      obtain ⟨A0, d0, A1, d1, A2, d2, v0, v1, v2⟩ := E2.slices
      have HE2 := Lib.hid E2
      have : k = 0 ∨ k = 1 ∨ k = 2 := by omega
      rcases this with rfl | rfl | rfl
      · rw [idx_0]
        have HZ := Lib.hid v0
        rw [v0] at c3
        obtain ⟨NK, hNK⟩ : ∃ n, (R1.L 0).length = n := ⟨_, rfl⟩
        have HNK := Lib.hid hNK
        rw [hNK] at c3 HZ
        have HNE := Lib.hid (show some p ≠ (Value.slice A N c).ownBlock from fun e => HH.out.away p E2.mem e.symm)
        have HRK := Lib.hid (show Rd w2 (.slice A0 NK d0) (R1.L 0) from HZ.out ▸ (E2.ints 0 (by decide)).rd)
        clear v0 v1 v2 E2 hNK
        go_wp2_with (first
          | (at_builtin; refine wpList_app rfl _ _ rfl rfl rfl (HH.out.ints.up HU2.out) HRK.out HLEN.out ?_; intro v5 w5 J5 G5 A5; obtain ⟨B5, N5, k5, rfl⟩ := shapeI J5; have HJ5 := Lib.hid J5; have HT5 := Lib.hid (HE2.out.top.grown G5 HNE.out); have y5 := HT5.out.cell (i := 3) rfl; have g5 := HT5.out.frozen 3; have HG5 := Lib.hid G5; have HA5 := Lib.hid A5; clear J5 G5 A5))
        obtain ⟨F3, HS⟩ := RRdyAt.step (k := 0) (X := 3) HH.out HOP.out HU2.out HE2.out HJ5.out HG5.out HA5.out (HT5.out.set 3 (.slice none 0 0))
        have HS := Lib.hid HS
        go_roundw
        case rel => exact ⟨_, _, _, HS.out⟩
        case measure =>
          have h5 := HJ5.out.nOf
          have h6 := HN.out
          have h7 := List.length_pos_iff.2 HL.out
          have h8 : (R1.L 0).length ≤ R1.size := Lb.len_le (by decide)
          rw [List.length_append] at h5
          simp only [nOf] at h5 h6 ⊢
          omega
      · rw [idx_1]
        have HZ := Lib.hid v1
        rw [v1] at c4
        obtain ⟨NK, hNK⟩ : ∃ n, (R1.L 1).length = n := ⟨_, rfl⟩
        have HNK := Lib.hid hNK
        rw [hNK] at c4 HZ
        have HNE := Lib.hid (show some p ≠ (Value.slice A N c).ownBlock from fun e => HH.out.away p E2.mem e.symm)
        have HRK := Lib.hid (show Rd w2 (.slice A1 NK d1) (R1.L 1) from HZ.out ▸ (E2.ints 1 (by decide)).rd)
        clear v0 v1 v2 E2 hNK
        go_wp2_with (first
          | (at_builtin; refine wpList_app rfl _ _ rfl rfl rfl (HH.out.ints.up HU2.out) HRK.out HLEN.out ?_; intro v5 w5 J5 G5 A5; obtain ⟨B5, N5, k5, rfl⟩ := shapeI J5; have HJ5 := Lib.hid J5; have HT5 := Lib.hid (HE2.out.top.grown G5 HNE.out); have y5 := HT5.out.cell (i := 4) rfl; have g5 := HT5.out.frozen 4; have HG5 := Lib.hid G5; have HA5 := Lib.hid A5; clear J5 G5 A5))
        obtain ⟨F3, HS⟩ := RRdyAt.step (k := 1) (X := 4) HH.out HOP.out HU2.out HE2.out HJ5.out HG5.out HA5.out (HT5.out.set 4 (.slice none 0 0))
        have HS := Lib.hid HS
        go_roundw
        case rel => exact ⟨_, _, _, HS.out⟩
        case measure =>
          have h5 := HJ5.out.nOf
          have h6 := HN.out
          have h7 := List.length_pos_iff.2 HL.out
          have h8 : (R1.L 1).length ≤ R1.size := Lb.len_le (by decide)
          rw [List.length_append] at h5
          simp only [nOf] at h5 h6 ⊢
          omega
      · rw [idx_2]
        have HZ := Lib.hid v2
        rw [v2] at c5
        obtain ⟨NK, hNK⟩ : ∃ n, (R1.L 2).length = n := ⟨_, rfl⟩
        have HNK := Lib.hid hNK
        rw [hNK] at c5 HZ
        have HNE := Lib.hid (show some p ≠ (Value.slice A N c).ownBlock from fun e => HH.out.away p E2.mem e.symm)
        have HRK := Lib.hid (show Rd w2 (.slice A2 NK d2) (R1.L 2) from HZ.out ▸ (E2.ints 2 (by decide)).rd)
        clear v0 v1 v2 E2 hNK
        go_wp2_with (first
          | (at_builtin; refine wpList_app rfl _ _ rfl rfl rfl (HH.out.ints.up HU2.out) HRK.out HLEN.out ?_; intro v5 w5 J5 G5 A5; obtain ⟨B5, N5, k5, rfl⟩ := shapeI J5; have HJ5 := Lib.hid J5; have HT5 := Lib.hid (HE2.out.top.grown G5 HNE.out); have y5 := HT5.out.cell (i := 5) rfl; have g5 := HT5.out.frozen 5; have HG5 := Lib.hid G5; have HA5 := Lib.hid A5; clear J5 G5 A5))
        obtain ⟨F3, HS⟩ := RRdyAt.step (k := 2) (X := 5) HH.out HOP.out HU2.out HE2.out HJ5.out HG5.out HA5.out (HT5.out.set 5 (.slice none 0 0))
        have HS := Lib.hid HS
        go_roundw
        case rel => exact ⟨_, _, _, HS.out⟩
        case measure =>
          have h5 := HJ5.out.nOf
          have h6 := HN.out
          have h7 := List.length_pos_iff.2 HL.out
          have h8 : (R1.L 2).length ≤ R1.size := Lb.len_le (by decide)
          rw [List.length_append] at h5
          simp only [nOf] at h5 h6 ⊢
          omega
end
end Go.Proofs.YtkopplnjomkleaaGreat

/-
  The reference's supply of a worker (RSu): a stash, a limbo, all its blocks among F; Ready, Retire.
-/
namespace Go.Proofs.YtkopplnjomkleaaGreat
open Go.RowKit
set_option maxRecDepth 100000
set_option linter.unusedSimpArgs false
structure RSuV (w : World) (b k qs ql : Nat) (F : List Nat) (m : Int) (st : List Int) (R : Lb) (Fs Fl : List Nat) : Prop where
  obj : Whole w b 98 #[.pointer (some ⟨k, 0, none⟩), .pointer (some ⟨qs, 0, none⟩), .pointer (some ⟨ql, 0, none⟩)]
  sta : Sta 104 w qs Fs m st
  lim : RLim w ql Fl R
  sF : ∀ x ∈ Fs, x ∈ F
  lF : ∀ x ∈ Fl, x ∈ F
  dis : ∀ x ∈ Fs, x ∉ Fl
  bs : b ∉ Fs
  bl : b ∉ Fl
  bF : b ∈ F
  lt : ∀ x ∈ F, x < w.heap.size
/-- The document's supply lies at b, over W at k; its stash has at most m ahead of Over, the items st; its limbo is R; all its blocks are among F. -/
def RSu (w : World) (b k qs ql : Nat) (F : List Nat) (m : Int) (st : List Int) (R : Lb) : Prop := ∃ Fs Fl, RSuV w b k qs ql F m st R Fs Fl
section
variable {w w1 w' : World} {b k qs ql : Nat} {F Fs Fl : List Nat} {m now tag : Int} {st st' xs : List Int} {R R' : Lb} {o v : Value}
theorem RSuV.up (E : RSuV w b k qs ql F m st R Fs Fl) (u : Up w w') : RSuV w' b k qs ql F m st R Fs Fl := ⟨E.obj.up u, E.sta.up u, E.lim.up u, E.sF, E.lF, E.dis, E.bs, E.bl, E.bF, fun x hx => Nat.lt_of_lt_of_le (E.lt x hx) u.size⟩
theorem RSuV.else (E : RSuV w b k qs ql F m st R Fs Fl) {l : List Nat} (u : Else l w w') (h : ∀ x ∈ F, x ∉ l) : RSuV w' b k qs ql F m st R Fs Fl :=
  ⟨u.whole E.obj (h b E.bF), E.sta.else u (fun x hx => h x (E.sF x hx)), E.lim.else u (fun x hx => h x (E.lF x hx)), E.sF, E.lF, E.dis, E.bs, E.bl, E.bF, fun x hx => Nat.lt_of_lt_of_le (E.lt x hx) u.size⟩
theorem RSu.up (E : RSu w b k qs ql F m st R) (u : Up w w') : RSu w' b k qs ql F m st R := by obtain ⟨Fs, Fl, E⟩ := E; exact ⟨Fs, Fl, E.up u⟩
theorem RSu.else (E : RSu w b k qs ql F m st R) {l : List Nat} (u : Else l w w') (h : ∀ x ∈ F, x ∉ l) : RSu w' b k qs ql F m st R := by obtain ⟨Fs, Fl, E⟩ := E; exact ⟨Fs, Fl, E.else u h⟩
theorem RSuV.cells (E : RSuV w b k qs ql F m st R Fs Fl) (u : Up w w') : w'.cell? ⟨b, 0, none⟩ = some (.pointer (some ⟨k, 0, none⟩)) ∧ w'.cell? ⟨b, 1, none⟩ = some (.pointer (some ⟨qs, 0, none⟩)) ∧ w'.cell? ⟨b, 2, none⟩ = some (.pointer (some ⟨ql, 0, none⟩)) := ⟨u.kept (E.obj.cell rfl), u.kept (E.obj.cell rfl), u.kept (E.obj.cell rfl)⟩
theorem RSu.cells (E : RSu w b k qs ql F m st R) : w.cell? ⟨b, 0, none⟩ = some (.pointer (some ⟨k, 0, none⟩)) ∧ w.cell? ⟨b, 1, none⟩ = some (.pointer (some ⟨qs, 0, none⟩)) ∧ w.cell? ⟨b, 2, none⟩ = some (.pointer (some ⟨ql, 0, none⟩)) := by obtain ⟨Fs, Fl, E⟩ := E; exact E.cells (Up.refl _)
/-- The stash is turned. -/
theorem RSuV.sgave (E : RSuV w b k qs ql F m st R Fs Fl) (G : SGave 104 w w' qs Fs m st') : Turned w w' F fun F' => RSu w' b k qs ql F' m st' R := by
  obtain ⟨Fs', S', N, X⟩ := G
  have d' := next_apart N E.dis (fun x hx => E.lt x (E.lF x hx))
  have b' : b ∉ Fs' := fun h => by
    rcases N b h with h | h
    · exact E.bs h
    · have := E.lt b E.bF; omega
  refine ⟨b :: (Fs' ++ Fl), ⟨Fs', Fl, X.whole E.obj E.bs, S', E.lim.else X (fun x hx h => E.dis x h hx), by simp; intro x hx; simp [hx], by simp; intro x hx; simp [hx], d', b', E.bl, by simp, ?_⟩, ?_, X.more E.sF⟩
  · intro x hx
    simp at hx
    rcases hx with rfl | hx | hx
    · exact Nat.lt_of_lt_of_le (E.lt _ E.bF) X.size
    · exact S'.lt x hx
    · exact Nat.lt_of_lt_of_le (E.lt x (E.lF x hx)) X.size
  · intro x hx
    simp at hx
    rcases hx with rfl | hx | hx
    · exact .inl E.bF
    · exact (N x hx).imp (E.sF x) id
    · exact .inl (E.lF x hx)
/-- The stash is turned, and handed something out. -/
theorem RSuV.stook (E : RSuV w b k qs ql F m st R Fs Fl) (T : STook 104 w w' qs Fs m st' o xs) : Turned w w' F fun F' => RSu w' b k qs ql F' m st' R ∧ Rd w' o xs ∧ Away o F' ∧ (∀ x, o.ownBlock = some x → x ∈ F ∨ w.heap.size ≤ x) := by
  obtain ⟨Fs', S', Ro, Ao, N, O, X⟩ := T
  have d' := next_apart N E.dis (fun x hx => E.lt x (E.lF x hx))
  have b' : b ∉ Fs' := fun h => by
    rcases N b h with h | h
    · exact E.bs h
    · have := E.lt b E.bF; omega
  refine ⟨b :: (Fs' ++ Fl), ⟨⟨Fs', Fl, X.whole E.obj E.bs, S', E.lim.else X (fun x hx h => E.dis x h hx), by simp; intro x hx; simp [hx], by simp; intro x hx; simp [hx], d', b', E.bl, by simp, ?_⟩, Ro, ?_, fun x hx => (O x hx).imp (E.sF x) id⟩, ?_, X.more E.sF⟩
  · intro x hx
    simp at hx
    rcases hx with rfl | hx | hx
    · exact Nat.lt_of_lt_of_le (E.lt _ E.bF) X.size
    · exact S'.lt x hx
    · exact Nat.lt_of_lt_of_le (E.lt x (E.lF x hx)) X.size
  · intro x hx e
    simp at hx
    rcases hx with rfl | hx | hx
    · rcases O _ e with h | h
      · exact E.bs h
      · have := E.lt _ E.bF; omega
    · exact Ao x hx e
    · rcases O _ e with h | h
      · exact E.dis x h hx
      · have := E.lt x (E.lF x hx); omega
  · intro x hx
    simp at hx
    rcases hx with rfl | hx | hx
    · exact .inl E.bF
    · exact (N x hx).imp (E.sF x) id
    · exact .inl (E.lF x hx)
/-- The limbo is turned, and handed something out. -/
theorem RSuV.ltook (E : RSuV w b k qs ql F m st R Fs Fl) (T : RTook w w' ql Fl R' xs o) : Turned w w' F fun F' => RSu w' b k qs ql F' m st R' ∧ Ints w' o xs ∧ Away o F' ∧ (∀ x, o.ownBlock = some x → x ∈ F ∨ w.heap.size ≤ x) := by
  obtain ⟨Fl', L', Jo, Ao, N, O, X⟩ := T
  have d' := next_apart N (fun x hx h => E.dis x h hx) (fun x hx => E.lt x (E.sF x hx))
  have b' : b ∉ Fl' := fun h => by
    rcases N b h with h | h
    · exact E.bl h
    · have := E.lt b E.bF; omega
  refine ⟨b :: (Fs ++ Fl'), ⟨⟨Fs, Fl', X.whole E.obj E.bl, E.sta.else X (fun x hx h => E.dis x hx h), L', by simp; intro x hx; simp [hx], by simp; intro x hx; simp [hx], fun x hx h => d' x h hx, E.bs, b', by simp, ?_⟩, Jo, ?_, fun x hx => (O x hx).imp (E.lF x) id⟩, ?_, X.more E.lF⟩
  · intro x hx
    simp at hx
    rcases hx with rfl | hx | hx
    · exact Nat.lt_of_lt_of_le (E.lt _ E.bF) X.size
    · exact Nat.lt_of_lt_of_le (E.lt x (E.sF x hx)) X.size
    · exact L'.lt x hx
  · intro x hx e
    simp at hx
    rcases hx with rfl | hx | hx
    · rcases O _ e with h | h
      · exact E.bl h
      · have := E.lt _ E.bF; omega
    · rcases O _ e with h | h
      · exact E.dis x hx h
      · have := E.lt x (E.sF x hx); omega
    · exact Ao x hx e
  · intro x hx
    simp at hx
    rcases hx with rfl | hx | hx
    · exact .inl E.bF
    · exact .inl (E.sF x hx)
    · exact (N x hx).imp (E.lF x) id
/-- A Give to the stash. -/
theorem rsuGive (E : RSu w b k qs ql F m st R) (Ro : Rd w o xs) (hl : st.length + xs.length ≤ 8192) :
    Calls Tryz.prog 44 #[.pointer (some ⟨qs, 0, none⟩), o] w fun e w' => e = .returned (.tuple #[]) ∧ Turned w w' F fun F' => RSu w' b k qs ql F' m (st ++ xs) R := by
  obtain ⟨Fs, Fl, E⟩ := E
  exact (rsgive_any E.sta Ro hl).mono fun e w' ⟨he, G⟩ => ⟨he, E.sgave G⟩
theorem rsuReadyL (E : RSu w b k qs ql F m st R) (hn : now < 9223372036854775808) (hs : R.size ≤ 8192) :
    Calls Tryz.prog 102 #[.pointer (some ⟨ql, 0, none⟩), .int .i64 now] w fun e w' => ∃ o, e = .returned o ∧ Turned w w' F fun F' => RSu w' b k qs ql F' m st (R.rremain now) ∧ Ints w' o (R.router now) ∧ Away o F' ∧ (∀ x, o.ownBlock = some x → x ∈ F ∨ w.heap.size ≤ x) := by
  obtain ⟨Fs, Fl, E⟩ := E
  exact (rlready_any E.lim hn hs).mono fun e w' ⟨o, he, T⟩ => ⟨o, he, E.ltook T⟩
set_option maxHeartbeats 2000000 in
theorem rsuReady (E : RSu w b k qs ql F m st R) (hn : now < 9223372036854775808) (hs : R.size ≤ 8000) (hl : st.length + (R.router now).length ≤ 8192) {d : Nat} (hd : (R.router now).length = d) :
    Calls Tryz.prog 50 #[.pointer (some ⟨b, 0, none⟩), .int .i64 now] w fun e w' => e = .returned (.int .i64 (d : Nat)) ∧ Turned w w' F fun F' => RSu w' b k qs ql F' m (st ++ R.router now) (R.rremain now) := by
  obtain ⟨c0, c1, c2⟩ := E.cells
  have HL := Lib.hid (rsuReadyL E hn (by omega))
  have HLL := Lib.hid hl
  have HD := Lib.hid hd
  clear E hn hs hl hd
  go_enter Tryz.func50, Tryz.ntmps50
  go_upto_region 2 with (go_at_call 102; (with_reducible refine HL.out.mono ?_); rintro e w1 ⟨o, rfl, F1, ⟨E1, J1, A1, O1⟩, N1, X1⟩; obtain ⟨Ao, co, rfl⟩ := J1.slice; have HE1 := Lib.hid E1; have HJ1 := Lib.hid J1; have HN1 := Lib.hid (And.intro N1 X1); clear E1 J1 A1 O1 N1 X1)
  clear c0 c1 c2
  rw [HD.out]
  rw [HD.out] at HJ1
  obtain ⟨c0, c1, c2⟩ := HE1.out.cells
  go_wp2_with (go_at_call 44; (with_reducible refine (rsuGive HE1.out HJ1.out.rd HLL.out).mono ?_); rintro e w2 ⟨rfl, T2⟩; have HT2 := Lib.hid T2; clear T2)
  go_ret
  exact ⟨rfl, Turned.trans HN1.out.1 HN1.out.2 HT2.out⟩
theorem rsuRetireL (E : RSu w b k qs ql F m st R) (Rv : Rd w v xs) (Av : Away v F) (h0 : xs ≠ []) (h1 : 0 ≤ tag ∧ R.last ≤ tag) (h2 : tag ≤ 4611686018427387903) {kk : Nat} (hk : tag % 3 = kk) (hs : R.size + xs.length ≤ 8192) :
    Calls Tryz.prog 99 #[.pointer (some ⟨ql, 0, none⟩), .int .i64 tag, v] w fun e w' => ∃ o, e = .returned (.tuple #[o, .bool true]) ∧ Turned w w' F fun F' => RSu w' b k qs ql F' m st (R.rretire kk tag xs) ∧ Ints w' o (R.rtaken kk tag) ∧ Away o F' ∧ (∀ x, o.ownBlock = some x → x ∈ F ∨ w.heap.size ≤ x) := by
  obtain ⟨Fs, Fl, E⟩ := E
  exact (rlretire_yes E.lim Rv (fun x hx => Av x (E.lF x hx)) h0 h1 h2 hk hs).mono fun e w' ⟨o, he, T⟩ => ⟨o, he, E.ltook T⟩
set_option maxHeartbeats 2000000 in
theorem rsuRetire (E : RSu w b k qs ql F m st R) (Rv : Rd w v xs) (Av : Away v F) (h0 : xs ≠ []) (h1 : 0 ≤ tag ∧ R.last ≤ tag) (h2 : tag ≤ 4611686018427387903) {kk : Nat} (hk : tag % 3 = kk) (hs : R.size + xs.length ≤ 8000) (hl : st.length + (R.rtaken kk tag).length ≤ 8192) :
    Calls Tryz.prog 46 #[.pointer (some ⟨b, 0, none⟩), .int .i64 tag, v] w fun e w' => e = .returned (.bool true) ∧ Turned w w' F fun F' => RSu w' b k qs ql F' m (st ++ R.rtaken kk tag) (R.rretire kk tag xs) := by
  obtain ⟨c0, c1, c2⟩ := E.cells
  have HL := Lib.hid (rsuRetireL E Rv Av h0 h1 h2 hk (by omega))
  have HLL := Lib.hid hl
  obtain ⟨Av', cv, rfl⟩ := Rv.slice
  clear E h0 h1 h2 hk hs hl Rv Av
  go_enter Tryz.func46, Tryz.ntmps46
  go_upto_region 2 with (go_at_call 99; (with_reducible refine HL.out.mono ?_); rintro e w1 ⟨o, rfl, F1, ⟨E1, J1, A1, O1⟩, N1, X1⟩; obtain ⟨Ao, No, co, rfl⟩ := shapeI J1; have HE1 := Lib.hid E1; have HJ1 := Lib.hid J1; have HN1 := Lib.hid (And.intro N1 X1); clear E1 J1 A1 O1 N1 X1)
  clear c0 c1 c2
  obtain ⟨c0, c1, c2⟩ := HE1.out.cells
  go_wp2_with (go_at_call 44; (with_reducible refine (rsuGive HE1.out HJ1.out.rd HLL.out).mono ?_); rintro e w2 ⟨rfl, T2⟩; have HT2 := Lib.hid T2; clear T2)
  go_ret
  exact ⟨rfl, Turned.trans HN1.out.1 HN1.out.2 HT2.out⟩
theorem rsuRetireN (E : RSu w b k qs ql F m st R) (Rv : Rd w v xs) (h : ¬ (xs ≠ [] ∧ (0 ≤ tag ∧ R.last ≤ tag) ∧ tag ≤ 4611686018427387903)) :
    Calls Tryz.prog 99 #[.pointer (some ⟨ql, 0, none⟩), .int .i64 tag, v] w fun e w' => e = .returned (.tuple #[.slice none 0 0, .bool false]) ∧ w = w' := by
  obtain ⟨Fs, Fl, E⟩ := E
  exact rlretire_no E.lim Rv h
set_option maxHeartbeats 2000000 in
theorem rsuRetire_no (E : RSu w b k qs ql F m st R) (Rv : Rd w v xs) (h : ¬ (xs ≠ [] ∧ (0 ≤ tag ∧ R.last ≤ tag) ∧ tag ≤ 4611686018427387903)) (hl : st.length ≤ 8192) :
    Calls Tryz.prog 46 #[.pointer (some ⟨b, 0, none⟩), .int .i64 tag, v] w fun e w' => e = .returned (.bool false) ∧ Turned w w' F fun F' => RSu w' b k qs ql F' m st R := by
  obtain ⟨c0, c1, c2⟩ := E.cells
  have HL := Lib.hid (rsuRetireN E Rv h)
  have HG := Lib.hid (rsuGive E (Rd.nil w) (by simpa using hl))
  obtain ⟨Av', cv, rfl⟩ := Rv.slice
  clear E h hl Rv
  go_enter Tryz.func46, Tryz.ntmps46
  go_wp2_with (first
    | (go_at_call 99; (with_reducible refine HL.out.mono ?_); rintro e w1 ⟨rfl, rfl⟩)
    | (go_at_call 44; (with_reducible refine HG.out.mono ?_); rintro e w2 ⟨rfl, T2⟩; have HT2 := Lib.hid T2; clear T2))
  go_ret
  exact ⟨rfl, HT2.out.imp fun F' h => by simpa using h⟩
end
end Go.Proofs.YtkopplnjomkleaaGreat

/-
  Package chain: a Walk (WkM: it lies at b, its chunks in v), each access of it as plain data (Wk.go); it begins; its List; where it is refused.
-/
namespace Go.Proofs.YtkopplnjomkleaaGreat
open Go.RowKit
open W64
set_option maxRecDepth 100000
/-- What is behind the last one of L; -1: none. -/
def lastN (n lk : Nat) (xs : List Int) (L : List Nat) : Int := belowN n (xs.getD (lk + L.getLastD 0) 0)
/-- One access of a Walk whose chunks so far are L. -/
def wkEnd (n lk : Nat) (xs : List Int) (L : List Nat) : Bool := decide (lastN n lk xs L = -1 ∨ L.length = n)
def wkGo (n lk : Nat) (xs : List Int) (L : List Nat) : List Nat := if wkEnd n lk xs L = true then L else L ++ [(lastN n lk xs L).toNat]
/-- What a list so far is of the whole S, while the Walk goes on. -/
structure WkInv (n lk : Nat) (xs : List Int) (S L : List Nat) : Prop where
  ne : L ≠ []
  le : L.length ≤ n
  all : ∀ x ∈ L, x < n
  eq : L ++ walkL n lk xs (n - L.length) (lastN n lk xs L) = S
section
variable {n lk k : Nat} {xs : List Int} {S L : List Nat}
theorem getLastD_app (L : List Nat) (x : Nat) : (L ++ [x]).getLastD 0 = x := by simp [List.getLastD_eq_getLast?]
theorem last_in (h : L ≠ []) (ha : ∀ x ∈ L, x < n) : L.getLastD 0 < n := by
  obtain ⟨T, x, rfl⟩ : ∃ T x, L = T ++ [x] := ⟨L.dropLast, L.getLast h, (List.dropLast_concat_getLast h).symm⟩
  rw [getLastD_app]
  exact ha x (by simp)
theorem last_get (h : L ≠ []) : (I L).getD (L.length - 1) 0 = (L.getLastD 0 : Nat) := by
  obtain ⟨T, x, rfl⟩ : ∃ T x, L = T ++ [x] := ⟨L.dropLast, L.getLast h, (List.dropLast_concat_getLast h).symm⟩
  rw [getLastD_app]
  simp [I, List.getD]
theorem lastN_in (hn : 1 ≤ n) (hw : ∀ i, 0 ≤ xs.getD i 0) : -1 ≤ lastN n lk xs L ∧ lastN n lk xs L < n := belowN_in (hw _) hn
theorem WkInv.start (hk : k < n) : WkInv n lk xs (walkL n lk xs n (k : Int)) [k] := by
  refine ⟨by simp, by simp; omega, by simp [hk], ?_⟩
  obtain ⟨f, rfl⟩ : ∃ f, n = f + 1 := ⟨n - 1, by omega⟩
  rw [walkL_nat]
  simp [lastN]
theorem WkInv.done (H : WkInv n lk xs S L) (h : wkEnd n lk xs L = true) : L = S := by
  unfold wkEnd at h
  simp only [decide_eq_true_eq] at h
  refine walk_end H.eq ?_
  rcases h with h | h
  · exact .inl (by omega)
  · exact .inr (by omega)
theorem WkInv.goes (H : WkInv n lk xs S L) (hw : ∀ i, 0 ≤ xs.getD i 0) (h : wkEnd n lk xs L = false) : WkInv n lk xs S (wkGo n lk xs L) ∧ (wkGo n lk xs L).length = L.length + 1 := by
  have hn : 1 ≤ n := by
    have := List.length_pos_iff.2 H.ne
    have := H.le
    omega
  obtain ⟨i0, i1⟩ := lastN_in (lk := lk) (L := L) hn hw
  have e : wkGo n lk xs L = L ++ [(lastN n lk xs L).toNat] := by unfold wkGo; rw [if_neg (by simp [h])]
  unfold wkEnd at h
  simp only [decide_eq_false_iff_not, not_or] at h
  have hl := H.le
  obtain ⟨j, hj⟩ : ∃ j : Nat, lastN n lk xs L = j := ⟨(lastN n lk xs L).toNat, by omega⟩
  have E := H.eq
  rw [e]
  rw [hj] at E i1 ⊢
  rw [Int.toNat_natCast]
  have hm := walk_more E (by omega)
  refine ⟨⟨by simp, by simp; omega, ?_, ?_⟩, by simp⟩
  · intro x hx
    rcases List.mem_append.1 hx with hx | hx
    · exact H.all x hx
    · simp at hx; omega
  · unfold lastN
    rw [getLastD_app]
    exact hm
theorem WkInv.len (H : WkInv n lk xs S L) (h : wkEnd n lk xs L = true) : L.length = S.length := by rw [H.done h]
end
section
variable {w0 w w' : World} {q p g qs lk n b : Nat} {c : Cf} {s s' : St} {v : Value} {L : List Nat} {fin : Bool}
/-- The blocks that a Walk turns. -/
def wkOwn (b p g : Nat) (v : Value) : List Nat := b :: p :: g :: blk v
variable {nx : Value}
theorem ints_last {A : Option Addr} {N cp : Nat} (J : Ints w (.slice A N cp) (I L)) (hL : L ≠ []) : ∃ r, A = some ⟨r, 0, none⟩ ∧ N = L.length ∧ w.cell? ⟨r, N - 1, none⟩ = some (.int .i64 (L.getLastD 0 : Nat)) := by
  obtain ⟨A', cp', e⟩ := J.slice
  injection e with e1 e2 e3
  subst e1 e2 e3
  have hp := List.length_pos_iff.2 hL
  have hl := I_len L
  obtain ⟨r, e, hc⟩ := own_cell (j := (I L).length - 1) J (by omega)
  refine ⟨r, e, hl, ?_⟩
  rw [hc, ← last_get hL, hl]
  have hj : L.length - 1 < (I L).length := by omega
  simp [List.getD, hj]
end
end Go.Proofs.YtkopplnjomkleaaGreat

/-
  The reference's chains over its memory (RP): Set, Walk, Behind.
-/
namespace Go.Proofs.YtkopplnjomkleaaGreat
open Go.RowKit
open W64
set_option maxRecDepth 100000
set_option linter.unusedSimpArgs false
/-- The document's W lies at k, over the memory at p (its cells at g), its pool at qp; the links begin at lk; n chunks. -/
structure RP (w : World) (k p g qp qs qe : Nat) (c : Cf) (lk n : Nat) (xs : List Int) (cnt : Int) : Prop where
  obj : Whole w k 57 #[.int .i64 c.wk, .int .i64 c.ch, .int .i64 c.wo, .int .i64 c.sl, .int .i64 c.ca, .int .i64 c.ba, .pointer (some ⟨p, 0, none⟩), .pointer (some ⟨qp, 0, none⟩), .pointer (some ⟨qs, 0, none⟩), .pointer (some ⟨qe, 0, none⟩)]
  env : REnv w p g qp 0 lk n xs cnt
  may : mayB c = true
  hk : (lk : Int) = 3 + c.wk + 2 * c.sl
  hn : (n : Int) = c.ch
section
variable {w0 w w' : World} {k p g qp qs qe lk n b : Nat} {c : Cf} {xs xs' : List Int} {cnt cnt' : Int} {v : Value} {L : List Nat} {fin : Bool}
theorem RP.kp (R : RP w k p g qp qs qe c lk n xs cnt) : k ≠ p := R.obj.ne_type R.env.mem.top (by decide)
theorem RP.kg (R : RP w k p g qp qs qe c lk n xs cnt) : k ≠ g := R.obj.ne_type R.env.mem.row (by decide)
theorem RP.turn (R : RP w k p g qp qs qe c lk n xs cnt) (m : Ref w' p g xs' cnt') {x : List Nat} (u : Else x w w') (h1 : k ∉ x) (h2 : qp ∉ x) (ok : Words xs') (hl : xs'.length = xs.length) : RP w' k p g qp qs qe c lk n xs' cnt' :=
  ⟨u.whole R.obj h1, R.env.turn m u h2 ok hl, R.may, R.hk, R.hn⟩
theorem RP.else (R : RP w k p g qp qs qe c lk n xs cnt) {x : List Nat} (u : Else x w w') (h : p ∉ x ∧ g ∉ x ∧ qp ∉ x ∧ k ∉ x) : RP w' k p g qp qs qe c lk n xs cnt :=
  ⟨u.whole R.obj h.2.2.2, R.env.else u h.1 h.2.1 h.2.2.1, R.may, R.hk, R.hn⟩
theorem RP.up (R : RP w k p g qp qs qe c lk n xs cnt) (u : Up w w') : RP w' k p g qp qs qe c lk n xs cnt := ⟨R.obj.up u, R.env.up u, R.may, R.hk, R.hn⟩
theorem RP.at (R : RP w k p g qp qs qe c lk n xs cnt) {i : Nat} (h : i < n) : llinkN c (i : Int) = ((lk + i : Nat) : Int) ∧ lk + i < xs.length := by
  have h1 := R.hk
  have h2 := R.hn
  have h3 := R.env.hl
  refine ⟨?_, by omega⟩
  unfold llinkN
  rw [atN_is R.may (by omega) (by omega)]
  omega
theorem RP.nn (R : RP w k p g qp qs qe c lk n xs cnt) : 6 ≤ lk ∧ 1 ≤ n ∧ n ≤ 4096 ∧ xs.length ≤ 8388608 := by
  have h1 := R.hk
  obtain ⟨h2, _, _, h3, _⟩ := may_small R.may
  exact ⟨by omega, R.env.n0, R.env.n1, R.env.top⟩
theorem RP.cells (R : RP w k p g qp qs qe c lk n xs cnt) (u : Up w w') : w'.cell? ⟨k, 0, none⟩ = some (.int .i64 c.wk) ∧ w'.cell? ⟨k, 1, none⟩ = some (.int .i64 c.ch) ∧ w'.cell? ⟨k, 2, none⟩ = some (.int .i64 c.wo) ∧ w'.cell? ⟨k, 3, none⟩ = some (.int .i64 c.sl) ∧ w'.cell? ⟨k, 4, none⟩ = some (.int .i64 c.ca) ∧ w'.cell? ⟨k, 5, none⟩ = some (.int .i64 c.ba) ∧ w'.cell? ⟨k, 6, none⟩ = some (.pointer (some ⟨p, 0, none⟩)) ∧ w'.cell? ⟨k, 7, none⟩ = some (.pointer (some ⟨qp, 0, none⟩)) :=
  ⟨u.kept (R.obj.cell rfl), u.kept (R.obj.cell rfl), u.kept (R.obj.cell rfl), u.kept (R.obj.cell rfl), u.kept (R.obj.cell rfl), u.kept (R.obj.cell rfl), u.kept (R.obj.cell rfl), u.kept (R.obj.cell rfl)⟩
theorem rstorec_to {a y : Int} {j : Nat} (ha : a = (j : Int)) (m : Ref w p g xs cnt) (h : j < xs.length) :
    Calls Tryz.prog 126 #[.pointer (some ⟨p, 0, none⟩), .int .i64 a, .int .u64 y] w fun e w' => e = .returned (.tuple #[]) ∧ Ref w' p g (xs.set j y) (wrap64 (cnt + 1)) ∧ Else [p, g] w w' := by
  subst ha; exact rstore_in y m h
/-! ### A Set -/
def rseRow (k : Nat) (chunk bh : Int) (fin : Bool) : Array Value := #[.pointer (some ⟨k, 0, none⟩), .int .i64 chunk, .int .i64 bh, .bool fin]
variable {rb : Array Value}
end
end Go.Proofs.YtkopplnjomkleaaGreat
