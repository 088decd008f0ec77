/-
  Texts beneath SupplyAll, part 4: Limbo7.
-/
import Derived.Test.YtkopplnjomkleaaGreatPart3
/-
  Package limbo: the contract of Retire.
-/
namespace Go.Proofs.YtkopplnjomkleaaGreat
open Go.RowKit
set_option maxRecDepth 100000
section
variable {w w1 w2 w3 w4 w' : World} {q : Nat} {F F2 : List Nat} {S : Lb} {V : Nat → Value} {v : Value} {tag : Int} {items : List Int}
def Lb.setLast (S : Lb) (tag : Int) : Lb := ⟨S.T, S.L, tag⟩
theorem LimV.setLast (E : LimV w q F S V) (h1 : S.last ≤ tag) (h2 : tag ≤ 4611686018427387903) : LimV (w.setCell ⟨q, 6, none⟩ (.int .i64 tag)) q F (S.setLast tag) V := by
  have u : Else [q] w (w.setCell ⟨q, 6, none⟩ (.int .i64 tag)) := (Else.refl _ _).set (.inl (by simp)) _
  refine ⟨E.top.set 6 (.int .i64 tag), fun k hk => (E.ints k hk).else u (fun b hb e => by simp at hb; subst hb; exact E.nq k hk e), E.mem, E.inF, E.nq, E.dis, fun b hb => Nat.lt_of_lt_of_le (E.lt b hb) u.size, ?_⟩
  exact ⟨E.ok.lo, fun k hk => Int.le_trans (E.ok.hi k hk) h1, h2, E.ok.nil, E.ok.res⟩
/-- Behind the two stores and the append. -/
theorem LimV.added (E : LimV w q F S V) {k : Nat} (hk : k < 3) (h1 : S.last = tag) (h2 : tag ≤ 4611686018427387903) (hr : tag % 3 = k) (hx : items ≠ []) {v' : Value}
    (g : (w.setCell ⟨q, 2 * k, none⟩ (.int .i64 tag)).grownBy w4 (V k).ownBlock) (J : Ints w4 v' (S.L k ++ items)) (hv : v'.ownBlock = (V k).ownBlock ∨ v'.ownBlock = some (w.setCell ⟨q, 2 * k, none⟩ (.int .i64 tag)).heap.size)
    (top : Whole (w4.setCell ⟨q, 2 * k + 1, none⟩ v') q 174 #[.int .i64 ((S.add k tag items).T 0), put V k v' 0, .int .i64 ((S.add k tag items).T 1), put V k v' 1, .int .i64 ((S.add k tag items).T 2), put V k v' 2, .int .i64 tag]) :
    ∃ F', LimV (w4.setCell ⟨q, 2 * k + 1, none⟩ v') q F' (S.add k tag items) (put V k v') ∧ Next w F F' ∧ Else F w (w4.setCell ⟨q, 2 * k + 1, none⟩ v') := by
  have hz : (w.setCell ⟨q, 2 * k, none⟩ (.int .i64 tag)).heap.size = w.heap.size := by simp
  rw [hz] at hv
  have u3 : Else [q] w (w.setCell ⟨q, 2 * k, none⟩ (.int .i64 tag)) := (Else.refl _ _).set (.inl (by simp)) _
  have hq := E.lt q E.mem
  have v'q : v'.ownBlock ≠ some q := by
    rcases hv with h | h
    · rw [h]; exact E.nq k hk
    · rw [h]; intro e; injection e with e; omega
  have u5 : Else [q] w4 (w4.setCell ⟨q, 2 * k + 1, none⟩ v') := (Else.refl _ _).set (.inl (by simp)) _
  have uall : Else F w (w4.setCell ⟨q, 2 * k + 1, none⟩ v') :=
    ((u3.more (fun b hb => by simp at hb; subst hb; exact E.mem)).grown g (fun b hb => .inl (E.inF k hk b hb))).trans (u5.more (fun b hb => by simp at hb; subst hb; exact E.mem))
  have hsz := uall.size
  have nb : ∀ b, v'.ownBlock = some b → b ∈ F ∨ b = w.heap.size := by
    intro b hb
    rcases hv with h | h
    · exact .inl (E.inF k hk b (h ▸ hb))
    · rw [hb] at h; injection h with h; exact .inr h
  have oi : ∀ j, j < 3 → j ≠ k → Ints (w4.setCell ⟨q, 2 * k + 1, none⟩ v') (V j) (S.L j) := by
    intro j hj hjk
    refine Ints.else (Ints.grown ((E.ints j hj).else u3 (fun b hb e => by simp at hb; subst hb; exact E.nq j hj e)) g ?_) u5 (fun b hb e => by simp at hb; subst hb; exact E.nq j hj e)
    rcases ho : (V j).ownBlock with _ | b
    · exact .inr rfl
    · exact .inl (E.dis j k hj hk hjk b ho)
  have J5 : Ints (w4.setCell ⟨q, 2 * k + 1, none⟩ v') v' (S.L k ++ items) := J.else u5 (fun b hb e => by simp at hb; subst hb; exact v'q e)
  have nd : ∀ j, j < 3 → j ≠ k → ∀ b, (V j).ownBlock = some b → v'.ownBlock ≠ some b := by
    intro j hj hjk b hb e
    rcases hv with h | h
    · exact E.dis j k hj hk hjk b hb (h ▸ e)
    · rw [e] at h; injection h with h
      have := E.lt b (E.inF j hj b hb); omega
  refine ⟨v'.ownBlock.toList ++ F, ⟨top, fun j hj => ?_, by simp [E.mem], fun j hj b hb => ?_, fun j hj hb => ?_, fun i j hi hj hij b hb hb2 => ?_, fun b hb => ?_, E.ok.add (Int.le_of_eq h1) h2 hr hx⟩, fun b hb => ?_, uall⟩
  · unfold Lb.add put; dsimp only
    split
    · exact J5
    · exact oi j hj (by assumption)
  · unfold put at hb
    split at hb
    · simp [hb]
    · simp [E.inF j hj b hb]
  · unfold put at hb
    split at hb
    · exact v'q hb
    · exact E.nq j hj hb
  · unfold put at hb hb2
    split at hb
    · split at hb2
      · omega
      · exact nd j hj (by assumption) b hb2 hb
    · split at hb2
      · exact nd i hi (by assumption) b hb hb2
      · exact E.dis i j hi hj hij b hb hb2
  · rcases List.mem_append.1 hb with hb | hb
    · simp at hb; exact J5.lt hb
    · exact Nat.lt_of_lt_of_le (E.lt b hb) hsz
  · rcases List.mem_append.1 hb with hb | hb
    · simp at hb
      rcases nb b hb with h | h
      · exact .inl h
      · exact .inr (by omega)
    · exact .inl hb
/-- What a call leaves that took something out: the limbo is S' now, o reads as xs and is no more its own. -/
def Took (w w' : World) (q : Nat) (F : List Nat) (S' : Lb) (xs : List Int) (o : Value) : Prop :=
  ∃ F', Lim w' q F' S' ∧ Ints w' o xs ∧ Away o F' ∧ Next w F F' ∧ (∀ b, o.ownBlock = some b → b ∈ F ∨ w.heap.size ≤ b) ∧ Else F w w'
theorem setLast_add (S : Lb) (k : Nat) : (S.setLast tag).add k tag items = S.add k tag items := rfl
theorem setLast_clear_add (S : Lb) (k : Nat) : ((S.setLast tag).clear k).add k tag items = (S.clear k).add k tag items := rfl
set_option maxHeartbeats 1000000 in
theorem lretire_no (E : Lim w q F S) (R : Rd w v items) (h : ¬ (items ≠ [] ∧ S.last ≤ tag ∧ tag ≤ 4611686018427387903)) :
    Calls Tryz.prog 98 #[.pointer (some ⟨q, 0, none⟩), .int .i64 tag, v] w fun e w' => e = .returned (.tuple #[.slice none 0 0, .int .i64 1]) ∧ w = w' := by
  obtain ⟨V, E⟩ := E
  obtain ⟨A, cap, rfl⟩ := R.slice
  have c6 := E.cells.2.2.2.2.2.2
  clear E R
  by_cases h0 : items = []
  · have e0 : items.length = 0 := by rw [h0]; rfl
    rw [e0]
    clear h
    go_enter Tryz.func98, Tryz.ntmps98
    go_wp2_with fail
    go_ret2
    exact ⟨rfl, rfl⟩
  · have hp : 0 < items.length := List.length_pos_iff.2 h0
    have hp2 : ((items.length : Int) == 0) = false := by simpa using h0
    by_cases h1 : tag < S.last
    · clear h h0
      go_enter Tryz.func98, Tryz.ntmps98
      go_wp2_with fail
      go_ret2
      exact ⟨rfl, rfl⟩
    · have h2 : 4611686018427387903 < tag := by
        rcases Int.lt_or_le 4611686018427387903 tag with h' | h'
        · exact h'
        · exact absurd ⟨h0, by omega, h'⟩ h
      clear h h0
      go_enter Tryz.func98, Tryz.ntmps98
      go_wp2_with fail
      go_ret2
      exact ⟨rfl, rfl⟩
set_option maxHeartbeats 2000000 in
theorem lretire_0a (E : Lim w q F S) (R : Rd w v items) (Aw : Away v F) (h0 : items ≠ []) (h1 : S.last ≤ tag) (h2 : tag ≤ 4611686018427387903) (hk : tag % 3 = 0) (hl : S.size + items.length ≤ 8192) (ht : S.T 0 < tag) :
    Calls Tryz.prog 98 #[.pointer (some ⟨q, 0, none⟩), .int .i64 tag, v] w fun e w' => ∃ o, e = .returned (.tuple #[o, .int .i64 0]) ∧ Took w w' q F (S.retire 0 tag items) (S.taken 0 tag) o := by
  have e1 : S.retire 0 tag items = (S.clear 0).add 0 tag items := by unfold Lb.retire; rw [if_pos ht]
  have e2 : S.taken 0 tag = S.L 0 := by unfold Lb.taken; rw [if_pos ht]
  rw [e1, e2]
  clear e1 e2
  obtain ⟨V, E⟩ := E
  obtain ⟨A, cap, rfl⟩ := R.slice
  have hq := E.lt q E.mem
  have t0 : 0 ≤ tag := Int.le_trans E.ok.last0 h1
  have hp2 : ((items.length : Int) == 0) = false := by simpa using h0
  have h1n : ¬ tag < S.last := by omega
  have h2n : ¬ 4611686018427387903 < tag := by omega
  have hm : tag.tmod 3 = 0 := by rw [Int.tmod_eq_emod_of_nonneg t0]; exact hk
  have hsz : (S.L 0).length ≤ S.size := Lb.len_le (by decide)
  obtain ⟨c0, c1, c2, c3, c4, c5, c6⟩ := E.cells
  have f6 := E.top.frozen 6
  have HE := Lib.hid E
  have HE1 := Lib.hid (E.setLast h1 h2)
  have HR := Lib.hid R
  have HA := Lib.hid Aw
  have H0 := Lib.hid h0
  have HK := Lib.hid hk
  have HH1 := Lib.hid h1
  obtain ⟨nI, hnI⟩ : ∃ n, items.length = n := ⟨_, rfl⟩
  have HNI := Lib.hid hnI
  rw [hnI] at HR HA hp2 hl ⊢
  clear E R Aw h0 hk h1 hnI
  go_enter Tryz.func98, Tryz.ntmps98
  go_upto_region 8 with (first
    | (go_at_call 128; refine (empty_in (k := 0) ⟨V, HE1.out⟩ (by decide)).mono ?_; rintro e w2 ⟨v2, F2, rfl, J2, A2, ⟨V2, L2⟩, N2, O2, X2⟩; obtain ⟨B9, M9, k9, rfl⟩ := shapeI J2; have HJ2 := Lib.hid J2; have HA2 := Lib.hid A2; have HL2 := Lib.hid L2; have HN2 := Lib.hid N2; have HO2 := Lib.hid O2; have HX2 := Lib.hid X2; clear J2 A2 L2 N2 O2 X2))
  obtain ⟨y0, y1, y2, y3, y4, y5', y6⟩ := HL2.out.cells
  have g2 := HL2.out.top.frozen 0
  have E3 := Lib.hid (show (((S.setLast tag).clear 0).L 0) = [] from rfl)
  obtain ⟨S2, hS2⟩ : ∃ S2, (S.setLast tag).clear 0 = S2 := ⟨_, rfl⟩
  have HS2 := Lib.hid hS2
  rw [hS2] at HL2 E3 y0 y2 y4 y6
  obtain ⟨B0, D0, B1, D1, B2, D2, z0, z1, z2⟩ := HL2.out.slices
  obtain ⟨NK, hNK⟩ : ∃ n, (S2.L 0).length = n := ⟨_, rfl⟩
  rw [hNK] at z0
  rw [z0] at y1
  have HZ := Lib.hid z0
  have HLEN := Lib.hid (show (S2.L 0).length + items.length ≤ 8192 by rw [E3.out, HNI.out]; simp; omega)
  have HR3 := Lib.hid ((HR.out.else (((Else.refl [q] w).set (p := ⟨q, 6, none⟩) (.inl (by simp)) (.int .i64 tag)).trans HX2.out) (fun b hb e => by simp at hb; subst hb; exact HA.out _ HE.out.mem e)).else ((Else.refl [q] w2).set (p := ⟨q, 0, none⟩) (.inl (by simp)) (.int .i64 tag)) (fun b hb e => by simp at hb; subst hb; exact HA.out _ HE.out.mem e))
  clear z0 z1 z2 hS2 hNK c0 c1 c2 c3 c4 c5 c6
  have HT3 := Lib.hid (HL2.out.top.set 0 (.int .i64 tag))
  have HJ3 := Lib.hid (show Ints (w2.setCell ⟨q, 0, none⟩ (.int .i64 tag)) (.slice B0 NK D0) (S2.L 0) from HZ.out ▸ (HL2.out.ints 0 (by decide)).else ((Else.refl [q] w2).set (.inl (by simp)) _) (fun b hb e => by simp at hb; subst hb; exact HL2.out.nq 0 (by decide) e))
  have HNE := Lib.hid (show some q ≠ (Value.slice B0 NK D0).ownBlock from fun e => HL2.out.nq 0 (by decide) (HZ.out ▸ e.symm))
  go_wp2_with (first
    | (at_builtin; refine wpList_app rfl _ _ rfl rfl rfl HJ3.out HR3.out HLEN.out ?_; intro v5 w5 J5 G5 A5; obtain ⟨B5, N5, k5, rfl⟩ := shapeI J5; have HT5 := Lib.hid (HT3.out.grown G5 HNE.out); have y5 := HT5.out.cell (i := 1) rfl; have g5 := HT5.out.frozen 1; have HJ5 := Lib.hid J5; have HG5 := Lib.hid G5; have HA5 := Lib.hid A5; clear J5 G5 A5))
  go_ret2
  have HLT : S2.last = tag := by rw [← HS2.out]; rfl
  have HT6 := HT5.out.set 1 (.slice B5 N5 k5)
  rw [HLT] at HT6
  obtain ⟨F', L', N', X'⟩ := LimV.added (k := 0) HL2.out (by decide) HLT h2 HK.out H0.out (by rw [HZ.out]; exact HG5.out) HJ5.out (by rw [HZ.out]; exact HA5.out) HT6
  have hb : ∀ b, (Value.slice B9 M9 k9).ownBlock = some b → b ∉ F' := by
    intro b hb hf
    rcases N' b hf with h | h
    · exact HA2.out b h hb
    · have := HJ2.out.lt hb; omega
  have e6 : Else F w w2 := (((Else.refl F w).set (p := ⟨q, 6, none⟩) (.inl HE.out.mem) (.int .i64 tag))).trans (HX2.out.more (fun b hb => by simp at hb; subst hb; exact HE.out.mem))
  rw [← HS2.out, setLast_clear_add] at L'
  refine ⟨_, rfl, F', ⟨_, L'⟩, HJ2.out.else X' HA2.out, fun b h e => hb b e h, fun b hb => ?_, fun b h => .inl (HO2.out b h), e6.trans (X'.more HN2.out)⟩
  · rcases N' b hb with h | h
    · exact .inl (HN2.out b h)
    · exact .inr (Nat.le_trans e6.size h)
set_option maxHeartbeats 2000000 in
theorem lretire_0b (E : Lim w q F S) (R : Rd w v items) (Aw : Away v F) (h0 : items ≠ []) (h1 : S.last ≤ tag) (h2 : tag ≤ 4611686018427387903) (hk : tag % 3 = 0) (hl : S.size + items.length ≤ 8192) (ht : ¬ S.T 0 < tag) :
    Calls Tryz.prog 98 #[.pointer (some ⟨q, 0, none⟩), .int .i64 tag, v] w fun e w' => ∃ o, e = .returned (.tuple #[o, .int .i64 0]) ∧ Took w w' q F (S.retire 0 tag items) (S.taken 0 tag) o := by
  have e1 : S.retire 0 tag items = S.add 0 tag items := by unfold Lb.retire; rw [if_neg ht]
  have e2 : S.taken 0 tag = [] := by unfold Lb.taken; rw [if_neg ht]
  rw [e1, e2]
  clear e1 e2
  obtain ⟨V, E⟩ := E
  obtain ⟨A, cap, rfl⟩ := R.slice
  have hq := E.lt q E.mem
  have t0 : 0 ≤ tag := Int.le_trans E.ok.last0 h1
  have hp2 : ((items.length : Int) == 0) = false := by simpa using h0
  have h1n : ¬ tag < S.last := by omega
  have h2n : ¬ 4611686018427387903 < tag := by omega
  have hm : tag.tmod 3 = 0 := by rw [Int.tmod_eq_emod_of_nonneg t0]; exact hk
  have hsz : (S.L 0).length ≤ S.size := Lb.len_le (by decide)
  obtain ⟨c0, c1, c2, c3, c4, c5, c6⟩ := E.cells
  have f6 := E.top.frozen 6
  have HE := Lib.hid E
  have HE1 := Lib.hid (E.setLast h1 h2)
  have HR := Lib.hid R
  have HA := Lib.hid Aw
  have H0 := Lib.hid h0
  have HK := Lib.hid hk
  have HH1 := Lib.hid h1
  obtain ⟨nI, hnI⟩ : ∃ n, items.length = n := ⟨_, rfl⟩
  have HNI := Lib.hid hnI
  rw [hnI] at HR HA hp2 hl ⊢
  clear E R Aw h0 hk h1 hnI
  obtain ⟨B0, D0, B1, D1, B2, D2, z0, z1, z2⟩ := HE.out.slices
  obtain ⟨NK, hNK⟩ : ∃ n, (S.L 0).length = n := ⟨_, rfl⟩
  rw [hNK] at z0
  rw [z0] at c1
  have HZ := Lib.hid z0
  have f0 := HE.out.top.frozen 0
  have HLEN := Lib.hid (show ((S.setLast tag).L 0).length + items.length ≤ 8192 by rw [show (S.setLast tag).L = S.L from rfl, HNI.out]; omega)
  have HR3 := Lib.hid ((HR.out.else ((Else.refl [q] w).set (p := ⟨q, 6, none⟩) (.inl (by simp)) (.int .i64 tag)) (fun b hb e => by simp at hb; subst hb; exact HA.out _ HE.out.mem e)).else ((Else.refl [q] _).set (p := ⟨q, 0, none⟩) (.inl (by simp)) (.int .i64 tag)) (fun b hb e => by simp at hb; subst hb; exact HA.out _ HE.out.mem e))
  clear z0 z1 z2 hNK
  have HT3 := Lib.hid (HE1.out.top.set 0 (.int .i64 tag))
  have HJ3 := Lib.hid (show Ints ((w.setCell ⟨q, 6, none⟩ (.int .i64 tag)).setCell ⟨q, 0, none⟩ (.int .i64 tag)) (.slice B0 NK D0) ((S.setLast tag).L 0) from HZ.out ▸ (HE1.out.ints 0 (by decide)).else ((Else.refl [q] (w.setCell ⟨q, 6, none⟩ (.int .i64 tag))).set (.inl (by simp)) _) (fun b hb e => by simp at hb; subst hb; exact HE1.out.nq 0 (by decide) e))
  have HNE := Lib.hid (show some q ≠ (Value.slice B0 NK D0).ownBlock from fun e => HE1.out.nq 0 (by decide) (HZ.out ▸ e.symm))
  go_enter Tryz.func98, Tryz.ntmps98
  go_wp2_with (first
    | (at_builtin; refine wpList_app rfl _ _ rfl rfl rfl HJ3.out HR3.out HLEN.out ?_; intro v5 w5 J5 G5 A5; obtain ⟨B5, N5, k5, rfl⟩ := shapeI J5; have HT5 := Lib.hid (HT3.out.grown G5 HNE.out); have y5 := HT5.out.cell (i := 1) rfl; have g5 := HT5.out.frozen 1; have HJ5 := Lib.hid J5; have HG5 := Lib.hid G5; have HA5 := Lib.hid A5; clear J5 G5 A5))
  go_ret2
  obtain ⟨F', L', N', X'⟩ := LimV.added (k := 0) HE1.out (by decide) rfl h2 HK.out H0.out (by rw [HZ.out]; exact HG5.out) HJ5.out (by rw [HZ.out]; exact HA5.out) (HT5.out.set 1 _)
  have hz : (w.setCell ⟨q, 6, none⟩ (.int .i64 tag)).heap.size = w.heap.size := by simp
  refine ⟨_, rfl, F', ⟨_, L'⟩, Ints.nil _, fun b h e => by simp [Value.ownBlock] at e, fun b hb => by have := N' b hb; rw [hz] at this; exact this, fun b h => by simp [Value.ownBlock] at h, ((Else.refl F w).set (p := ⟨q, 6, none⟩) (.inl HE.out.mem) (.int .i64 tag)).trans X'⟩
set_option maxHeartbeats 2000000 in
theorem lretire_1a (E : Lim w q F S) (R : Rd w v items) (Aw : Away v F) (h0 : items ≠ []) (h1 : S.last ≤ tag) (h2 : tag ≤ 4611686018427387903) (hk : tag % 3 = 1) (hl : S.size + items.length ≤ 8192) (ht : S.T 1 < tag) :
    Calls Tryz.prog 98 #[.pointer (some ⟨q, 0, none⟩), .int .i64 tag, v] w fun e w' => ∃ o, e = .returned (.tuple #[o, .int .i64 0]) ∧ Took w w' q F (S.retire 1 tag items) (S.taken 1 tag) o := by
  have e1 : S.retire 1 tag items = (S.clear 1).add 1 tag items := by unfold Lb.retire; rw [if_pos ht]
  have e2 : S.taken 1 tag = S.L 1 := by unfold Lb.taken; rw [if_pos ht]
  rw [e1, e2]
  clear e1 e2
  obtain ⟨V, E⟩ := E
  obtain ⟨A, cap, rfl⟩ := R.slice
  have hq := E.lt q E.mem
  have t0 : 0 ≤ tag := Int.le_trans E.ok.last0 h1
  have hp2 : ((items.length : Int) == 0) = false := by simpa using h0
  have h1n : ¬ tag < S.last := by omega
  have h2n : ¬ 4611686018427387903 < tag := by omega
  have hm : tag.tmod 3 = 1 := by rw [Int.tmod_eq_emod_of_nonneg t0]; exact hk
  have hsz : (S.L 1).length ≤ S.size := Lb.len_le (by decide)
  obtain ⟨c0, c1, c2, c3, c4, c5, c6⟩ := E.cells
  have f6 := E.top.frozen 6
  have HE := Lib.hid E
  have HE1 := Lib.hid (E.setLast h1 h2)
  have HR := Lib.hid R
  have HA := Lib.hid Aw
  have H0 := Lib.hid h0
  have HK := Lib.hid hk
  have HH1 := Lib.hid h1
  obtain ⟨nI, hnI⟩ : ∃ n, items.length = n := ⟨_, rfl⟩
  have HNI := Lib.hid hnI
  rw [hnI] at HR HA hp2 hl ⊢
  clear E R Aw h0 hk h1 hnI
  go_enter Tryz.func98, Tryz.ntmps98
  go_upto_region 8 with (first
    | (go_at_call 128; refine (empty_in (k := 1) ⟨V, HE1.out⟩ (by decide)).mono ?_; rintro e w2 ⟨v2, F2, rfl, J2, A2, ⟨V2, L2⟩, N2, O2, X2⟩; obtain ⟨B9, M9, k9, rfl⟩ := shapeI J2; have HJ2 := Lib.hid J2; have HA2 := Lib.hid A2; have HL2 := Lib.hid L2; have HN2 := Lib.hid N2; have HO2 := Lib.hid O2; have HX2 := Lib.hid X2; clear J2 A2 L2 N2 O2 X2))
  obtain ⟨y0, y1, y2, y3, y4, y5', y6⟩ := HL2.out.cells
  have g2 := HL2.out.top.frozen 2
  have E3 := Lib.hid (show (((S.setLast tag).clear 1).L 1) = [] from rfl)
  obtain ⟨S2, hS2⟩ : ∃ S2, (S.setLast tag).clear 1 = S2 := ⟨_, rfl⟩
  have HS2 := Lib.hid hS2
  rw [hS2] at HL2 E3 y0 y2 y4 y6
  obtain ⟨B0, D0, B1, D1, B2, D2, z0, z1, z2⟩ := HL2.out.slices
  obtain ⟨NK, hNK⟩ : ∃ n, (S2.L 1).length = n := ⟨_, rfl⟩
  rw [hNK] at z1
  rw [z1] at y3
  have HZ := Lib.hid z1
  have HLEN := Lib.hid (show (S2.L 1).length + items.length ≤ 8192 by rw [E3.out, HNI.out]; simp; omega)
  have HR3 := Lib.hid ((HR.out.else (((Else.refl [q] w).set (p := ⟨q, 6, none⟩) (.inl (by simp)) (.int .i64 tag)).trans HX2.out) (fun b hb e => by simp at hb; subst hb; exact HA.out _ HE.out.mem e)).else ((Else.refl [q] w2).set (p := ⟨q, 2, none⟩) (.inl (by simp)) (.int .i64 tag)) (fun b hb e => by simp at hb; subst hb; exact HA.out _ HE.out.mem e))
  clear z0 z1 z2 hS2 hNK c0 c1 c2 c3 c4 c5 c6
  have HT3 := Lib.hid (HL2.out.top.set 2 (.int .i64 tag))
  have HJ3 := Lib.hid (show Ints (w2.setCell ⟨q, 2, none⟩ (.int .i64 tag)) (.slice B1 NK D1) (S2.L 1) from HZ.out ▸ (HL2.out.ints 1 (by decide)).else ((Else.refl [q] w2).set (.inl (by simp)) _) (fun b hb e => by simp at hb; subst hb; exact HL2.out.nq 1 (by decide) e))
  have HNE := Lib.hid (show some q ≠ (Value.slice B1 NK D1).ownBlock from fun e => HL2.out.nq 1 (by decide) (HZ.out ▸ e.symm))
  go_wp2_with (first
    | (at_builtin; refine wpList_app rfl _ _ rfl rfl rfl HJ3.out HR3.out HLEN.out ?_; intro v5 w5 J5 G5 A5; obtain ⟨B5, N5, k5, rfl⟩ := shapeI J5; have HT5 := Lib.hid (HT3.out.grown G5 HNE.out); have y5 := HT5.out.cell (i := 3) rfl; have g5 := HT5.out.frozen 3; have HJ5 := Lib.hid J5; have HG5 := Lib.hid G5; have HA5 := Lib.hid A5; clear J5 G5 A5))
  go_ret2
  have HLT : S2.last = tag := by rw [← HS2.out]; rfl
  have HT6 := HT5.out.set 3 (.slice B5 N5 k5)
  rw [HLT] at HT6
  obtain ⟨F', L', N', X'⟩ := LimV.added (k := 1) HL2.out (by decide) HLT h2 HK.out H0.out (by rw [HZ.out]; exact HG5.out) HJ5.out (by rw [HZ.out]; exact HA5.out) HT6
  have hb : ∀ b, (Value.slice B9 M9 k9).ownBlock = some b → b ∉ F' := by
    intro b hb hf
    rcases N' b hf with h | h
    · exact HA2.out b h hb
    · have := HJ2.out.lt hb; omega
  have e6 : Else F w w2 := (((Else.refl F w).set (p := ⟨q, 6, none⟩) (.inl HE.out.mem) (.int .i64 tag))).trans (HX2.out.more (fun b hb => by simp at hb; subst hb; exact HE.out.mem))
  rw [← HS2.out, setLast_clear_add] at L'
  refine ⟨_, rfl, F', ⟨_, L'⟩, HJ2.out.else X' HA2.out, fun b h e => hb b e h, fun b hb => ?_, fun b h => .inl (HO2.out b h), e6.trans (X'.more HN2.out)⟩
  · rcases N' b hb with h | h
    · exact .inl (HN2.out b h)
    · exact .inr (Nat.le_trans e6.size h)
set_option maxHeartbeats 2000000 in
theorem lretire_1b (E : Lim w q F S) (R : Rd w v items) (Aw : Away v F) (h0 : items ≠ []) (h1 : S.last ≤ tag) (h2 : tag ≤ 4611686018427387903) (hk : tag % 3 = 1) (hl : S.size + items.length ≤ 8192) (ht : ¬ S.T 1 < tag) :
    Calls Tryz.prog 98 #[.pointer (some ⟨q, 0, none⟩), .int .i64 tag, v] w fun e w' => ∃ o, e = .returned (.tuple #[o, .int .i64 0]) ∧ Took w w' q F (S.retire 1 tag items) (S.taken 1 tag) o := by
  have e1 : S.retire 1 tag items = S.add 1 tag items := by unfold Lb.retire; rw [if_neg ht]
  have e2 : S.taken 1 tag = [] := by unfold Lb.taken; rw [if_neg ht]
  rw [e1, e2]
  clear e1 e2
  obtain ⟨V, E⟩ := E
  obtain ⟨A, cap, rfl⟩ := R.slice
  have hq := E.lt q E.mem
  have t0 : 0 ≤ tag := Int.le_trans E.ok.last0 h1
  have hp2 : ((items.length : Int) == 0) = false := by simpa using h0
  have h1n : ¬ tag < S.last := by omega
  have h2n : ¬ 4611686018427387903 < tag := by omega
  have hm : tag.tmod 3 = 1 := by rw [Int.tmod_eq_emod_of_nonneg t0]; exact hk
  have hsz : (S.L 1).length ≤ S.size := Lb.len_le (by decide)
  obtain ⟨c0, c1, c2, c3, c4, c5, c6⟩ := E.cells
  have f6 := E.top.frozen 6
  have HE := Lib.hid E
  have HE1 := Lib.hid (E.setLast h1 h2)
  have HR := Lib.hid R
  have HA := Lib.hid Aw
  have H0 := Lib.hid h0
  have HK := Lib.hid hk
  have HH1 := Lib.hid h1
  obtain ⟨nI, hnI⟩ : ∃ n, items.length = n := ⟨_, rfl⟩
  have HNI := Lib.hid hnI
  rw [hnI] at HR HA hp2 hl ⊢
  clear E R Aw h0 hk h1 hnI
  obtain ⟨B0, D0, B1, D1, B2, D2, z0, z1, z2⟩ := HE.out.slices
  obtain ⟨NK, hNK⟩ : ∃ n, (S.L 1).length = n := ⟨_, rfl⟩
  rw [hNK] at z1
  rw [z1] at c3
  have HZ := Lib.hid z1
  have f2 := HE.out.top.frozen 2
  have HLEN := Lib.hid (show ((S.setLast tag).L 1).length + items.length ≤ 8192 by rw [show (S.setLast tag).L = S.L from rfl, HNI.out]; omega)
  have HR3 := Lib.hid ((HR.out.else ((Else.refl [q] w).set (p := ⟨q, 6, none⟩) (.inl (by simp)) (.int .i64 tag)) (fun b hb e => by simp at hb; subst hb; exact HA.out _ HE.out.mem e)).else ((Else.refl [q] _).set (p := ⟨q, 2, none⟩) (.inl (by simp)) (.int .i64 tag)) (fun b hb e => by simp at hb; subst hb; exact HA.out _ HE.out.mem e))
  clear z0 z1 z2 hNK
  have HT3 := Lib.hid (HE1.out.top.set 2 (.int .i64 tag))
  have HJ3 := Lib.hid (show Ints ((w.setCell ⟨q, 6, none⟩ (.int .i64 tag)).setCell ⟨q, 2, none⟩ (.int .i64 tag)) (.slice B1 NK D1) ((S.setLast tag).L 1) from HZ.out ▸ (HE1.out.ints 1 (by decide)).else ((Else.refl [q] (w.setCell ⟨q, 6, none⟩ (.int .i64 tag))).set (.inl (by simp)) _) (fun b hb e => by simp at hb; subst hb; exact HE1.out.nq 1 (by decide) e))
  have HNE := Lib.hid (show some q ≠ (Value.slice B1 NK D1).ownBlock from fun e => HE1.out.nq 1 (by decide) (HZ.out ▸ e.symm))
  go_enter Tryz.func98, Tryz.ntmps98
  go_wp2_with (first
    | (at_builtin; refine wpList_app rfl _ _ rfl rfl rfl HJ3.out HR3.out HLEN.out ?_; intro v5 w5 J5 G5 A5; obtain ⟨B5, N5, k5, rfl⟩ := shapeI J5; have HT5 := Lib.hid (HT3.out.grown G5 HNE.out); have y5 := HT5.out.cell (i := 3) rfl; have g5 := HT5.out.frozen 3; have HJ5 := Lib.hid J5; have HG5 := Lib.hid G5; have HA5 := Lib.hid A5; clear J5 G5 A5))
  go_ret2
  obtain ⟨F', L', N', X'⟩ := LimV.added (k := 1) HE1.out (by decide) rfl h2 HK.out H0.out (by rw [HZ.out]; exact HG5.out) HJ5.out (by rw [HZ.out]; exact HA5.out) (HT5.out.set 3 _)
  have hz : (w.setCell ⟨q, 6, none⟩ (.int .i64 tag)).heap.size = w.heap.size := by simp
  refine ⟨_, rfl, F', ⟨_, L'⟩, Ints.nil _, fun b h e => by simp [Value.ownBlock] at e, fun b hb => by have := N' b hb; rw [hz] at this; exact this, fun b h => by simp [Value.ownBlock] at h, ((Else.refl F w).set (p := ⟨q, 6, none⟩) (.inl HE.out.mem) (.int .i64 tag)).trans X'⟩
set_option maxHeartbeats 2000000 in
theorem lretire_2a (E : Lim w q F S) (R : Rd w v items) (Aw : Away v F) (h0 : items ≠ []) (h1 : S.last ≤ tag) (h2 : tag ≤ 4611686018427387903) (hk : tag % 3 = 2) (hl : S.size + items.length ≤ 8192) (ht : S.T 2 < tag) :
    Calls Tryz.prog 98 #[.pointer (some ⟨q, 0, none⟩), .int .i64 tag, v] w fun e w' => ∃ o, e = .returned (.tuple #[o, .int .i64 0]) ∧ Took w w' q F (S.retire 2 tag items) (S.taken 2 tag) o := by
  have e1 : S.retire 2 tag items = (S.clear 2).add 2 tag items := by unfold Lb.retire; rw [if_pos ht]
  have e2 : S.taken 2 tag = S.L 2 := by unfold Lb.taken; rw [if_pos ht]
  rw [e1, e2]
  clear e1 e2
  obtain ⟨V, E⟩ := E
  obtain ⟨A, cap, rfl⟩ := R.slice
  have hq := E.lt q E.mem
  have t0 : 0 ≤ tag := Int.le_trans E.ok.last0 h1
  have hp2 : ((items.length : Int) == 0) = false := by simpa using h0
  have h1n : ¬ tag < S.last := by omega
  have h2n : ¬ 4611686018427387903 < tag := by omega
  have hm : tag.tmod 3 = 2 := by rw [Int.tmod_eq_emod_of_nonneg t0]; exact hk
  have hsz : (S.L 2).length ≤ S.size := Lb.len_le (by decide)
  obtain ⟨c0, c1, c2, c3, c4, c5, c6⟩ := E.cells
  have f6 := E.top.frozen 6
  have HE := Lib.hid E
  have HE1 := Lib.hid (E.setLast h1 h2)
  have HR := Lib.hid R
  have HA := Lib.hid Aw
  have H0 := Lib.hid h0
  have HK := Lib.hid hk
  have HH1 := Lib.hid h1
  obtain ⟨nI, hnI⟩ : ∃ n, items.length = n := ⟨_, rfl⟩
  have HNI := Lib.hid hnI
  rw [hnI] at HR HA hp2 hl ⊢
  clear E R Aw h0 hk h1 hnI
  go_enter Tryz.func98, Tryz.ntmps98
  go_upto_region 8 with (first
    | (go_at_call 128; refine (empty_in (k := 2) ⟨V, HE1.out⟩ (by decide)).mono ?_; rintro e w2 ⟨v2, F2, rfl, J2, A2, ⟨V2, L2⟩, N2, O2, X2⟩; obtain ⟨B9, M9, k9, rfl⟩ := shapeI J2; have HJ2 := Lib.hid J2; have HA2 := Lib.hid A2; have HL2 := Lib.hid L2; have HN2 := Lib.hid N2; have HO2 := Lib.hid O2; have HX2 := Lib.hid X2; clear J2 A2 L2 N2 O2 X2))
  obtain ⟨y0, y1, y2, y3, y4, y5', y6⟩ := HL2.out.cells
  have g2 := HL2.out.top.frozen 4
  have E3 := Lib.hid (show (((S.setLast tag).clear 2).L 2) = [] from rfl)
  obtain ⟨S2, hS2⟩ : ∃ S2, (S.setLast tag).clear 2 = S2 := ⟨_, rfl⟩
  have HS2 := Lib.hid hS2
  rw [hS2] at HL2 E3 y0 y2 y4 y6
  obtain ⟨B0, D0, B1, D1, B2, D2, z0, z1, z2⟩ := HL2.out.slices
  obtain ⟨NK, hNK⟩ : ∃ n, (S2.L 2).length = n := ⟨_, rfl⟩
  rw [hNK] at z2
  rw [z2] at y5'
  have HZ := Lib.hid z2
  have HLEN := Lib.hid (show (S2.L 2).length + items.length ≤ 8192 by rw [E3.out, HNI.out]; simp; omega)
  have HR3 := Lib.hid ((HR.out.else (((Else.refl [q] w).set (p := ⟨q, 6, none⟩) (.inl (by simp)) (.int .i64 tag)).trans HX2.out) (fun b hb e => by simp at hb; subst hb; exact HA.out _ HE.out.mem e)).else ((Else.refl [q] w2).set (p := ⟨q, 4, none⟩) (.inl (by simp)) (.int .i64 tag)) (fun b hb e => by simp at hb; subst hb; exact HA.out _ HE.out.mem e))
  clear z0 z1 z2 hS2 hNK c0 c1 c2 c3 c4 c5 c6
  have HT3 := Lib.hid (HL2.out.top.set 4 (.int .i64 tag))
  have HJ3 := Lib.hid (show Ints (w2.setCell ⟨q, 4, none⟩ (.int .i64 tag)) (.slice B2 NK D2) (S2.L 2) from HZ.out ▸ (HL2.out.ints 2 (by decide)).else ((Else.refl [q] w2).set (.inl (by simp)) _) (fun b hb e => by simp at hb; subst hb; exact HL2.out.nq 2 (by decide) e))
  have HNE := Lib.hid (show some q ≠ (Value.slice B2 NK D2).ownBlock from fun e => HL2.out.nq 2 (by decide) (HZ.out ▸ e.symm))
  go_wp2_with (first
    | (at_builtin; refine wpList_app rfl _ _ rfl rfl rfl HJ3.out HR3.out HLEN.out ?_; intro v5 w5 J5 G5 A5; obtain ⟨B5, N5, k5, rfl⟩ := shapeI J5; have HT5 := Lib.hid (HT3.out.grown G5 HNE.out); have y5 := HT5.out.cell (i := 5) rfl; have g5 := HT5.out.frozen 5; have HJ5 := Lib.hid J5; have HG5 := Lib.hid G5; have HA5 := Lib.hid A5; clear J5 G5 A5))
  go_ret2
  have HLT : S2.last = tag := by rw [← HS2.out]; rfl
  have HT6 := HT5.out.set 5 (.slice B5 N5 k5)
  rw [HLT] at HT6
  obtain ⟨F', L', N', X'⟩ := LimV.added (k := 2) HL2.out (by decide) HLT h2 HK.out H0.out (by rw [HZ.out]; exact HG5.out) HJ5.out (by rw [HZ.out]; exact HA5.out) HT6
  have hb : ∀ b, (Value.slice B9 M9 k9).ownBlock = some b → b ∉ F' := by
    intro b hb hf
    rcases N' b hf with h | h
    · exact HA2.out b h hb
    · have := HJ2.out.lt hb; omega
  have e6 : Else F w w2 := (((Else.refl F w).set (p := ⟨q, 6, none⟩) (.inl HE.out.mem) (.int .i64 tag))).trans (HX2.out.more (fun b hb => by simp at hb; subst hb; exact HE.out.mem))
  rw [← HS2.out, setLast_clear_add] at L'
  refine ⟨_, rfl, F', ⟨_, L'⟩, HJ2.out.else X' HA2.out, fun b h e => hb b e h, fun b hb => ?_, fun b h => .inl (HO2.out b h), e6.trans (X'.more HN2.out)⟩
  · rcases N' b hb with h | h
    · exact .inl (HN2.out b h)
    · exact .inr (Nat.le_trans e6.size h)
set_option maxHeartbeats 2000000 in
theorem lretire_2b (E : Lim w q F S) (R : Rd w v items) (Aw : Away v F) (h0 : items ≠ []) (h1 : S.last ≤ tag) (h2 : tag ≤ 4611686018427387903) (hk : tag % 3 = 2) (hl : S.size + items.length ≤ 8192) (ht : ¬ S.T 2 < tag) :
    Calls Tryz.prog 98 #[.pointer (some ⟨q, 0, none⟩), .int .i64 tag, v] w fun e w' => ∃ o, e = .returned (.tuple #[o, .int .i64 0]) ∧ Took w w' q F (S.retire 2 tag items) (S.taken 2 tag) o := by
  have e1 : S.retire 2 tag items = S.add 2 tag items := by unfold Lb.retire; rw [if_neg ht]
  have e2 : S.taken 2 tag = [] := by unfold Lb.taken; rw [if_neg ht]
  rw [e1, e2]
  clear e1 e2
  obtain ⟨V, E⟩ := E
  obtain ⟨A, cap, rfl⟩ := R.slice
  have hq := E.lt q E.mem
  have t0 : 0 ≤ tag := Int.le_trans E.ok.last0 h1
  have hp2 : ((items.length : Int) == 0) = false := by simpa using h0
  have h1n : ¬ tag < S.last := by omega
  have h2n : ¬ 4611686018427387903 < tag := by omega
  have hm : tag.tmod 3 = 2 := by rw [Int.tmod_eq_emod_of_nonneg t0]; exact hk
  have hsz : (S.L 2).length ≤ S.size := Lb.len_le (by decide)
  obtain ⟨c0, c1, c2, c3, c4, c5, c6⟩ := E.cells
  have f6 := E.top.frozen 6
  have HE := Lib.hid E
  have HE1 := Lib.hid (E.setLast h1 h2)
  have HR := Lib.hid R
  have HA := Lib.hid Aw
  have H0 := Lib.hid h0
  have HK := Lib.hid hk
  have HH1 := Lib.hid h1
  obtain ⟨nI, hnI⟩ : ∃ n, items.length = n := ⟨_, rfl⟩
  have HNI := Lib.hid hnI
  rw [hnI] at HR HA hp2 hl ⊢
  clear E R Aw h0 hk h1 hnI
  obtain ⟨B0, D0, B1, D1, B2, D2, z0, z1, z2⟩ := HE.out.slices
  obtain ⟨NK, hNK⟩ : ∃ n, (S.L 2).length = n := ⟨_, rfl⟩
  rw [hNK] at z2
  rw [z2] at c5
  have HZ := Lib.hid z2
  have f4 := HE.out.top.frozen 4
  have HLEN := Lib.hid (show ((S.setLast tag).L 2).length + items.length ≤ 8192 by rw [show (S.setLast tag).L = S.L from rfl, HNI.out]; omega)
  have HR3 := Lib.hid ((HR.out.else ((Else.refl [q] w).set (p := ⟨q, 6, none⟩) (.inl (by simp)) (.int .i64 tag)) (fun b hb e => by simp at hb; subst hb; exact HA.out _ HE.out.mem e)).else ((Else.refl [q] _).set (p := ⟨q, 4, none⟩) (.inl (by simp)) (.int .i64 tag)) (fun b hb e => by simp at hb; subst hb; exact HA.out _ HE.out.mem e))
  clear z0 z1 z2 hNK
  have HT3 := Lib.hid (HE1.out.top.set 4 (.int .i64 tag))
  have HJ3 := Lib.hid (show Ints ((w.setCell ⟨q, 6, none⟩ (.int .i64 tag)).setCell ⟨q, 4, none⟩ (.int .i64 tag)) (.slice B2 NK D2) ((S.setLast tag).L 2) from HZ.out ▸ (HE1.out.ints 2 (by decide)).else ((Else.refl [q] (w.setCell ⟨q, 6, none⟩ (.int .i64 tag))).set (.inl (by simp)) _) (fun b hb e => by simp at hb; subst hb; exact HE1.out.nq 2 (by decide) e))
  have HNE := Lib.hid (show some q ≠ (Value.slice B2 NK D2).ownBlock from fun e => HE1.out.nq 2 (by decide) (HZ.out ▸ e.symm))
  go_enter Tryz.func98, Tryz.ntmps98
  go_wp2_with (first
    | (at_builtin; refine wpList_app rfl _ _ rfl rfl rfl HJ3.out HR3.out HLEN.out ?_; intro v5 w5 J5 G5 A5; obtain ⟨B5, N5, k5, rfl⟩ := shapeI J5; have HT5 := Lib.hid (HT3.out.grown G5 HNE.out); have y5 := HT5.out.cell (i := 5) rfl; have g5 := HT5.out.frozen 5; have HJ5 := Lib.hid J5; have HG5 := Lib.hid G5; have HA5 := Lib.hid A5; clear J5 G5 A5))
  go_ret2
  obtain ⟨F', L', N', X'⟩ := LimV.added (k := 2) HE1.out (by decide) rfl h2 HK.out H0.out (by rw [HZ.out]; exact HG5.out) HJ5.out (by rw [HZ.out]; exact HA5.out) (HT5.out.set 5 _)
  have hz : (w.setCell ⟨q, 6, none⟩ (.int .i64 tag)).heap.size = w.heap.size := by simp
  refine ⟨_, rfl, F', ⟨_, L'⟩, Ints.nil _, fun b h e => by simp [Value.ownBlock] at e, fun b hb => by have := N' b hb; rw [hz] at this; exact this, fun b h => by simp [Value.ownBlock] at h, ((Else.refl F w).set (p := ⟨q, 6, none⟩) (.inl HE.out.mem) (.int .i64 tag)).trans X'⟩
theorem lretire_yes (E : Lim w q F S) (R : Rd w v items) (Aw : Away v F) (h0 : items ≠ []) (h1 : S.last ≤ tag) (h2 : tag ≤ 4611686018427387903) {k : Nat} (hk : tag % 3 = k) (hl : S.size + items.length ≤ 8192) :
    Calls Tryz.prog 98 #[.pointer (some ⟨q, 0, none⟩), .int .i64 tag, v] w fun e w' => ∃ o, e = .returned (.tuple #[o, .int .i64 0]) ∧ Took w w' q F (S.retire k tag items) (S.taken k tag) o := by
  have : k = 0 ∨ k = 1 ∨ k = 2 := by omega
  rcases this with rfl | rfl | rfl
  · by_cases ht : S.T 0 < tag
    · exact lretire_0a E R Aw h0 h1 h2 hk hl ht
    · exact lretire_0b E R Aw h0 h1 h2 hk hl ht
  · by_cases ht : S.T 1 < tag
    · exact lretire_1a E R Aw h0 h1 h2 hk hl ht
    · exact lretire_1b E R Aw h0 h1 h2 hk hl ht
  · by_cases ht : S.T 2 < tag
    · exact lretire_2a E R Aw h0 h1 h2 hk hl ht
    · exact lretire_2b E R Aw h0 h1 h2 hk hl ht
end
end Go.Proofs.YtkopplnjomkleaaGreat
