/-
  Texts beneath SupplyAll, part 23: RefLimbo2.
-/
import Derived.Test.YtkopplnjomkleaaGreatPart22
/-
  The reference's limbo: the contracts of Bucket and Retire.
-/
namespace Go.Proofs.YtkopplnjomkleaaGreat
open Go.RowKit
set_option maxRecDepth 100000
section
variable {w w' w4 w5 : World} {p : Nat} {F : List Nat} {R : Lb} {V : Nat → Value} {v : Value} {now tag : Int} {items : List Int}
set_option maxHeartbeats 1000000 in
theorem rbucket_out {i : Int} (h : ¬ (0 ≤ i ∧ i < 3)) : Calls Tryz.prog 53 #[.pointer (some ⟨p, 0, none⟩), .int .i64 i] w fun e w' => e = .returned (.tuple #[.int .i64 0, .slice none 0 0]) ∧ w = w' := by
  by_cases h0 : i < 0
  · go_enter Tryz.func53, Tryz.ntmps53
    go_wp2_with fail
    go_ret2
    exact ⟨rfl, rfl⟩
  · have h1 : 2 < i := by omega
    go_enter Tryz.func53, Tryz.ntmps53
    go_wp2_with fail
    go_ret2
    exact ⟨rfl, rfl⟩
set_option maxHeartbeats 2000000 in
theorem rbucket_0 (E : RLim w p F R) (hl : (R.L 0).length ≤ 8192) : Calls Tryz.prog 53 #[.pointer (some ⟨p, 0, none⟩), .int .i64 0] w fun e w' => ∃ v, e = .returned (.tuple #[.int .i64 (if R.L 0 = [] then 0 else R.T 0), v]) ∧ Ints w' v (R.L 0) ∧ Fresh w v ∧ Up w w' := by
  obtain ⟨V, E⟩ := E
  obtain ⟨c0, c1, c2, c3, c4, c5, c6⟩ := E.cells
  obtain ⟨A0, d0, A1, d1, A2, d2, v0, v1, v2⟩ := E.slices
  have HR := Lib.hid (E.ints 0 (by decide)).rd
  rw [v0] at c3
  rw [v1] at c4
  rw [v2] at c5
  rw [v0] at HR
  clear E v0 v1 v2
  by_cases hz : R.L 0 = []
  · rw [if_pos hz]
    have e : (R.L 0).length = 0 := by rw [hz]; rfl
    rw [e] at c3
    rw [hz]
    clear HR hz e hl
    go_enter Tryz.func53, Tryz.ntmps53
    go_wp2_with fail
    go_ret2
    exact ⟨_, rfl, Ints.nil _, fresh_nil _, Up.refl _⟩
  · rw [if_neg hz]
    have hp : ((R.L 0).length == 0) = false := by simpa using hz
    have hp2 : (((R.L 0).length : Int) == 0) = false := by simpa using hz
    have HZ := Lib.hid hz
    obtain ⟨N, hN⟩ : ∃ N, (R.L 0).length = N := ⟨_, rfl⟩
    have HN := Lib.hid hN
    rw [hN] at c3 hp hp2 HR hl
    clear hz hN
    go_enter Tryz.func53, Tryz.ntmps53
    go_upto_region 3 with fail
    go_region_held3 (fun w' => w'.cell? ⟨p, 0, none⟩ = some (.int .i64 (R.T 0)) ∧ w'.cell? ⟨p, 3, none⟩ = some (.slice A0 N d0)) ((first | exact ⟨c0, c3⟩ | exact ⟨HU9.out.kept c0, HU9.out.kept c3⟩))
      (first | (refine step_app (v := .slice none 0 0) (by rfl) _ _ (by rfl) (by rfl) (by rfl) (Ints.nil _) (HR.out.up (up_drew _)) (by rw [HN.out]; simp; omega) ?_; intro v9 w9 J9 G9 A9; obtain ⟨B9, M9, e9, rfl⟩ := shapeI J9; have HJ9 := Lib.hid J9; have HU9 := Lib.hid (up_app (up_drew w) G9 (fresh_nil _)); have HF9 := Lib.hid (fresh_app (fresh_nil w) (up_drew w).size A9); clear J9 G9 A9))
    all_goals
      go_wp2_with fail
      go_ret2
      exact ⟨_, rfl, by simpa using HJ9.out, HF9.out, HU9.out⟩
set_option maxHeartbeats 2000000 in
theorem rbucket_1 (E : RLim w p F R) (hl : (R.L 1).length ≤ 8192) : Calls Tryz.prog 53 #[.pointer (some ⟨p, 0, none⟩), .int .i64 1] w fun e w' => ∃ v, e = .returned (.tuple #[.int .i64 (if R.L 1 = [] then 0 else R.T 1), v]) ∧ Ints w' v (R.L 1) ∧ Fresh w v ∧ Up w w' := by
  obtain ⟨V, E⟩ := E
  obtain ⟨c0, c1, c2, c3, c4, c5, c6⟩ := E.cells
  obtain ⟨A0, d0, A1, d1, A2, d2, v0, v1, v2⟩ := E.slices
  have HR := Lib.hid (E.ints 1 (by decide)).rd
  rw [v0] at c3
  rw [v1] at c4
  rw [v2] at c5
  rw [v1] at HR
  clear E v0 v1 v2
  by_cases hz : R.L 1 = []
  · rw [if_pos hz]
    have e : (R.L 1).length = 0 := by rw [hz]; rfl
    rw [e] at c4
    rw [hz]
    clear HR hz e hl
    go_enter Tryz.func53, Tryz.ntmps53
    go_wp2_with fail
    go_ret2
    exact ⟨_, rfl, Ints.nil _, fresh_nil _, Up.refl _⟩
  · rw [if_neg hz]
    have hp : ((R.L 1).length == 0) = false := by simpa using hz
    have hp2 : (((R.L 1).length : Int) == 0) = false := by simpa using hz
    have HZ := Lib.hid hz
    obtain ⟨N, hN⟩ : ∃ N, (R.L 1).length = N := ⟨_, rfl⟩
    have HN := Lib.hid hN
    rw [hN] at c4 hp hp2 HR hl
    clear hz hN
    go_enter Tryz.func53, Tryz.ntmps53
    go_upto_region 3 with fail
    go_region_held3 (fun w' => w'.cell? ⟨p, 1, none⟩ = some (.int .i64 (R.T 1)) ∧ w'.cell? ⟨p, 4, none⟩ = some (.slice A1 N d1)) ((first | exact ⟨c1, c4⟩ | exact ⟨HU9.out.kept c1, HU9.out.kept c4⟩))
      (first | (refine step_app (v := .slice none 0 0) (by rfl) _ _ (by rfl) (by rfl) (by rfl) (Ints.nil _) (HR.out.up (up_drew _)) (by rw [HN.out]; simp; omega) ?_; intro v9 w9 J9 G9 A9; obtain ⟨B9, M9, e9, rfl⟩ := shapeI J9; have HJ9 := Lib.hid J9; have HU9 := Lib.hid (up_app (up_drew w) G9 (fresh_nil _)); have HF9 := Lib.hid (fresh_app (fresh_nil w) (up_drew w).size A9); clear J9 G9 A9))
    all_goals
      go_wp2_with fail
      go_ret2
      exact ⟨_, rfl, by simpa using HJ9.out, HF9.out, HU9.out⟩
set_option maxHeartbeats 2000000 in
theorem rbucket_2 (E : RLim w p F R) (hl : (R.L 2).length ≤ 8192) : Calls Tryz.prog 53 #[.pointer (some ⟨p, 0, none⟩), .int .i64 2] w fun e w' => ∃ v, e = .returned (.tuple #[.int .i64 (if R.L 2 = [] then 0 else R.T 2), v]) ∧ Ints w' v (R.L 2) ∧ Fresh w v ∧ Up w w' := by
  obtain ⟨V, E⟩ := E
  obtain ⟨c0, c1, c2, c3, c4, c5, c6⟩ := E.cells
  obtain ⟨A0, d0, A1, d1, A2, d2, v0, v1, v2⟩ := E.slices
  have HR := Lib.hid (E.ints 2 (by decide)).rd
  rw [v0] at c3
  rw [v1] at c4
  rw [v2] at c5
  rw [v2] at HR
  clear E v0 v1 v2
  by_cases hz : R.L 2 = []
  · rw [if_pos hz]
    have e : (R.L 2).length = 0 := by rw [hz]; rfl
    rw [e] at c5
    rw [hz]
    clear HR hz e hl
    go_enter Tryz.func53, Tryz.ntmps53
    go_wp2_with fail
    go_ret2
    exact ⟨_, rfl, Ints.nil _, fresh_nil _, Up.refl _⟩
  · rw [if_neg hz]
    have hp : ((R.L 2).length == 0) = false := by simpa using hz
    have hp2 : (((R.L 2).length : Int) == 0) = false := by simpa using hz
    have HZ := Lib.hid hz
    obtain ⟨N, hN⟩ : ∃ N, (R.L 2).length = N := ⟨_, rfl⟩
    have HN := Lib.hid hN
    rw [hN] at c5 hp hp2 HR hl
    clear hz hN
    go_enter Tryz.func53, Tryz.ntmps53
    go_upto_region 3 with fail
    go_region_held3 (fun w' => w'.cell? ⟨p, 2, none⟩ = some (.int .i64 (R.T 2)) ∧ w'.cell? ⟨p, 5, none⟩ = some (.slice A2 N d2)) ((first | exact ⟨c2, c5⟩ | exact ⟨HU9.out.kept c2, HU9.out.kept c5⟩))
      (first | (refine step_app (v := .slice none 0 0) (by rfl) _ _ (by rfl) (by rfl) (by rfl) (Ints.nil _) (HR.out.up (up_drew _)) (by rw [HN.out]; simp; omega) ?_; intro v9 w9 J9 G9 A9; obtain ⟨B9, M9, e9, rfl⟩ := shapeI J9; have HJ9 := Lib.hid J9; have HU9 := Lib.hid (up_app (up_drew w) G9 (fresh_nil _)); have HF9 := Lib.hid (fresh_app (fresh_nil w) (up_drew w).size A9); clear J9 G9 A9))
    all_goals
      go_wp2_with fail
      go_ret2
      exact ⟨_, rfl, by simpa using HJ9.out, HF9.out, HU9.out⟩
theorem rbucket_in (E : RLim w p F R) {k : Nat} (hk : k < 3) (hl : (R.L k).length ≤ 8192) : Calls Tryz.prog 53 #[.pointer (some ⟨p, 0, none⟩), .int .i64 k] w fun e w' => ∃ v, e = .returned (.tuple #[.int .i64 (if R.L k = [] then 0 else R.T k), v]) ∧ Ints w' v (R.L k) ∧ Fresh w v ∧ Up w w' := by
  have : k = 0 ∨ k = 1 ∨ k = 2 := by omega
  rcases this with rfl | rfl | rfl
  · exact rbucket_0 E hl
  · exact rbucket_1 E hl
  · exact rbucket_2 E hl
def RTook (w w' : World) (p : Nat) (F : List Nat) (R' : Lb) (xs : List Int) (o : Value) : Prop :=
  ∃ F', RLim w' p F' R' ∧ Ints w' o xs ∧ Away o F' ∧ Next w F F' ∧ (∀ b, o.ownBlock = some b → b ∈ F ∨ w.heap.size ≤ b) ∧ Else F w w'
/-- One bucket's slice is another one now: a new one, or nil; what it had may be somebody else's. -/
theorem RLimV.swap (E : RLimV w p F R V) {R' : Lb} {k : Nat} (hk : k < 3) {v6 : Value} {xs : List Int} (u : Else [p] w w') (J : Ints w' v6 xs) (Fr : Fresh w v6) (hL : R'.L = put R.L k xs)
    (top : Whole w' p 159 #[.int .i64 (R'.T 0), .int .i64 (R'.T 1), .int .i64 (R'.T 2), put V k v6 0, put V k v6 1, put V k v6 2, .int .i64 R'.last]) :
    RLimV w' p (v6.ownBlock.toList ++ less F (V k)) R' (put V k v6) ∧ Next w F (v6.ownBlock.toList ++ less F (V k)) ∧ Away (V k) (v6.ownBlock.toList ++ less F (V k)) ∧ Ints w' (V k) (R.L k) := by
  have hp := E.lt p E.mem
  have ov : ∀ j, j < 3 → ∀ b, (V j).ownBlock = some b → v6.ownBlock ≠ some b := fun j hj b hb e => by
    have := E.lt b (E.inF j hj b hb); have := Fr b e; omega
  have oi : ∀ j, j < 3 → Ints w' (V j) (R.L j) := fun j hj => (E.ints j hj).else u (fun b hb e => by simp at hb; subst hb; exact E.nq j hj e)
  have vp : v6.ownBlock ≠ some p := fun e => by have := Fr p e; omega
  refine ⟨⟨top, fun j hj => ?_, ?_, fun j hj b hb => ?_, fun j hj hb => ?_, fun i j hi hj hij b hb hb2 => ?_, fun b hb => ?_⟩, fun b hb => ?_, fun b hb e => ?_, oi k hk⟩
  · rw [hL]; unfold put
    split
    · exact J
    · exact oi j hj
  · exact List.mem_append.2 (.inr (mem_less.2 ⟨E.mem, E.nq k hk⟩))
  · unfold put at hb
    split at hb
    · exact List.mem_append.2 (.inl (by simp [hb]))
    · exact List.mem_append.2 (.inr (mem_less.2 ⟨E.inF j hj b hb, fun e => E.dis j k hj hk (by assumption) b hb e⟩))
  · unfold put at hb
    split at hb
    · exact vp hb
    · exact E.nq j hj hb
  · unfold put at hb hb2
    split at hb
    · split at hb2
      · omega
      · exact ov j hj b hb2 hb
    · split at hb2
      · exact ov i hi b hb hb2
      · exact E.dis i j hi hj hij b hb hb2
  · rcases List.mem_append.1 hb with hb | hb
    · simp at hb; exact J.lt hb
    · exact Nat.lt_of_lt_of_le (E.lt b (mem_less.1 hb).1) u.size
  · rcases List.mem_append.1 hb with hb | hb
    · simp at hb; exact .inr (Fr b hb)
    · exact .inl (mem_less.1 hb).1
  · rcases List.mem_append.1 hb with hb | hb
    · simp at hb; exact ov k hk b e hb
    · exact (mem_less.1 hb).2 e
/-- What a Retire leaves. -/
theorem RLimV.done (E : RLimV w p F R V) {R' : Lb} {k X : Nat} (hk : k < 3) {v6 : Value} {xs : List Int} (u3 : Else [p] w w4) (hz : w4.heap.size = w.heap.size) (u6 : Up w4 w5) (J : Ints w5 v6 xs) (Fr : Fresh w4 v6) (hL : R'.L = put R.L k xs)
    (top : Whole (w5.setCell ⟨p, X, none⟩ v6) p 159 #[.int .i64 (R'.T 0), .int .i64 (R'.T 1), .int .i64 (R'.T 2), put V k v6 0, put V k v6 1, put V k v6 2, .int .i64 R'.last]) :
    RTook w (w5.setCell ⟨p, X, none⟩ v6) p F R' (R.L k) (V k) ∧ RTook w (w5.setCell ⟨p, X, none⟩ v6) p F R' [] (.slice none 0 0) := by
  have hp := E.lt p E.mem
  have Fr' : Fresh w v6 := fun b hb => by have := Fr b hb; omega
  have u : Else [p] w (w5.setCell ⟨p, X, none⟩ v6) := (u3.up u6).set (.inl (by simp)) _
  have J' : Ints (w5.setCell ⟨p, X, none⟩ v6) v6 xs := J.else (l := [p]) ((Else.refl _ _).set (.inl (by simp)) _) (fun b hb e => by simp at hb; subst hb; have := Fr' _ e; omega)
  obtain ⟨L, N, A, I⟩ := E.swap hk u J' Fr' hL top
  have uF : Else F w (w5.setCell ⟨p, X, none⟩ v6) := u.more (fun b hb => by simp at hb; subst hb; exact E.mem)
  exact ⟨⟨_, ⟨_, L⟩, I, A, N, fun b hb => .inl (E.inF k hk b hb), uF⟩, ⟨_, ⟨_, L⟩, Ints.nil _, fun b _ e => by simp [Value.ownBlock] at e, N, fun b hb => by simp [Value.ownBlock] at hb, uF⟩⟩
set_option maxHeartbeats 1000000 in
theorem rlretire_no (E : RLim w p F R) (Rd2 : Rd w v items) (h : ¬ (items ≠ [] ∧ (0 ≤ tag ∧ R.last ≤ tag) ∧ tag ≤ 4611686018427387903)) :
    Calls Tryz.prog 99 #[.pointer (some ⟨p, 0, none⟩), .int .i64 tag, v] w fun e w' => e = .returned (.tuple #[.slice none 0 0, .bool false]) ∧ w = w' := by
  obtain ⟨V, E⟩ := E
  obtain ⟨A, cap, rfl⟩ := Rd2.slice
  have c6 := E.cells.2.2.2.2.2.2
  clear E Rd2
  by_cases h0 : items = []
  · have e0 : items.length = 0 := by rw [h0]; rfl
    rw [e0]
    clear h
    go_enter Tryz.func99, Tryz.ntmps99
    go_wp2_with fail
    go_ret2
    exact ⟨rfl, rfl⟩
  · have hp2 : ((items.length : Int) == 0) = false := by simpa using h0
    have H0 := Lib.hid h0
    have HH := Lib.hid h
    clear h h0
    by_cases h1 : tag < 0
    · go_enter Tryz.func99, Tryz.ntmps99
      go_wp2_with fail
      go_ret2
      exact ⟨rfl, rfl⟩
    · by_cases h2 : 4611686018427387903 < tag
      · go_enter Tryz.func99, Tryz.ntmps99
        go_wp2_with fail
        go_ret2
        exact ⟨rfl, rfl⟩
      · have h3 : tag < R.last := by
          rcases Int.lt_or_le tag R.last with h' | h'
          · exact h'
          · exact absurd ⟨H0.out, ⟨by omega, h'⟩, by omega⟩ HH.out
        go_enter Tryz.func99, Tryz.ntmps99
        go_wp2_with fail
        go_ret2
        exact ⟨rfl, rfl⟩
set_option maxHeartbeats 4000000 in
theorem rlretire_0a (E : RLim w p F R) (Rd2 : Rd w v items) (Aw : Away v F) (h0 : items ≠ []) (h1 : 0 ≤ tag ∧ R.last ≤ tag) (h2 : tag ≤ 4611686018427387903) (hk : tag % 3 = 0) (hs : R.size + items.length ≤ 8192) (hl0 : R.L 0 ≠ []) (ht : R.T 0 < tag) :
    Calls Tryz.prog 99 #[.pointer (some ⟨p, 0, none⟩), .int .i64 tag, v] w fun e w' => ∃ o, e = .returned (.tuple #[o, .bool true]) ∧ RTook w w' p F (R.rretire 0 tag items) (R.rtaken 0 tag) o := by
  have e1 : R.rretire 0 tag items = (R.rclear 0).add 0 tag items := by unfold Lb.rretire; rw [if_pos ⟨hl0, ht⟩]
  have e2 : R.rtaken 0 tag = R.L 0 := by unfold Lb.rtaken; rw [if_pos ⟨hl0, ht⟩]
  rw [e1, e2]
  clear e1 e2
  obtain ⟨V, E⟩ := E
  obtain ⟨A, cap, rfl⟩ := Rd2.slice
  obtain ⟨c0, c1, c2, c3, c4, c5, c6⟩ := E.cells
  obtain ⟨A0, d0, A1, d1, A2, d2, z0, z1, z2⟩ := E.slices
  have f := E.top.frozen
  have hp2 : ((items.length : Int) == 0) = false := by simpa using h0
  have t0 : ¬ tag < 0 := by omega
  have t1 : ¬ 4611686018427387903 < tag := by omega
  have t2 : ¬ tag < R.last := by omega
  have hm : tag.tmod 3 = 0 := by rw [Int.tmod_eq_emod_of_nonneg h1.1]; exact hk
  have hlk : (R.L 0).length + items.length ≤ 8192 := by have : (R.L 0).length ≤ R.size := Lb.len_le (by decide); omega
  have hq := E.lt p E.mem
  have HE := Lib.hid E
  have HR := Lib.hid Rd2
  have HA := Lib.hid (show Away (.slice A items.length cap) [p] from fun b hb e => by simp at hb; subst hb; exact Aw _ E.mem e)
  obtain ⟨nI, hnI⟩ : ∃ n, items.length = n := ⟨_, rfl⟩
  have HNI := Lib.hid hnI
  rw [hnI] at HR HA hp2 hlk ⊢
  clear E Rd2 Aw h0 hk hnI hs h1
  have hpos : 0 < (R.L 0).length := List.length_pos_iff.2 hl0
  obtain ⟨NK, hNK⟩ : ∃ n, (R.L 0).length = n := ⟨_, rfl⟩
  have HNK := Lib.hid hNK
  rw [hNK] at z0 hpos hlk
  rw [z0] at c3
  have HZ := Lib.hid z0
  clear z0 z1 z2 hl0 hNK
  go_enter Tryz.func99, Tryz.ntmps99
  go_upto_region 10 with fail
  have HT3 := Lib.hid (((HE.out.top.set 6 (.int .i64 tag)).set 3 (.slice none 0 0)).set 0 (.int .i64 tag))
  have HU3 := Lib.hid ((((Else.refl [p] w).set (p := ⟨p, 6, none⟩) (.inl (by simp)) (.int .i64 tag)).set (p := ⟨p, 3, none⟩) (.inl (by simp)) (.slice none 0 0)).set (p := ⟨p, 0, none⟩) (.inl (by simp)) (.int .i64 tag))
  have hz3 : (((w.setCell ⟨p, 6, none⟩ (.int .i64 tag)).setCell ⟨p, 3, none⟩ (.slice none 0 0)).setCell ⟨p, 0, none⟩ (.int .i64 tag)).heap.size = w.heap.size := by simp
  generalize (((w.setCell ⟨p, 6, none⟩ (.int .i64 tag)).setCell ⟨p, 3, none⟩ (.slice none 0 0)).setCell ⟨p, 0, none⟩ (.int .i64 tag)) = w3 at *
  have HRK := Lib.hid (show Rd w3 (.slice none 0 0) ([]) from Rd.nil w3)
  have HRI := Lib.hid (HR.out.else HU3.out HA.out)
  have m3 := HT3.out.cell (i := 3) rfl
  clear c0 c1 c2 c3 c4 c5 c6 f
  go_region_law (first
    | (refine step_app (v := .slice none 0 0) (by rfl) _ _ (by rfl) (by rfl) (by rfl) (Ints.nil _) (HRK.out.up (up_drew _)) (by simp) ?_; intro v5 w5 J5 G5 A5; obtain ⟨B5, M5, e5, rfl⟩ := shapeI J5; have HJ5 := Lib.hid J5; have HU5 := Lib.hid (up_app (up_drew w3) G5 (fresh_nil _)); have HF5 := Lib.hid (fresh_app (fresh_nil w3) (up_drew w3).size A5); clear J5 G5 A5)
    | (refine step_app (by rfl) _ _ (by rfl) (by rfl) (by rfl) HJ5.out (HRI.out.up HU5.out) (by rw [HNI.out]; simp; omega) ?_; intro v6 w6 J6 G6 A6; obtain ⟨B6, M6, e6, rfl⟩ := shapeI J6; have HJ6 := Lib.hid J6; have HU6 := Lib.hid (up_app HU5.out G6 HF5.out); have HF6 := Lib.hid (fresh_app HF5.out HU5.out.size A6); have y6 := (HT3.out.up HU6.out).cell (i := 3) rfl; have g6 := (HT3.out.up HU6.out).frozen 3; clear J6 G6 A6))
  all_goals
    clear m3
    go_wp2_with fail
    go_ret2
    exact ⟨_, rfl, HZ.out ▸ (RLimV.done (R' := (R.rclear 0).add 0 tag items) (k := 0) HE.out (by decide) HU3.out hz3 HU6.out HJ6.out HF6.out (put_put _ _ _ _) ((HT3.out.up HU6.out).set 3 _)).1⟩
set_option maxHeartbeats 4000000 in
theorem rlretire_0b (E : RLim w p F R) (Rd2 : Rd w v items) (Aw : Away v F) (h0 : items ≠ []) (h1 : 0 ≤ tag ∧ R.last ≤ tag) (h2 : tag ≤ 4611686018427387903) (hk : tag % 3 = 0) (hs : R.size + items.length ≤ 8192) (hl0 : R.L 0 = []) :
    Calls Tryz.prog 99 #[.pointer (some ⟨p, 0, none⟩), .int .i64 tag, v] w fun e w' => ∃ o, e = .returned (.tuple #[o, .bool true]) ∧ RTook w w' p F (R.rretire 0 tag items) (R.rtaken 0 tag) o := by
  have e1 : R.rretire 0 tag items = R.add 0 tag items := by unfold Lb.rretire; rw [if_neg (fun h => h.1 hl0)]
  have e2 : R.rtaken 0 tag = [] := by unfold Lb.rtaken; rw [if_neg (fun h => h.1 hl0)]
  rw [e1, e2]
  clear e1 e2
  obtain ⟨V, E⟩ := E
  obtain ⟨A, cap, rfl⟩ := Rd2.slice
  obtain ⟨c0, c1, c2, c3, c4, c5, c6⟩ := E.cells
  obtain ⟨A0, d0, A1, d1, A2, d2, z0, z1, z2⟩ := E.slices
  have f := E.top.frozen
  have hp2 : ((items.length : Int) == 0) = false := by simpa using h0
  have t0 : ¬ tag < 0 := by omega
  have t1 : ¬ 4611686018427387903 < tag := by omega
  have t2 : ¬ tag < R.last := by omega
  have hm : tag.tmod 3 = 0 := by rw [Int.tmod_eq_emod_of_nonneg h1.1]; exact hk
  have hlk : (R.L 0).length + items.length ≤ 8192 := by have : (R.L 0).length ≤ R.size := Lb.len_le (by decide); omega
  have hq := E.lt p E.mem
  have HE := Lib.hid E
  have HR := Lib.hid Rd2
  have HA := Lib.hid (show Away (.slice A items.length cap) [p] from fun b hb e => by simp at hb; subst hb; exact Aw _ E.mem e)
  obtain ⟨nI, hnI⟩ : ∃ n, items.length = n := ⟨_, rfl⟩
  have HNI := Lib.hid hnI
  rw [hnI] at HR HA hp2 hlk ⊢
  clear E Rd2 Aw h0 hk hnI hs h1
  have hN : (R.L 0).length = 0 := by rw [hl0]; rfl
  rw [hN] at z0
  rw [z0] at c3
  have HZ := Lib.hid z0
  clear z0 z1 z2 hN
  go_enter Tryz.func99, Tryz.ntmps99
  go_upto_region 10 with fail
  have HT3 := Lib.hid ((HE.out.top.set 6 (.int .i64 tag)).set 0 (.int .i64 tag))
  have HU3 := Lib.hid (((Else.refl [p] w).set (p := ⟨p, 6, none⟩) (.inl (by simp)) (.int .i64 tag)).set (p := ⟨p, 0, none⟩) (.inl (by simp)) (.int .i64 tag))
  have hz3 : ((w.setCell ⟨p, 6, none⟩ (.int .i64 tag)).setCell ⟨p, 0, none⟩ (.int .i64 tag)).heap.size = w.heap.size := by simp
  generalize ((w.setCell ⟨p, 6, none⟩ (.int .i64 tag)).setCell ⟨p, 0, none⟩ (.int .i64 tag)) = w3 at *
  have HRK := Lib.hid (show Rd w3 (.slice A0 0 d0) (R.L 0) from (HZ.out ▸ (HE.out.ints 0 (by decide)).rd : Rd w (.slice A0 0 d0) (R.L 0)).else HU3.out (fun b hb e => by simp at hb; subst hb; exact HE.out.nq 0 (by decide) (HZ.out ▸ e)))
  have HRI := Lib.hid (HR.out.else HU3.out HA.out)
  have m3 := HT3.out.cell (i := 3) rfl
  clear c0 c1 c2 c3 c4 c5 c6 f
  have m3' : w3.cell? ⟨p, 3, none⟩ = some (.slice A0 0 d0) := HZ.out ▸ m3
  clear m3
  go_region_law (first
    | (refine step_app (v := .slice none 0 0) (by rfl) _ _ (by rfl) (by rfl) (by rfl) (Ints.nil _) (HRK.out.up (up_drew _)) (by simp; omega) ?_; intro v5 w5 J5 G5 A5; obtain ⟨B5, M5, e5, rfl⟩ := shapeI J5; have HJ5 := Lib.hid J5; have HU5 := Lib.hid (up_app (up_drew w3) G5 (fresh_nil _)); have HF5 := Lib.hid (fresh_app (fresh_nil w3) (up_drew w3).size A5); clear J5 G5 A5)
    | (refine step_app (by rfl) _ _ (by rfl) (by rfl) (by rfl) HJ5.out (HRI.out.up HU5.out) (by rw [HNI.out]; simp; omega) ?_; intro v6 w6 J6 G6 A6; obtain ⟨B6, M6, e6, rfl⟩ := shapeI J6; have HJ6 := Lib.hid J6; have HU6 := Lib.hid (up_app HU5.out G6 HF5.out); have HF6 := Lib.hid (fresh_app HF5.out HU5.out.size A6); have y6 := (HT3.out.up HU6.out).cell (i := 3) rfl; have g6 := (HT3.out.up HU6.out).frozen 3; clear J6 G6 A6))
  all_goals
    clear m3'
    go_wp2_with fail
    go_ret2
    exact ⟨_, rfl, (RLimV.done (R' := R.add 0 tag items) (k := 0) HE.out (by decide) HU3.out hz3 HU6.out HJ6.out HF6.out rfl ((HT3.out.up HU6.out).set 3 _)).2⟩
set_option maxHeartbeats 4000000 in
theorem rlretire_0c (E : RLim w p F R) (Rd2 : Rd w v items) (Aw : Away v F) (h0 : items ≠ []) (h1 : 0 ≤ tag ∧ R.last ≤ tag) (h2 : tag ≤ 4611686018427387903) (hk : tag % 3 = 0) (hs : R.size + items.length ≤ 8192) (hl0 : R.L 0 ≠ []) (ht : ¬ R.T 0 < tag) :
    Calls Tryz.prog 99 #[.pointer (some ⟨p, 0, none⟩), .int .i64 tag, v] w fun e w' => ∃ o, e = .returned (.tuple #[o, .bool true]) ∧ RTook w w' p F (R.rretire 0 tag items) (R.rtaken 0 tag) o := by
  have e1 : R.rretire 0 tag items = R.add 0 tag items := by unfold Lb.rretire; rw [if_neg (fun h => ht h.2)]
  have e2 : R.rtaken 0 tag = [] := by unfold Lb.rtaken; rw [if_neg (fun h => ht h.2)]
  rw [e1, e2]
  clear e1 e2
  obtain ⟨V, E⟩ := E
  obtain ⟨A, cap, rfl⟩ := Rd2.slice
  obtain ⟨c0, c1, c2, c3, c4, c5, c6⟩ := E.cells
  obtain ⟨A0, d0, A1, d1, A2, d2, z0, z1, z2⟩ := E.slices
  have f := E.top.frozen
  have hp2 : ((items.length : Int) == 0) = false := by simpa using h0
  have t0 : ¬ tag < 0 := by omega
  have t1 : ¬ 4611686018427387903 < tag := by omega
  have t2 : ¬ tag < R.last := by omega
  have hm : tag.tmod 3 = 0 := by rw [Int.tmod_eq_emod_of_nonneg h1.1]; exact hk
  have hlk : (R.L 0).length + items.length ≤ 8192 := by have : (R.L 0).length ≤ R.size := Lb.len_le (by decide); omega
  have hq := E.lt p E.mem
  have HE := Lib.hid E
  have HR := Lib.hid Rd2
  have HA := Lib.hid (show Away (.slice A items.length cap) [p] from fun b hb e => by simp at hb; subst hb; exact Aw _ E.mem e)
  obtain ⟨nI, hnI⟩ : ∃ n, items.length = n := ⟨_, rfl⟩
  have HNI := Lib.hid hnI
  rw [hnI] at HR HA hp2 hlk ⊢
  clear E Rd2 Aw h0 hk hnI hs h1
  have hpos : 0 < (R.L 0).length := List.length_pos_iff.2 hl0
  obtain ⟨NK, hNK⟩ : ∃ n, (R.L 0).length = n := ⟨_, rfl⟩
  have HNK := Lib.hid hNK
  rw [hNK] at z0 hpos hlk
  rw [z0] at c3
  have HZ := Lib.hid z0
  clear z0 z1 z2 hl0 hNK
  have ht2 : decide (R.T 0 < tag) = false := decide_eq_false ht
  go_enter Tryz.func99, Tryz.ntmps99
  go_upto_region 10 with fail
  have HT3 := Lib.hid ((HE.out.top.set 6 (.int .i64 tag)).set 0 (.int .i64 tag))
  have HU3 := Lib.hid (((Else.refl [p] w).set (p := ⟨p, 6, none⟩) (.inl (by simp)) (.int .i64 tag)).set (p := ⟨p, 0, none⟩) (.inl (by simp)) (.int .i64 tag))
  have hz3 : ((w.setCell ⟨p, 6, none⟩ (.int .i64 tag)).setCell ⟨p, 0, none⟩ (.int .i64 tag)).heap.size = w.heap.size := by simp
  generalize ((w.setCell ⟨p, 6, none⟩ (.int .i64 tag)).setCell ⟨p, 0, none⟩ (.int .i64 tag)) = w3 at *
  have HRK := Lib.hid (show Rd w3 (.slice A0 NK d0) (R.L 0) from (HZ.out ▸ (HE.out.ints 0 (by decide)).rd : Rd w (.slice A0 NK d0) (R.L 0)).else HU3.out (fun b hb e => by simp at hb; subst hb; exact HE.out.nq 0 (by decide) (HZ.out ▸ e)))
  have HRI := Lib.hid (HR.out.else HU3.out HA.out)
  have m3 := HT3.out.cell (i := 3) rfl
  clear c0 c1 c2 c3 c4 c5 c6 f
  have m3' : w3.cell? ⟨p, 3, none⟩ = some (.slice A0 NK d0) := HZ.out ▸ m3
  clear m3
  go_region_law (first
    | (refine step_app (v := .slice none 0 0) (by rfl) _ _ (by rfl) (by rfl) (by rfl) (Ints.nil _) (HRK.out.up (up_drew _)) (by rw [HNK.out]; simp; omega) ?_; intro v5 w5 J5 G5 A5; obtain ⟨B5, M5, e5, rfl⟩ := shapeI J5; have HJ5 := Lib.hid J5; have HU5 := Lib.hid (up_app (up_drew w3) G5 (fresh_nil _)); have HF5 := Lib.hid (fresh_app (fresh_nil w3) (up_drew w3).size A5); clear J5 G5 A5)
    | (refine step_app (by rfl) _ _ (by rfl) (by rfl) (by rfl) HJ5.out (HRI.out.up HU5.out) (by rw [HNI.out]; simp; have := HNK.out; omega) ?_; intro v6 w6 J6 G6 A6; obtain ⟨B6, M6, e6, rfl⟩ := shapeI J6; have HJ6 := Lib.hid J6; have HU6 := Lib.hid (up_app HU5.out G6 HF5.out); have HF6 := Lib.hid (fresh_app HF5.out HU5.out.size A6); have y6 := (HT3.out.up HU6.out).cell (i := 3) rfl; have g6 := (HT3.out.up HU6.out).frozen 3; clear J6 G6 A6))
  all_goals
    clear m3'
    go_wp2_with fail
    go_ret2
    exact ⟨_, rfl, (RLimV.done (R' := R.add 0 tag items) (k := 0) HE.out (by decide) HU3.out hz3 HU6.out HJ6.out HF6.out rfl ((HT3.out.up HU6.out).set 3 _)).2⟩
set_option maxHeartbeats 4000000 in
theorem rlretire_1a (E : RLim w p F R) (Rd2 : Rd w v items) (Aw : Away v F) (h0 : items ≠ []) (h1 : 0 ≤ tag ∧ R.last ≤ tag) (h2 : tag ≤ 4611686018427387903) (hk : tag % 3 = 1) (hs : R.size + items.length ≤ 8192) (hl0 : R.L 1 ≠ []) (ht : R.T 1 < tag) :
    Calls Tryz.prog 99 #[.pointer (some ⟨p, 0, none⟩), .int .i64 tag, v] w fun e w' => ∃ o, e = .returned (.tuple #[o, .bool true]) ∧ RTook w w' p F (R.rretire 1 tag items) (R.rtaken 1 tag) o := by
  have e1 : R.rretire 1 tag items = (R.rclear 1).add 1 tag items := by unfold Lb.rretire; rw [if_pos ⟨hl0, ht⟩]
  have e2 : R.rtaken 1 tag = R.L 1 := by unfold Lb.rtaken; rw [if_pos ⟨hl0, ht⟩]
  rw [e1, e2]
  clear e1 e2
  obtain ⟨V, E⟩ := E
  obtain ⟨A, cap, rfl⟩ := Rd2.slice
  obtain ⟨c0, c1, c2, c3, c4, c5, c6⟩ := E.cells
  obtain ⟨A0, d0, A1, d1, A2, d2, z0, z1, z2⟩ := E.slices
  have f := E.top.frozen
  have hp2 : ((items.length : Int) == 0) = false := by simpa using h0
  have t0 : ¬ tag < 0 := by omega
  have t1 : ¬ 4611686018427387903 < tag := by omega
  have t2 : ¬ tag < R.last := by omega
  have hm : tag.tmod 3 = 1 := by rw [Int.tmod_eq_emod_of_nonneg h1.1]; exact hk
  have hlk : (R.L 1).length + items.length ≤ 8192 := by have : (R.L 1).length ≤ R.size := Lb.len_le (by decide); omega
  have hq := E.lt p E.mem
  have HE := Lib.hid E
  have HR := Lib.hid Rd2
  have HA := Lib.hid (show Away (.slice A items.length cap) [p] from fun b hb e => by simp at hb; subst hb; exact Aw _ E.mem e)
  obtain ⟨nI, hnI⟩ : ∃ n, items.length = n := ⟨_, rfl⟩
  have HNI := Lib.hid hnI
  rw [hnI] at HR HA hp2 hlk ⊢
  clear E Rd2 Aw h0 hk hnI hs h1
  have hpos : 0 < (R.L 1).length := List.length_pos_iff.2 hl0
  obtain ⟨NK, hNK⟩ : ∃ n, (R.L 1).length = n := ⟨_, rfl⟩
  have HNK := Lib.hid hNK
  rw [hNK] at z1 hpos hlk
  rw [z1] at c4
  have HZ := Lib.hid z1
  clear z0 z1 z2 hl0 hNK
  go_enter Tryz.func99, Tryz.ntmps99
  go_upto_region 10 with fail
  have HT3 := Lib.hid (((HE.out.top.set 6 (.int .i64 tag)).set 4 (.slice none 0 0)).set 1 (.int .i64 tag))
  have HU3 := Lib.hid ((((Else.refl [p] w).set (p := ⟨p, 6, none⟩) (.inl (by simp)) (.int .i64 tag)).set (p := ⟨p, 4, none⟩) (.inl (by simp)) (.slice none 0 0)).set (p := ⟨p, 1, none⟩) (.inl (by simp)) (.int .i64 tag))
  have hz3 : (((w.setCell ⟨p, 6, none⟩ (.int .i64 tag)).setCell ⟨p, 4, none⟩ (.slice none 0 0)).setCell ⟨p, 1, none⟩ (.int .i64 tag)).heap.size = w.heap.size := by simp
  generalize (((w.setCell ⟨p, 6, none⟩ (.int .i64 tag)).setCell ⟨p, 4, none⟩ (.slice none 0 0)).setCell ⟨p, 1, none⟩ (.int .i64 tag)) = w3 at *
  have HRK := Lib.hid (show Rd w3 (.slice none 0 0) ([]) from Rd.nil w3)
  have HRI := Lib.hid (HR.out.else HU3.out HA.out)
  have m4 := HT3.out.cell (i := 4) rfl
  clear c0 c1 c2 c3 c4 c5 c6 f
  go_region_law (first
    | (refine step_app (v := .slice none 0 0) (by rfl) _ _ (by rfl) (by rfl) (by rfl) (Ints.nil _) (HRK.out.up (up_drew _)) (by simp) ?_; intro v5 w5 J5 G5 A5; obtain ⟨B5, M5, e5, rfl⟩ := shapeI J5; have HJ5 := Lib.hid J5; have HU5 := Lib.hid (up_app (up_drew w3) G5 (fresh_nil _)); have HF5 := Lib.hid (fresh_app (fresh_nil w3) (up_drew w3).size A5); clear J5 G5 A5)
    | (refine step_app (by rfl) _ _ (by rfl) (by rfl) (by rfl) HJ5.out (HRI.out.up HU5.out) (by rw [HNI.out]; simp; omega) ?_; intro v6 w6 J6 G6 A6; obtain ⟨B6, M6, e6, rfl⟩ := shapeI J6; have HJ6 := Lib.hid J6; have HU6 := Lib.hid (up_app HU5.out G6 HF5.out); have HF6 := Lib.hid (fresh_app HF5.out HU5.out.size A6); have y6 := (HT3.out.up HU6.out).cell (i := 4) rfl; have g6 := (HT3.out.up HU6.out).frozen 4; clear J6 G6 A6))
  all_goals
    clear m4
    go_wp2_with fail
    go_ret2
    exact ⟨_, rfl, HZ.out ▸ (RLimV.done (R' := (R.rclear 1).add 1 tag items) (k := 1) HE.out (by decide) HU3.out hz3 HU6.out HJ6.out HF6.out (put_put _ _ _ _) ((HT3.out.up HU6.out).set 4 _)).1⟩
set_option maxHeartbeats 4000000 in
theorem rlretire_1b (E : RLim w p F R) (Rd2 : Rd w v items) (Aw : Away v F) (h0 : items ≠ []) (h1 : 0 ≤ tag ∧ R.last ≤ tag) (h2 : tag ≤ 4611686018427387903) (hk : tag % 3 = 1) (hs : R.size + items.length ≤ 8192) (hl0 : R.L 1 = []) :
    Calls Tryz.prog 99 #[.pointer (some ⟨p, 0, none⟩), .int .i64 tag, v] w fun e w' => ∃ o, e = .returned (.tuple #[o, .bool true]) ∧ RTook w w' p F (R.rretire 1 tag items) (R.rtaken 1 tag) o := by
  have e1 : R.rretire 1 tag items = R.add 1 tag items := by unfold Lb.rretire; rw [if_neg (fun h => h.1 hl0)]
  have e2 : R.rtaken 1 tag = [] := by unfold Lb.rtaken; rw [if_neg (fun h => h.1 hl0)]
  rw [e1, e2]
  clear e1 e2
  obtain ⟨V, E⟩ := E
  obtain ⟨A, cap, rfl⟩ := Rd2.slice
  obtain ⟨c0, c1, c2, c3, c4, c5, c6⟩ := E.cells
  obtain ⟨A0, d0, A1, d1, A2, d2, z0, z1, z2⟩ := E.slices
  have f := E.top.frozen
  have hp2 : ((items.length : Int) == 0) = false := by simpa using h0
  have t0 : ¬ tag < 0 := by omega
  have t1 : ¬ 4611686018427387903 < tag := by omega
  have t2 : ¬ tag < R.last := by omega
  have hm : tag.tmod 3 = 1 := by rw [Int.tmod_eq_emod_of_nonneg h1.1]; exact hk
  have hlk : (R.L 1).length + items.length ≤ 8192 := by have : (R.L 1).length ≤ R.size := Lb.len_le (by decide); omega
  have hq := E.lt p E.mem
  have HE := Lib.hid E
  have HR := Lib.hid Rd2
  have HA := Lib.hid (show Away (.slice A items.length cap) [p] from fun b hb e => by simp at hb; subst hb; exact Aw _ E.mem e)
  obtain ⟨nI, hnI⟩ : ∃ n, items.length = n := ⟨_, rfl⟩
  have HNI := Lib.hid hnI
  rw [hnI] at HR HA hp2 hlk ⊢
  clear E Rd2 Aw h0 hk hnI hs h1
  have hN : (R.L 1).length = 0 := by rw [hl0]; rfl
  rw [hN] at z1
  rw [z1] at c4
  have HZ := Lib.hid z1
  clear z0 z1 z2 hN
  go_enter Tryz.func99, Tryz.ntmps99
  go_upto_region 10 with fail
  have HT3 := Lib.hid ((HE.out.top.set 6 (.int .i64 tag)).set 1 (.int .i64 tag))
  have HU3 := Lib.hid (((Else.refl [p] w).set (p := ⟨p, 6, none⟩) (.inl (by simp)) (.int .i64 tag)).set (p := ⟨p, 1, none⟩) (.inl (by simp)) (.int .i64 tag))
  have hz3 : ((w.setCell ⟨p, 6, none⟩ (.int .i64 tag)).setCell ⟨p, 1, none⟩ (.int .i64 tag)).heap.size = w.heap.size := by simp
  generalize ((w.setCell ⟨p, 6, none⟩ (.int .i64 tag)).setCell ⟨p, 1, none⟩ (.int .i64 tag)) = w3 at *
  have HRK := Lib.hid (show Rd w3 (.slice A1 0 d1) (R.L 1) from (HZ.out ▸ (HE.out.ints 1 (by decide)).rd : Rd w (.slice A1 0 d1) (R.L 1)).else HU3.out (fun b hb e => by simp at hb; subst hb; exact HE.out.nq 1 (by decide) (HZ.out ▸ e)))
  have HRI := Lib.hid (HR.out.else HU3.out HA.out)
  have m4 := HT3.out.cell (i := 4) rfl
  clear c0 c1 c2 c3 c4 c5 c6 f
  have m4' : w3.cell? ⟨p, 4, none⟩ = some (.slice A1 0 d1) := HZ.out ▸ m4
  clear m4
  go_region_law (first
    | (refine step_app (v := .slice none 0 0) (by rfl) _ _ (by rfl) (by rfl) (by rfl) (Ints.nil _) (HRK.out.up (up_drew _)) (by simp; omega) ?_; intro v5 w5 J5 G5 A5; obtain ⟨B5, M5, e5, rfl⟩ := shapeI J5; have HJ5 := Lib.hid J5; have HU5 := Lib.hid (up_app (up_drew w3) G5 (fresh_nil _)); have HF5 := Lib.hid (fresh_app (fresh_nil w3) (up_drew w3).size A5); clear J5 G5 A5)
    | (refine step_app (by rfl) _ _ (by rfl) (by rfl) (by rfl) HJ5.out (HRI.out.up HU5.out) (by rw [HNI.out]; simp; omega) ?_; intro v6 w6 J6 G6 A6; obtain ⟨B6, M6, e6, rfl⟩ := shapeI J6; have HJ6 := Lib.hid J6; have HU6 := Lib.hid (up_app HU5.out G6 HF5.out); have HF6 := Lib.hid (fresh_app HF5.out HU5.out.size A6); have y6 := (HT3.out.up HU6.out).cell (i := 4) rfl; have g6 := (HT3.out.up HU6.out).frozen 4; clear J6 G6 A6))
  all_goals
    clear m4'
    go_wp2_with fail
    go_ret2
    exact ⟨_, rfl, (RLimV.done (R' := R.add 1 tag items) (k := 1) HE.out (by decide) HU3.out hz3 HU6.out HJ6.out HF6.out rfl ((HT3.out.up HU6.out).set 4 _)).2⟩
set_option maxHeartbeats 4000000 in
theorem rlretire_1c (E : RLim w p F R) (Rd2 : Rd w v items) (Aw : Away v F) (h0 : items ≠ []) (h1 : 0 ≤ tag ∧ R.last ≤ tag) (h2 : tag ≤ 4611686018427387903) (hk : tag % 3 = 1) (hs : R.size + items.length ≤ 8192) (hl0 : R.L 1 ≠ []) (ht : ¬ R.T 1 < tag) :
    Calls Tryz.prog 99 #[.pointer (some ⟨p, 0, none⟩), .int .i64 tag, v] w fun e w' => ∃ o, e = .returned (.tuple #[o, .bool true]) ∧ RTook w w' p F (R.rretire 1 tag items) (R.rtaken 1 tag) o := by
  have e1 : R.rretire 1 tag items = R.add 1 tag items := by unfold Lb.rretire; rw [if_neg (fun h => ht h.2)]
  have e2 : R.rtaken 1 tag = [] := by unfold Lb.rtaken; rw [if_neg (fun h => ht h.2)]
  rw [e1, e2]
  clear e1 e2
  obtain ⟨V, E⟩ := E
  obtain ⟨A, cap, rfl⟩ := Rd2.slice
  obtain ⟨c0, c1, c2, c3, c4, c5, c6⟩ := E.cells
  obtain ⟨A0, d0, A1, d1, A2, d2, z0, z1, z2⟩ := E.slices
  have f := E.top.frozen
  have hp2 : ((items.length : Int) == 0) = false := by simpa using h0
  have t0 : ¬ tag < 0 := by omega
  have t1 : ¬ 4611686018427387903 < tag := by omega
  have t2 : ¬ tag < R.last := by omega
  have hm : tag.tmod 3 = 1 := by rw [Int.tmod_eq_emod_of_nonneg h1.1]; exact hk
  have hlk : (R.L 1).length + items.length ≤ 8192 := by have : (R.L 1).length ≤ R.size := Lb.len_le (by decide); omega
  have hq := E.lt p E.mem
  have HE := Lib.hid E
  have HR := Lib.hid Rd2
  have HA := Lib.hid (show Away (.slice A items.length cap) [p] from fun b hb e => by simp at hb; subst hb; exact Aw _ E.mem e)
  obtain ⟨nI, hnI⟩ : ∃ n, items.length = n := ⟨_, rfl⟩
  have HNI := Lib.hid hnI
  rw [hnI] at HR HA hp2 hlk ⊢
  clear E Rd2 Aw h0 hk hnI hs h1
  have hpos : 0 < (R.L 1).length := List.length_pos_iff.2 hl0
  obtain ⟨NK, hNK⟩ : ∃ n, (R.L 1).length = n := ⟨_, rfl⟩
  have HNK := Lib.hid hNK
  rw [hNK] at z1 hpos hlk
  rw [z1] at c4
  have HZ := Lib.hid z1
  clear z0 z1 z2 hl0 hNK
  have ht2 : decide (R.T 1 < tag) = false := decide_eq_false ht
  go_enter Tryz.func99, Tryz.ntmps99
  go_upto_region 10 with fail
  have HT3 := Lib.hid ((HE.out.top.set 6 (.int .i64 tag)).set 1 (.int .i64 tag))
  have HU3 := Lib.hid (((Else.refl [p] w).set (p := ⟨p, 6, none⟩) (.inl (by simp)) (.int .i64 tag)).set (p := ⟨p, 1, none⟩) (.inl (by simp)) (.int .i64 tag))
  have hz3 : ((w.setCell ⟨p, 6, none⟩ (.int .i64 tag)).setCell ⟨p, 1, none⟩ (.int .i64 tag)).heap.size = w.heap.size := by simp
  generalize ((w.setCell ⟨p, 6, none⟩ (.int .i64 tag)).setCell ⟨p, 1, none⟩ (.int .i64 tag)) = w3 at *
  have HRK := Lib.hid (show Rd w3 (.slice A1 NK d1) (R.L 1) from (HZ.out ▸ (HE.out.ints 1 (by decide)).rd : Rd w (.slice A1 NK d1) (R.L 1)).else HU3.out (fun b hb e => by simp at hb; subst hb; exact HE.out.nq 1 (by decide) (HZ.out ▸ e)))
  have HRI := Lib.hid (HR.out.else HU3.out HA.out)
  have m4 := HT3.out.cell (i := 4) rfl
  clear c0 c1 c2 c3 c4 c5 c6 f
  have m4' : w3.cell? ⟨p, 4, none⟩ = some (.slice A1 NK d1) := HZ.out ▸ m4
  clear m4
  go_region_law (first
    | (refine step_app (v := .slice none 0 0) (by rfl) _ _ (by rfl) (by rfl) (by rfl) (Ints.nil _) (HRK.out.up (up_drew _)) (by rw [HNK.out]; simp; omega) ?_; intro v5 w5 J5 G5 A5; obtain ⟨B5, M5, e5, rfl⟩ := shapeI J5; have HJ5 := Lib.hid J5; have HU5 := Lib.hid (up_app (up_drew w3) G5 (fresh_nil _)); have HF5 := Lib.hid (fresh_app (fresh_nil w3) (up_drew w3).size A5); clear J5 G5 A5)
    | (refine step_app (by rfl) _ _ (by rfl) (by rfl) (by rfl) HJ5.out (HRI.out.up HU5.out) (by rw [HNI.out]; simp; have := HNK.out; omega) ?_; intro v6 w6 J6 G6 A6; obtain ⟨B6, M6, e6, rfl⟩ := shapeI J6; have HJ6 := Lib.hid J6; have HU6 := Lib.hid (up_app HU5.out G6 HF5.out); have HF6 := Lib.hid (fresh_app HF5.out HU5.out.size A6); have y6 := (HT3.out.up HU6.out).cell (i := 4) rfl; have g6 := (HT3.out.up HU6.out).frozen 4; clear J6 G6 A6))
  all_goals
    clear m4'
    go_wp2_with fail
    go_ret2
    exact ⟨_, rfl, (RLimV.done (R' := R.add 1 tag items) (k := 1) HE.out (by decide) HU3.out hz3 HU6.out HJ6.out HF6.out rfl ((HT3.out.up HU6.out).set 4 _)).2⟩
set_option maxHeartbeats 4000000 in
theorem rlretire_2a (E : RLim w p F R) (Rd2 : Rd w v items) (Aw : Away v F) (h0 : items ≠ []) (h1 : 0 ≤ tag ∧ R.last ≤ tag) (h2 : tag ≤ 4611686018427387903) (hk : tag % 3 = 2) (hs : R.size + items.length ≤ 8192) (hl0 : R.L 2 ≠ []) (ht : R.T 2 < tag) :
    Calls Tryz.prog 99 #[.pointer (some ⟨p, 0, none⟩), .int .i64 tag, v] w fun e w' => ∃ o, e = .returned (.tuple #[o, .bool true]) ∧ RTook w w' p F (R.rretire 2 tag items) (R.rtaken 2 tag) o := by
  have e1 : R.rretire 2 tag items = (R.rclear 2).add 2 tag items := by unfold Lb.rretire; rw [if_pos ⟨hl0, ht⟩]
  have e2 : R.rtaken 2 tag = R.L 2 := by unfold Lb.rtaken; rw [if_pos ⟨hl0, ht⟩]
  rw [e1, e2]
  clear e1 e2
  obtain ⟨V, E⟩ := E
  obtain ⟨A, cap, rfl⟩ := Rd2.slice
  obtain ⟨c0, c1, c2, c3, c4, c5, c6⟩ := E.cells
  obtain ⟨A0, d0, A1, d1, A2, d2, z0, z1, z2⟩ := E.slices
  have f := E.top.frozen
  have hp2 : ((items.length : Int) == 0) = false := by simpa using h0
  have t0 : ¬ tag < 0 := by omega
  have t1 : ¬ 4611686018427387903 < tag := by omega
  have t2 : ¬ tag < R.last := by omega
  have hm : tag.tmod 3 = 2 := by rw [Int.tmod_eq_emod_of_nonneg h1.1]; exact hk
  have hlk : (R.L 2).length + items.length ≤ 8192 := by have : (R.L 2).length ≤ R.size := Lb.len_le (by decide); omega
  have hq := E.lt p E.mem
  have HE := Lib.hid E
  have HR := Lib.hid Rd2
  have HA := Lib.hid (show Away (.slice A items.length cap) [p] from fun b hb e => by simp at hb; subst hb; exact Aw _ E.mem e)
  obtain ⟨nI, hnI⟩ : ∃ n, items.length = n := ⟨_, rfl⟩
  have HNI := Lib.hid hnI
  rw [hnI] at HR HA hp2 hlk ⊢
  clear E Rd2 Aw h0 hk hnI hs h1
  have hpos : 0 < (R.L 2).length := List.length_pos_iff.2 hl0
  obtain ⟨NK, hNK⟩ : ∃ n, (R.L 2).length = n := ⟨_, rfl⟩
  have HNK := Lib.hid hNK
  rw [hNK] at z2 hpos hlk
  rw [z2] at c5
  have HZ := Lib.hid z2
  clear z0 z1 z2 hl0 hNK
  go_enter Tryz.func99, Tryz.ntmps99
  go_upto_region 10 with fail
  have HT3 := Lib.hid (((HE.out.top.set 6 (.int .i64 tag)).set 5 (.slice none 0 0)).set 2 (.int .i64 tag))
  have HU3 := Lib.hid ((((Else.refl [p] w).set (p := ⟨p, 6, none⟩) (.inl (by simp)) (.int .i64 tag)).set (p := ⟨p, 5, none⟩) (.inl (by simp)) (.slice none 0 0)).set (p := ⟨p, 2, none⟩) (.inl (by simp)) (.int .i64 tag))
  have hz3 : (((w.setCell ⟨p, 6, none⟩ (.int .i64 tag)).setCell ⟨p, 5, none⟩ (.slice none 0 0)).setCell ⟨p, 2, none⟩ (.int .i64 tag)).heap.size = w.heap.size := by simp
  generalize (((w.setCell ⟨p, 6, none⟩ (.int .i64 tag)).setCell ⟨p, 5, none⟩ (.slice none 0 0)).setCell ⟨p, 2, none⟩ (.int .i64 tag)) = w3 at *
  have HRK := Lib.hid (show Rd w3 (.slice none 0 0) ([]) from Rd.nil w3)
  have HRI := Lib.hid (HR.out.else HU3.out HA.out)
  have m5 := HT3.out.cell (i := 5) rfl
  clear c0 c1 c2 c3 c4 c5 c6 f
  go_region_law (first
    | (refine step_app (v := .slice none 0 0) (by rfl) _ _ (by rfl) (by rfl) (by rfl) (Ints.nil _) (HRK.out.up (up_drew _)) (by simp) ?_; intro v5 w5 J5 G5 A5; obtain ⟨B5, M5, e5, rfl⟩ := shapeI J5; have HJ5 := Lib.hid J5; have HU5 := Lib.hid (up_app (up_drew w3) G5 (fresh_nil _)); have HF5 := Lib.hid (fresh_app (fresh_nil w3) (up_drew w3).size A5); clear J5 G5 A5)
    | (refine step_app (by rfl) _ _ (by rfl) (by rfl) (by rfl) HJ5.out (HRI.out.up HU5.out) (by rw [HNI.out]; simp; omega) ?_; intro v6 w6 J6 G6 A6; obtain ⟨B6, M6, e6, rfl⟩ := shapeI J6; have HJ6 := Lib.hid J6; have HU6 := Lib.hid (up_app HU5.out G6 HF5.out); have HF6 := Lib.hid (fresh_app HF5.out HU5.out.size A6); have y6 := (HT3.out.up HU6.out).cell (i := 5) rfl; have g6 := (HT3.out.up HU6.out).frozen 5; clear J6 G6 A6))
  all_goals
    clear m5
    go_wp2_with fail
    go_ret2
    exact ⟨_, rfl, HZ.out ▸ (RLimV.done (R' := (R.rclear 2).add 2 tag items) (k := 2) HE.out (by decide) HU3.out hz3 HU6.out HJ6.out HF6.out (put_put _ _ _ _) ((HT3.out.up HU6.out).set 5 _)).1⟩
set_option maxHeartbeats 4000000 in
theorem rlretire_2b (E : RLim w p F R) (Rd2 : Rd w v items) (Aw : Away v F) (h0 : items ≠ []) (h1 : 0 ≤ tag ∧ R.last ≤ tag) (h2 : tag ≤ 4611686018427387903) (hk : tag % 3 = 2) (hs : R.size + items.length ≤ 8192) (hl0 : R.L 2 = []) :
    Calls Tryz.prog 99 #[.pointer (some ⟨p, 0, none⟩), .int .i64 tag, v] w fun e w' => ∃ o, e = .returned (.tuple #[o, .bool true]) ∧ RTook w w' p F (R.rretire 2 tag items) (R.rtaken 2 tag) o := by
  have e1 : R.rretire 2 tag items = R.add 2 tag items := by unfold Lb.rretire; rw [if_neg (fun h => h.1 hl0)]
  have e2 : R.rtaken 2 tag = [] := by unfold Lb.rtaken; rw [if_neg (fun h => h.1 hl0)]
  rw [e1, e2]
  clear e1 e2
  obtain ⟨V, E⟩ := E
  obtain ⟨A, cap, rfl⟩ := Rd2.slice
  obtain ⟨c0, c1, c2, c3, c4, c5, c6⟩ := E.cells
  obtain ⟨A0, d0, A1, d1, A2, d2, z0, z1, z2⟩ := E.slices
  have f := E.top.frozen
  have hp2 : ((items.length : Int) == 0) = false := by simpa using h0
  have t0 : ¬ tag < 0 := by omega
  have t1 : ¬ 4611686018427387903 < tag := by omega
  have t2 : ¬ tag < R.last := by omega
  have hm : tag.tmod 3 = 2 := by rw [Int.tmod_eq_emod_of_nonneg h1.1]; exact hk
  have hlk : (R.L 2).length + items.length ≤ 8192 := by have : (R.L 2).length ≤ R.size := Lb.len_le (by decide); omega
  have hq := E.lt p E.mem
  have HE := Lib.hid E
  have HR := Lib.hid Rd2
  have HA := Lib.hid (show Away (.slice A items.length cap) [p] from fun b hb e => by simp at hb; subst hb; exact Aw _ E.mem e)
  obtain ⟨nI, hnI⟩ : ∃ n, items.length = n := ⟨_, rfl⟩
  have HNI := Lib.hid hnI
  rw [hnI] at HR HA hp2 hlk ⊢
  clear E Rd2 Aw h0 hk hnI hs h1
  have hN : (R.L 2).length = 0 := by rw [hl0]; rfl
  rw [hN] at z2
  rw [z2] at c5
  have HZ := Lib.hid z2
  clear z0 z1 z2 hN
  go_enter Tryz.func99, Tryz.ntmps99
  go_upto_region 10 with fail
  have HT3 := Lib.hid ((HE.out.top.set 6 (.int .i64 tag)).set 2 (.int .i64 tag))
  have HU3 := Lib.hid (((Else.refl [p] w).set (p := ⟨p, 6, none⟩) (.inl (by simp)) (.int .i64 tag)).set (p := ⟨p, 2, none⟩) (.inl (by simp)) (.int .i64 tag))
  have hz3 : ((w.setCell ⟨p, 6, none⟩ (.int .i64 tag)).setCell ⟨p, 2, none⟩ (.int .i64 tag)).heap.size = w.heap.size := by simp
  generalize ((w.setCell ⟨p, 6, none⟩ (.int .i64 tag)).setCell ⟨p, 2, none⟩ (.int .i64 tag)) = w3 at *
  have HRK := Lib.hid (show Rd w3 (.slice A2 0 d2) (R.L 2) from (HZ.out ▸ (HE.out.ints 2 (by decide)).rd : Rd w (.slice A2 0 d2) (R.L 2)).else HU3.out (fun b hb e => by simp at hb; subst hb; exact HE.out.nq 2 (by decide) (HZ.out ▸ e)))
  have HRI := Lib.hid (HR.out.else HU3.out HA.out)
  have m5 := HT3.out.cell (i := 5) rfl
  clear c0 c1 c2 c3 c4 c5 c6 f
  have m5' : w3.cell? ⟨p, 5, none⟩ = some (.slice A2 0 d2) := HZ.out ▸ m5
  clear m5
  go_region_law (first
    | (refine step_app (v := .slice none 0 0) (by rfl) _ _ (by rfl) (by rfl) (by rfl) (Ints.nil _) (HRK.out.up (up_drew _)) (by simp; omega) ?_; intro v5 w5 J5 G5 A5; obtain ⟨B5, M5, e5, rfl⟩ := shapeI J5; have HJ5 := Lib.hid J5; have HU5 := Lib.hid (up_app (up_drew w3) G5 (fresh_nil _)); have HF5 := Lib.hid (fresh_app (fresh_nil w3) (up_drew w3).size A5); clear J5 G5 A5)
    | (refine step_app (by rfl) _ _ (by rfl) (by rfl) (by rfl) HJ5.out (HRI.out.up HU5.out) (by rw [HNI.out]; simp; omega) ?_; intro v6 w6 J6 G6 A6; obtain ⟨B6, M6, e6, rfl⟩ := shapeI J6; have HJ6 := Lib.hid J6; have HU6 := Lib.hid (up_app HU5.out G6 HF5.out); have HF6 := Lib.hid (fresh_app HF5.out HU5.out.size A6); have y6 := (HT3.out.up HU6.out).cell (i := 5) rfl; have g6 := (HT3.out.up HU6.out).frozen 5; clear J6 G6 A6))
  all_goals
    clear m5'
    go_wp2_with fail
    go_ret2
    exact ⟨_, rfl, (RLimV.done (R' := R.add 2 tag items) (k := 2) HE.out (by decide) HU3.out hz3 HU6.out HJ6.out HF6.out rfl ((HT3.out.up HU6.out).set 5 _)).2⟩
set_option maxHeartbeats 4000000 in
theorem rlretire_2c (E : RLim w p F R) (Rd2 : Rd w v items) (Aw : Away v F) (h0 : items ≠ []) (h1 : 0 ≤ tag ∧ R.last ≤ tag) (h2 : tag ≤ 4611686018427387903) (hk : tag % 3 = 2) (hs : R.size + items.length ≤ 8192) (hl0 : R.L 2 ≠ []) (ht : ¬ R.T 2 < tag) :
    Calls Tryz.prog 99 #[.pointer (some ⟨p, 0, none⟩), .int .i64 tag, v] w fun e w' => ∃ o, e = .returned (.tuple #[o, .bool true]) ∧ RTook w w' p F (R.rretire 2 tag items) (R.rtaken 2 tag) o := by
  have e1 : R.rretire 2 tag items = R.add 2 tag items := by unfold Lb.rretire; rw [if_neg (fun h => ht h.2)]
  have e2 : R.rtaken 2 tag = [] := by unfold Lb.rtaken; rw [if_neg (fun h => ht h.2)]
  rw [e1, e2]
  clear e1 e2
  obtain ⟨V, E⟩ := E
  obtain ⟨A, cap, rfl⟩ := Rd2.slice
  obtain ⟨c0, c1, c2, c3, c4, c5, c6⟩ := E.cells
  obtain ⟨A0, d0, A1, d1, A2, d2, z0, z1, z2⟩ := E.slices
  have f := E.top.frozen
  have hp2 : ((items.length : Int) == 0) = false := by simpa using h0
  have t0 : ¬ tag < 0 := by omega
  have t1 : ¬ 4611686018427387903 < tag := by omega
  have t2 : ¬ tag < R.last := by omega
  have hm : tag.tmod 3 = 2 := by rw [Int.tmod_eq_emod_of_nonneg h1.1]; exact hk
  have hlk : (R.L 2).length + items.length ≤ 8192 := by have : (R.L 2).length ≤ R.size := Lb.len_le (by decide); omega
  have hq := E.lt p E.mem
  have HE := Lib.hid E
  have HR := Lib.hid Rd2
  have HA := Lib.hid (show Away (.slice A items.length cap) [p] from fun b hb e => by simp at hb; subst hb; exact Aw _ E.mem e)
  obtain ⟨nI, hnI⟩ : ∃ n, items.length = n := ⟨_, rfl⟩
  have HNI := Lib.hid hnI
  rw [hnI] at HR HA hp2 hlk ⊢
  clear E Rd2 Aw h0 hk hnI hs h1
  have hpos : 0 < (R.L 2).length := List.length_pos_iff.2 hl0
  obtain ⟨NK, hNK⟩ : ∃ n, (R.L 2).length = n := ⟨_, rfl⟩
  have HNK := Lib.hid hNK
  rw [hNK] at z2 hpos hlk
  rw [z2] at c5
  have HZ := Lib.hid z2
  clear z0 z1 z2 hl0 hNK
  have ht2 : decide (R.T 2 < tag) = false := decide_eq_false ht
  go_enter Tryz.func99, Tryz.ntmps99
  go_upto_region 10 with fail
  have HT3 := Lib.hid ((HE.out.top.set 6 (.int .i64 tag)).set 2 (.int .i64 tag))
  have HU3 := Lib.hid (((Else.refl [p] w).set (p := ⟨p, 6, none⟩) (.inl (by simp)) (.int .i64 tag)).set (p := ⟨p, 2, none⟩) (.inl (by simp)) (.int .i64 tag))
  have hz3 : ((w.setCell ⟨p, 6, none⟩ (.int .i64 tag)).setCell ⟨p, 2, none⟩ (.int .i64 tag)).heap.size = w.heap.size := by simp
  generalize ((w.setCell ⟨p, 6, none⟩ (.int .i64 tag)).setCell ⟨p, 2, none⟩ (.int .i64 tag)) = w3 at *
  have HRK := Lib.hid (show Rd w3 (.slice A2 NK d2) (R.L 2) from (HZ.out ▸ (HE.out.ints 2 (by decide)).rd : Rd w (.slice A2 NK d2) (R.L 2)).else HU3.out (fun b hb e => by simp at hb; subst hb; exact HE.out.nq 2 (by decide) (HZ.out ▸ e)))
  have HRI := Lib.hid (HR.out.else HU3.out HA.out)
  have m5 := HT3.out.cell (i := 5) rfl
  clear c0 c1 c2 c3 c4 c5 c6 f
  have m5' : w3.cell? ⟨p, 5, none⟩ = some (.slice A2 NK d2) := HZ.out ▸ m5
  clear m5
  go_region_law (first
    | (refine step_app (v := .slice none 0 0) (by rfl) _ _ (by rfl) (by rfl) (by rfl) (Ints.nil _) (HRK.out.up (up_drew _)) (by rw [HNK.out]; simp; omega) ?_; intro v5 w5 J5 G5 A5; obtain ⟨B5, M5, e5, rfl⟩ := shapeI J5; have HJ5 := Lib.hid J5; have HU5 := Lib.hid (up_app (up_drew w3) G5 (fresh_nil _)); have HF5 := Lib.hid (fresh_app (fresh_nil w3) (up_drew w3).size A5); clear J5 G5 A5)
    | (refine step_app (by rfl) _ _ (by rfl) (by rfl) (by rfl) HJ5.out (HRI.out.up HU5.out) (by rw [HNI.out]; simp; have := HNK.out; omega) ?_; intro v6 w6 J6 G6 A6; obtain ⟨B6, M6, e6, rfl⟩ := shapeI J6; have HJ6 := Lib.hid J6; have HU6 := Lib.hid (up_app HU5.out G6 HF5.out); have HF6 := Lib.hid (fresh_app HF5.out HU5.out.size A6); have y6 := (HT3.out.up HU6.out).cell (i := 5) rfl; have g6 := (HT3.out.up HU6.out).frozen 5; clear J6 G6 A6))
  all_goals
    clear m5'
    go_wp2_with fail
    go_ret2
    exact ⟨_, rfl, (RLimV.done (R' := R.add 2 tag items) (k := 2) HE.out (by decide) HU3.out hz3 HU6.out HJ6.out HF6.out rfl ((HT3.out.up HU6.out).set 5 _)).2⟩
theorem rlretire_yes (E : RLim w p F R) (Rd2 : Rd w v items) (Aw : Away v F) (h0 : items ≠ []) (h1 : 0 ≤ tag ∧ R.last ≤ tag) (h2 : tag ≤ 4611686018427387903) {k : Nat} (hk : tag % 3 = k) (hs : R.size + items.length ≤ 8192) :
    Calls Tryz.prog 99 #[.pointer (some ⟨p, 0, none⟩), .int .i64 tag, v] w fun e w' => ∃ o, e = .returned (.tuple #[o, .bool true]) ∧ RTook w w' p F (R.rretire k tag items) (R.rtaken k tag) o := by
  have : k = 0 ∨ k = 1 ∨ k = 2 := by omega
  by_cases hl : R.L k = []
  · rcases this with rfl | rfl | rfl
    · exact rlretire_0b E Rd2 Aw h0 h1 h2 hk hs hl
    · exact rlretire_1b E Rd2 Aw h0 h1 h2 hk hs hl
    · exact rlretire_2b E Rd2 Aw h0 h1 h2 hk hs hl
  · by_cases ht : R.T k < tag
    · rcases this with rfl | rfl | rfl
      · exact rlretire_0a E Rd2 Aw h0 h1 h2 hk hs hl ht
      · exact rlretire_1a E Rd2 Aw h0 h1 h2 hk hs hl ht
      · exact rlretire_2a E Rd2 Aw h0 h1 h2 hk hs hl ht
    · rcases this with rfl | rfl | rfl
      · exact rlretire_0c E Rd2 Aw h0 h1 h2 hk hs hl ht
      · exact rlretire_1c E Rd2 Aw h0 h1 h2 hk hs hl ht
      · exact rlretire_2c E Rd2 Aw h0 h1 h2 hk hs hl ht
end
end Go.Proofs.YtkopplnjomkleaaGreat
