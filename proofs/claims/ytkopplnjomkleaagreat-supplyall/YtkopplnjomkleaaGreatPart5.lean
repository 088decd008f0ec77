/-
  Texts beneath SupplyAll, part 5: Limbo8, LimboLaws, IntCut, Stash, Stash2.
-/
import Derived.Test.YtkopplnjomkleaaGreatPart4
/-
  Package limbo: the contract of Ready.
-/
namespace Go.Proofs.YtkopplnjomkleaaGreat
open Go.RowKit
set_option maxRecDepth 100000
section
variable {w w1 w2 w3 w4 wr w' : World} {q : Nat} {F F1 F3 : List Nat} {S S1 : Lb} {V : Nat → Value} {v : Value} {now : Int}
/-- How far Ready is. -/
structure RdyAt (w : World) (q : Nat) (F : List Nat) (S : Lb) (now : Int) (v : Value) (wr : World) (o : List Int) (S1 : Lb) (F1 : List Nat) : Prop where
  lim : Lim wr q F1 S1
  ints : Ints wr v o
  away : Away v F1
  next : Next w F F1
  fresh : Fresh w v
  els : Else F w wr
  outs : o ++ S1.outs now = S.outs now
  rest : S1.rest now = S.rest now
  size : S1.size + o.length = S.size
  mem : q ∈ F
def RdyRel (w : World) (q : Nat) (F : List Nat) (S : Lb) (now : Int) (v : Value) (wr : World) : Prop := ∃ o S1 F1, RdyAt w q F S now v wr o S1 F1
theorem open_to (E : Lim w q F S) {now : Int} {b : Bool} (h : S.isOpen now = b) : Calls Tryz.prog 129 #[.pointer (some ⟨q, 0, none⟩), .int .i64 now] w fun e w' => e = .returned (.bool b) ∧ Up w w' := h ▸ open_any E now
theorem away_q (L : Lim w q F S) (A : Away v F) : Away v [q] := fun b hb e => by simp at hb; subst hb; exact A _ L.mem e
theorem RdyAt.step {o : List Int} {k : Nat} {v5 : Value} {w5 : World} (H : RdyAt w q F S now v wr o S1 F1) (hop : S1.opn now = some k) (U : Up wr w2) (L3 : Lim w3 q F3 (S1.clear k)) (N3 : ∀ b, b ∈ F3 → b ∈ F1) (X3 : Else [q] w2 w3)
    (J5 : Ints w5 v5 (o ++ S1.L k)) (G5 : w3.grownBy w5 v.ownBlock) (A5 : v5.ownBlock = v.ownBlock ∨ v5.ownBlock = some w3.heap.size) : RdyAt w q F S now v5 w5 (o ++ S1.L k) (S1.clear k) F3 := by
  obtain ⟨_, hk, hl, _⟩ := Lb.opn_some hop
  obtain ⟨e1, e2⟩ := Lb.outs_some hop
  have hs := S1.size_clear hk
  have u3 : Else F w w3 := (H.els.up U).trans (X3.more (fun b hb => by simp at hb; subst hb; exact H.mem))
  have u5 : Else v.ownBlock.toList w3 w5 := (Else.refl _ _).grown G5 (fun b hb => .inl (by simp [hb]))
  refine ⟨L3.else u5 (fun b hb hv => ?_), J5, fun b hb e => ?_, fun b hb => H.next b (N3 b hb), fun b hb => ?_, u3.grown G5 (fun b hb => .inr (H.fresh b hb)), ?_, ?_, ?_, H.mem⟩
  · simp at hv; exact H.away b (N3 b hb) hv
  · rcases A5 with h | h
    · exact H.away b (N3 b hb) (h ▸ e)
    · rw [e] at h; injection h with h
      have := L3.lt b hb; omega
  · rcases A5 with h | h
    · exact H.fresh b (h ▸ hb)
    · rw [hb] at h; injection h with h
      have := u3.size; omega
  · rw [List.append_assoc, ← e1]; exact H.outs
  · rw [← e2]; exact H.rest
  · have := H.size; rw [List.length_append]; omega
set_option maxHeartbeats 4000000 in
theorem lready_any (E : Lim w q F S) (now : Int) (hs : S.size ≤ 8192) : Calls Tryz.prog 101 #[.pointer (some ⟨q, 0, none⟩), .int .i64 now] w fun e w' => ∃ o, e = .returned o ∧ Took w w' q F (S.rest now) (S.outs now) o := by
  have HE := Lib.hid E
  clear E
  go_enter Tryz.func101, Tryz.ntmps101
  go_wp2_with fail
  go_loopw [5] (fun v wr => RdyRel w q F S now v wr) (fun v _ => S.size - nOf v)
  case atStart => exact ⟨[], S, F, HE.out, Ints.nil _, fun b _ e => by simp [Value.ownBlock] at e, Next.refl _ _, fresh_nil _, Else.refl _ _, rfl, rfl, by simp, HE.out.mem⟩
  case round =>
    obtain ⟨o, S1, F1, H⟩ := hrel
    have HH := Lib.hid H
    obtain ⟨A, N, c, rfl⟩ := shapeI H.ints
    clear H
    rcases hop : S1.opn now with _ | k
    · have HO := Lib.hid (show S1.isOpen now = false by unfold Lb.isOpen; rw [hop]; rfl)
      have HOP := Lib.hid hop
      clear hop
      go_wp2_with (go_at_call 129; refine (open_to HH.out.lim HO.out).mono ?_; rintro e w1 ⟨rfl, U1⟩; have HU1 := Lib.hid U1; clear U1)
      go_ret
      obtain ⟨e1, e2⟩ := Lb.outs_none HOP.out
      have h1 := HH.out.outs
      have h2 := HH.out.rest
      rw [e1, List.append_nil] at h1
      rw [e2] at h2
      rw [← h1, ← h2]
      exact ⟨_, rfl, F1, HH.out.lim.up HU1.out, HH.out.ints.up HU1.out, HH.out.away, HH.out.next, fun b hb => .inr (HH.out.fresh b hb), HH.out.els.up HU1.out⟩
    · have HO := Lib.hid (show S1.isOpen now = true by unfold Lb.isOpen; rw [hop]; rfl)
      have HOP := Lib.hid hop
      obtain ⟨hold, hk, hl, _⟩ := Lb.opn_some hop
      have HOLD := Lib.hid hold
      have hsz := HH.out.size
      have hlk : (S1.L k).length ≤ S1.size := Lb.len_le hk
      have HL := Lib.hid hl
      have hn := HH.out.ints.nOf
      have HN := Lib.hid hn
      have HLEN := Lib.hid (show o.length + (S1.L k).length ≤ 8192 by omega)
      clear hop hold hl hn
      go_wp2_with (first
        | (go_at_call 129; refine (open_to HH.out.lim HO.out).mono ?_; rintro e w1 ⟨rfl, U1⟩; have HU1 := Lib.hid U1; clear U1)
        | (go_at_call 130; refine (oldest_to (HH.out.lim.up HU1.out) HOLD.out).mono ?_; rintro e w2 ⟨rfl, U2⟩; have HU2 := Lib.hid (HU1.out.trans U2); clear U2; unfold bptr)
        | (go_at_call 128; refine (empty_in (HH.out.lim.up HU2.out) hk).mono ?_; rintro e w3 ⟨v3, F3, rfl, J3, A3, L3, N3, O3, X3⟩; obtain ⟨B3, M3, k3, rfl⟩ := shapeI J3; have HJ3 := Lib.hid J3; have HL3 := Lib.hid L3; have HN3 := Lib.hid N3; have HX3 := Lib.hid X3; clear J3 A3 L3 N3 O3 X3)
        | (at_builtin; refine wpList_app rfl _ _ rfl rfl rfl ((HH.out.ints.up HU2.out).else HX3.out (away_q HH.out.lim HH.out.away)) HJ3.out.rd HLEN.out ?_; intro v5 w5 J5 G5 A5; obtain ⟨B5, N5, k5, rfl⟩ := shapeI J5; have HJ5 := Lib.hid J5; have HS := Lib.hid (RdyAt.step HH.out HOP.out HU2.out HL3.out HN3.out HX3.out J5 G5 A5); clear J5 G5 A5))
      go_roundw
      case rel => exact ⟨_, _, _, HS.out⟩
      case measure =>
        have h5 := HJ5.out.nOf
        have h6 := HN.out
        have h7 := List.length_pos_iff.2 HL.out
        rw [List.length_append] at h5
        simp only [nOf] at h5 h6 ⊢
        omega
end
end Go.Proofs.YtkopplnjomkleaaGreat

/-
  The contracts of package limbo as the statements use them; first of layer 7.
-/
namespace Go.Proofs.YtkopplnjomkleaaGreat
open Go.RowKit
set_option maxRecDepth 100000
section
variable {W w w1 w2 w3 w4 wr w' : World} {q n k : Nat} {F F1 F3 : List Nat} {S S' : Lb} {v o : Value} {now tag a : Int} {xs items : List Int}
/-- A limbo all of whose blocks are newer than W, of which nothing has turned. -/
structure Mine (W w : World) (q : Nat) (F : List Nat) (S : Lb) : Prop where
  lim : Lim w q F S
  up : Up W w
  new : ∀ b, b ∈ F → W.heap.size ≤ b
theorem Mine.then (M : Mine W w q F S) (u : Up w w') : Mine W w' q F S := ⟨M.lim.up u, M.up.trans u, M.new⟩
theorem Mine.else (M : Mine W w q F S) {l : List Nat} (u : Else l w w') (h : ∀ b, b ∈ F → b ∉ l) (hl : ∀ b, b ∈ l → W.heap.size ≤ b) : Mine W w' q F S := ⟨M.lim.else u h, Else.up_new M.up u hl, M.new⟩
theorem Mine.took (M : Mine W w q F S) (T : Took w w' q F S' xs o) : ∃ F', Mine W w' q F' S' ∧ Ints w' o xs ∧ Away o F' ∧ Fresh W o ∧ Next w F F' ∧ Else F w w' := by
  obtain ⟨F', L, J, A, N, O, E⟩ := T
  have h := M.up.size
  refine ⟨F', ⟨L, Else.up_new M.up E M.new, fun b hb => ?_⟩, J, A, fun b hb => ?_, N, E⟩
  · rcases N b hb with h' | h'
    · exact M.new b h'
    · omega
  · rcases O b hb with h' | h'
    · exact M.new b h'
    · omega
theorem Took.shape (T : Took w w' q F S' xs o) (h : xs.length = n) : ∃ A c, o = .slice A n c := by
  obtain ⟨F', L, J, _⟩ := T
  obtain ⟨A, c, e⟩ := J.slice
  exact ⟨A, c, h ▸ e⟩
theorem Took.up (T : Took w1 w' q F S' xs o) (u : Up w w1) : Took w w' q F S' xs o := by
  obtain ⟨F', L, J, A, N, O, E⟩ := T
  have h := u.size
  exact ⟨F', L, J, A, fun b hb => (N b hb).imp id (fun h' => Nat.le_trans h h'), fun b hb => (O b hb).imp id (fun h' => Nat.le_trans h h'), (Else.of_up u).trans E⟩
theorem lnew_mine (w : World) : Calls Tryz.prog 64 #[] w fun e w' => e = .returned (.pointer (some ⟨w.heap.size, 0, none⟩)) ∧ Mine w w' w.heap.size [w.heap.size] Lb.zero :=
  (lnew_any w).mono fun _ _ ⟨he, L, U⟩ => ⟨he, L, U, fun b hb => by simp at hb; omega⟩
theorem lnew_q (w : World) : Calls Tryz.prog 64 #[] w fun e w' => ∃ q, e = .returned (.pointer (some ⟨q, 0, none⟩)) ∧ Mine w w' q [q] Lb.zero :=
  (lnew_mine w).mono fun _ _ ⟨he, M⟩ => ⟨_, he, M⟩
theorem rd_new_away (L : Lim w q F S) : Away (.slice (some ⟨w.heap.size, 0, none⟩) 1 1) F := fun b hb e => by
  simp [Value.ownBlock] at e; have := L.lt b hb; omega
/-- Retire of one item, its list just made. -/
theorem lretire1 (E : Lim w q F S) (h1 : S.last ≤ tag) (h2 : tag ≤ 4611686018427387903) (hk : tag % 3 = k) (hl : S.size + 1 ≤ 8192) (hS : S.retire k tag [a] = S') (hx : S.taken k tag = xs) (hn : xs.length = n) :
    Calls Tryz.prog 98 #[.pointer (some ⟨q, 0, none⟩), .int .i64 tag, .slice (some ⟨w.heap.size, 0, none⟩) 1 1] (w.alloc (.cells #[.int .i64 a] 3)) fun e w' => ∃ A c, e = .returned (.tuple #[.slice A n c, .int .i64 0]) ∧ Took w w' q F S' xs (.slice A n c) := by
  subst hS hx
  refine (lretire_yes (items := [a]) (E.up (Up.alloc _ _)) (rd_one w a) (rd_new_away E) (by simp) h1 h2 hk (by simpa using hl)).mono ?_
  rintro e w' ⟨o, rfl, T⟩
  obtain ⟨A, c, rfl⟩ := T.shape hn
  exact ⟨A, c, rfl, T.up (Up.alloc _ _)⟩
theorem lretire_to (E : Lim w q F S) (R : Rd w v items) (Aw : Away v F) (h0 : items ≠ []) (h1 : S.last ≤ tag) (h2 : tag ≤ 4611686018427387903) (hk : tag % 3 = k) (hl : S.size + items.length ≤ 8192) (hS : S.retire k tag items = S') (hx : S.taken k tag = xs) (hn : xs.length = n) :
    Calls Tryz.prog 98 #[.pointer (some ⟨q, 0, none⟩), .int .i64 tag, v] w fun e w' => ∃ A c, e = .returned (.tuple #[.slice A n c, .int .i64 0]) ∧ Took w w' q F S' xs (.slice A n c) := by
  subst hS hx
  refine (lretire_yes E R Aw h0 h1 h2 hk hl).mono ?_
  rintro e w' ⟨o, rfl, T⟩
  obtain ⟨A, c, rfl⟩ := T.shape hn
  exact ⟨A, c, rfl, T⟩
theorem away_new (L : Lim w q F S) (Fr : Fresh w v) : Away v F := fun b hb e => by
  have := L.lt b hb; have := Fr b e; omega
theorem lready_to (E : Lim w q F S) (hs : S.size ≤ 8192) (hS : S.rest now = S') (hx : S.outs now = xs) (hn : xs.length = n) :
    Calls Tryz.prog 101 #[.pointer (some ⟨q, 0, none⟩), .int .i64 now] w fun e w' => ∃ A c, e = .returned (.slice A n c) ∧ Took w w' q F S' xs (.slice A n c) := by
  subst hS hx
  refine (lready_any E now hs).mono ?_
  rintro e w' ⟨o, rfl, T⟩
  obtain ⟨A, c, rfl⟩ := T.shape hn
  exact ⟨A, c, rfl, T⟩
theorem first_s0 : Lb.zero.retire 1 4 [7] = ⟨put (fun _ => 0) 1 4, put (fun _ => []) 1 [7], 4⟩ := by
  unfold Lb.retire Lb.zero Lb.clear Lb.add
  dsimp only
  congr 1 <;> · funext j; unfold put; dsimp only; split <;> simp_all
def S7 : Lb := ⟨put (fun _ => 0) 1 4, put (fun _ => []) 1 [7], 4⟩
/-- Refused: one item, its list just made. -/
theorem refuse1 (M : Mine W w q F S) {t : Int} (hl : S.last = t) (h : tag < t ∨ 4611686018427387903 < tag) :
    Calls Tryz.prog 98 #[.pointer (some ⟨q, 0, none⟩), .int .i64 tag, .slice (some ⟨w.heap.size, 0, none⟩) 1 1] (w.alloc (.cells #[.int .i64 a] 3)) fun e w' => e = .returned (.tuple #[.slice none 0 0, .int .i64 1]) ∧ Mine W w' q F S :=
  (lretire_no (M.lim.up (Up.alloc _ _)) (rd_one w a) (fun ⟨_, h1, h2⟩ => by omega)).mono fun _ _ ⟨he, hw⟩ => ⟨he, hw ▸ M.then (Up.alloc _ _)⟩
theorem refuse0 (M : Mine W w q F S) :
    Calls Tryz.prog 98 #[.pointer (some ⟨q, 0, none⟩), .int .i64 tag, .slice none 0 0] w fun e w' => e = .returned (.tuple #[.slice none 0 0, .int .i64 1]) ∧ Mine W w' q F S :=
  (lretire_no M.lim (Rd.nil w) (fun ⟨h, _⟩ => h rfl)).mono fun _ _ ⟨he, hw⟩ => ⟨he, hw ▸ M⟩
/-- One bucket with items. -/
def Lb.one (k : Nat) (t : Int) (xs : List Int) : Lb := ⟨put (fun _ => 0) k t, put (fun _ => []) k xs, t⟩
theorem one_retire (k : Nat) (t : Int) (xs : List Int) : Lb.zero.retire k t xs = Lb.one k t xs := by
  unfold Lb.retire Lb.zero Lb.one Lb.clear Lb.add
  split
  · dsimp only
    congr 1 <;> · funext j; unfold put; dsimp only; split <;> simp_all
  · dsimp only
    congr 1 <;> · funext j; unfold put; dsimp only; split <;> simp_all
theorem zero_taken (k : Nat) (t : Int) : Lb.zero.taken k t = [] := by unfold Lb.taken; split <;> rfl
theorem one_T (k : Nat) (t : Int) (xs : List Int) : (Lb.one k t xs).T k = t := put_same (fun _ => (0 : Int)) k t
theorem one_L (k : Nat) (t : Int) (xs : List Int) : (Lb.one k t xs).L k = xs := put_same (fun _ => ([] : List Int)) k xs
theorem one_size {k : Nat} (hk : k < 3) (t : Int) (xs : List Int) : (Lb.one k t xs).size = xs.length := by
  have : k = 0 ∨ k = 1 ∨ k = 2 := by omega
  unfold Lb.size Lb.one put
  rcases this with rfl | rfl | rfl <;> simp
theorem bucket_to (E : Lim w q F S) {i : Int} (hi : i = (k : Int)) (hk : k < 3) (hT : S.T k = tag) (hL : S.L k = xs) (hl : xs.length ≤ 8192) (hn : xs.length = n) :
    Calls Tryz.prog 103 #[.pointer (some ⟨q, 0, none⟩), .int .i64 i] w fun e w' => ∃ A c, e = .returned (.tuple #[.int .i64 tag, .slice A n c]) ∧ Ints w' (.slice A n c) xs ∧ Fresh w (.slice A n c) ∧ Up w w' := by
  subst hi hT hL
  refine (bucket_in E hk hl).mono ?_
  rintro e w' ⟨v, rfl, J, Fr, U⟩
  obtain ⟨A, c, e⟩ := J.slice
  rw [hn] at e
  subst e
  exact ⟨A, c, rfl, J, Fr, U⟩
theorem llen_to (E : Lim w q F S) (hs : S.size = n) (hn : n ≤ 8192) : Calls Tryz.prog 66 #[.pointer (some ⟨q, 0, none⟩)] w fun e w' => e = .returned (.int .i64 (n : Nat)) ∧ Up w w' := by
  subst hs
  exact llen_any E (by omega)
end
end Go.Proofs.YtkopplnjomkleaaGreat

/-
  s[:c], s[c:], s[:c:c] of ints. (Layers without a stack; the stack's texts have the first two in Cuts.)
-/
namespace Go.Proofs.YtkopplnjomkleaaGreat
open Go.RowKit
set_option maxRecDepth 100000
section
variable {w w1 w' : World} {v v2 : Value} {xs ys : List Int}
def cutLo (A : Option Addr) (c len cap : Nat) : Value := sliced A c len cap 1
theorem elem_ints : Tryz.prog.elem 22 = 3 := by kernel_rfl
theorem size_int (w : World) : (sizeOf 3).run Tryz.prog w = .ok 1 w := by
  obtain ⟨i9, hi, hz0, hz1, hz2⟩ := info_parts info_int
  simp [sizeOf, typeInfo, hi, hz1]
theorem sliced_zero (A : Option Addr) (c m : Nat) : sliced A 0 c m 1 = .slice A c m := by
  unfold sliced
  cases A <;> simp [Addr.add]
theorem run_cutHi (A : Option Addr) (len cap c : Nat) (h : c ≤ cap) (w : World) : (Instr.slice 22 (.slice A len cap) none (some (.int .i64 (c : Int))) none).run Tryz.prog w = .ok (.slice A c cap) w := by
  rw [run_slice_h w 22 A len cap (by rw [elem_ints]; exact Tryz.underlying22) .i64 c (by omega) (by omega), elem_ints, size_int, ← sliced_zero A c cap]
  rfl
theorem run_cutHiM (A : Option Addr) (len cap c : Nat) (h : c ≤ cap) (w : World) : (Instr.slice 22 (.slice A len cap) none (some (.int .i64 (c : Int))) (some (.int .i64 (c : Int)))).run Tryz.prog w = .ok (.slice A c c) w := by
  rw [run_slice_hm w 22 A len cap (by rw [elem_ints]; exact Tryz.underlying22) .i64 .i64 c c (by omega) (by omega) (by omega), elem_ints, size_int, ← sliced_zero A c c]
  rfl
theorem run_cutLo (A : Option Addr) (len cap c : Nat) (h : c ≤ len) (w : World) : (Instr.slice 22 (.slice A len cap) (some (.int .i64 (c : Int))) none none).run Tryz.prog w = .ok (cutLo A c len cap) w := by
  rw [run_slice_l w 22 A len cap (by rw [elem_ints]; exact Tryz.underlying22) .i64 c (by omega) (by omega), elem_ints, size_int]
  rfl
theorem add_at (g off c : Nat) : (⟨g, off, none⟩ : Addr).add c = ⟨g, off + c, none⟩ := by
  unfold Addr.add; split
  · subst_vars; rfl
  · rfl
theorem cutHi_rd {A : Option Addr} {n cap c cap2 : Nat} (R : Rd w (.slice A n cap) xs) (h : c ≤ xs.length) : Rd w (.slice A c cap2) (xs.take c) := by
  have hl : (xs.take c).length = c := by simp; omega
  refine ⟨A, cap2, ?_, ?_, fun j hj => ?_⟩
  · rw [hl]
  · have := R.len; omega
  · rw [hl] at hj
    obtain ⟨g, off, rfl, hc⟩ := R.cell (j := j) (by omega)
    refine ⟨g, off, rfl, ?_⟩
    rw [hc]; simp [List.getD, hj]
theorem cutHi_ints {A : Option Addr} {n cap c : Nat} (J : Ints w (.slice A n cap) xs) (h : c ≤ xs.length) : Ints w (.slice A c cap) (xs.take c) := by
  have hl : (xs.take c).length = c := by simp; omega
  have hmap : (xs.take c).map (Value.int .i64) = (xs.map (Value.int .i64)).take c := by simp
  refine ⟨by simp, ?_⟩
  rcases J.2 with ⟨e, h0⟩ | ⟨g, cp, cur, e, hb, hh, hn, hm, hs, ht⟩
  · injection e with e1 e2 e3
    subst e1 e3
    left
    have : c = 0 := by omega
    subst this
    exact ⟨rfl, hl⟩
  · injection e with e1 e2 e3
    subst e1 e3
    right
    refine ⟨g, cap, cur, by rw [hl], hb, hh, by rw [hl]; omega, hm, hs, ?_⟩
    rw [hl, hmap, ← ht, List.take_take]
    congr 1
    omega
theorem cutLo_rd {A : Option Addr} {n cap c : Nat} (R : Rd w (.slice A n cap) xs) (h : c ≤ xs.length) (hcap : n ≤ cap) : Rd w (cutLo A c n cap) (xs.drop c) := by
  obtain ⟨A', cap', e, hm, _⟩ := id R
  injection e with e1 e2 e3
  subst e1 e2 e3
  have hl : (xs.drop c).length = xs.length - c := by simp
  refine ⟨if cap = c then A else A.map (·.add (c * 1)), cap - c, ?_, ?_, fun j hj => ?_⟩
  · rw [hl]; rfl
  · rw [hl]; omega
  · rw [hl] at hj
    obtain ⟨g, off, rfl, hc⟩ := R.cell (j := c + j) (by omega)
    refine ⟨g, off + c, ?_, ?_⟩
    · rw [if_neg (by omega), Nat.mul_one, Option.map_some, add_at]
    · rw [Nat.add_assoc, hc]; simp [List.getD]
theorem cutHi_own (A : Option Addr) (c c2 len cap : Nat) : (Value.slice A c c2).ownBlock = (Value.slice A len cap).ownBlock := by cases A <;> rfl
theorem cutLo_own (A : Option Addr) (c len cap : Nat) : (cutLo A c len cap).ownBlock = (Value.slice A len cap).ownBlock := by
  unfold cutLo sliced
  by_cases h : cap = c
  · rw [if_pos h]; cases A <;> rfl
  · rw [if_neg h]
    cases A with
    | none => rfl
    | some a =>
      simp only [Option.map_some, Value.ownBlock, Option.some.injEq]
      unfold Addr.add; split <;> rfl
theorem cutLo_is (A : Option Addr) (c len cap : Nat) : ∃ A', cutLo A c len cap = .slice A' (len - c) (cap - c) := ⟨_, rfl⟩
theorem Ints.cap {A : Option Addr} {n cap : Nat} (h : Ints w (.slice A n cap) xs) : n ≤ cap := by
  rcases h.2 with ⟨e, _⟩ | ⟨g, c, cur, e, _, _, hn, _⟩
  · injection e with e1 e2 e3; omega
  · injection e with e1 e2 e3; omega
end
end Go.Proofs.YtkopplnjomkleaaGreat

/-
  Package stash: the stash in memory (Sta), the contracts of New, Give, Take, All, Over, List, Len. The reference's stash lies likewise, at another type.
-/
namespace Go.Proofs.YtkopplnjomkleaaGreat
open Go.RowKit
set_option maxRecDepth 100000

/-- A stash of type t with the greatest number m and the items xs lies at q; its slice is v; all its blocks are among F. -/
structure StaV (t : TypeId) (w : World) (q : Nat) (F : List Nat) (m : Int) (xs : List Int) (v : Value) : Prop where
  top : Whole w q t #[.int .i64 m, v]
  ints : Ints w v xs
  mem : q ∈ F
  inF : ∀ b, v.ownBlock = some b → b ∈ F
  nq : v.ownBlock ≠ some q
  lt : ∀ b, b ∈ F → b < w.heap.size
def Sta (t : TypeId) (w : World) (q : Nat) (F : List Nat) (m : Int) (xs : List Int) : Prop := ∃ v, StaV t w q F m xs v
/-- The stash is turned, and all else that it may own is as it was. -/
def SGave (t : TypeId) (w w' : World) (q : Nat) (F : List Nat) (m : Int) (xs : List Int) : Prop := ∃ F', Sta t w' q F' m xs ∧ Next w F F' ∧ Else F w w'
/-- The same, and o reads as out and is no more its own. -/
def STook (t : TypeId) (w w' : World) (q : Nat) (F : List Nat) (m : Int) (xs : List Int) (o : Value) (out : List Int) : Prop :=
  ∃ F', Sta t w' q F' m xs ∧ Rd w' o out ∧ Away o F' ∧ Next w F F' ∧ (∀ b, o.ownBlock = some b → b ∈ F ∨ w.heap.size ≤ b) ∧ Else F w w'
section
variable {t : TypeId} {w w1 w2 w' : World} {q n : Nat} {F F1 : List Nat} {m : Int} {xs ys zs : List Int} {v v' o : Value}
theorem StaV.up (E : StaV t w q F m xs v) (u : Up w w') : StaV t w' q F m xs v := ⟨E.top.up u, E.ints.up u, E.mem, E.inF, E.nq, fun b hb => Nat.lt_of_lt_of_le (E.lt b hb) u.size⟩
theorem StaV.else (E : StaV t w q F m xs v) {l : List Nat} (u : Else l w w') (h : ∀ b, b ∈ F → b ∉ l) : StaV t w' q F m xs v :=
  ⟨u.whole E.top (h _ E.mem), E.ints.else u (fun b hb e => h b (E.inF b e) hb), E.mem, E.inF, E.nq, fun b hb => Nat.lt_of_lt_of_le (E.lt b hb) u.size⟩
theorem Sta.up (E : Sta t w q F m xs) (u : Up w w') : Sta t w' q F m xs := E.imp fun _ E => E.up u
theorem Sta.else (E : Sta t w q F m xs) {l : List Nat} (u : Else l w w') (h : ∀ b, b ∈ F → b ∉ l) : Sta t w' q F m xs := E.imp fun _ E => E.else u h
theorem Sta.lt (E : Sta t w q F m xs) : ∀ b, b ∈ F → b < w.heap.size := E.elim fun _ E => E.lt
theorem Sta.mem (E : Sta t w q F m xs) : q ∈ F := E.elim fun _ E => E.mem
theorem StaV.cells (E : StaV t w q F m xs v) : w.cell? ⟨q, 0, none⟩ = some (.int .i64 m) ∧ w.cell? ⟨q, 1, none⟩ = some v := ⟨E.top.cell rfl, E.top.cell rfl⟩
/-- A new slice in the place of the old one. -/
theorem StaV.put (E : StaV t w q F m xs v) (top : Whole w2 q t #[.int .i64 m, v]) (J : Ints w2 v' ys) (hq : v'.ownBlock ≠ some q) :
    StaV t (w2.setCell ⟨q, 1, none⟩ v') q (q :: v'.ownBlock.toList) m ys v' := by
  have u : Else [q] w2 (w2.setCell ⟨q, 1, none⟩ v') := (Else.refl _ _).set (.inl (by simp)) _
  refine ⟨top.set 1 v', J.else u (fun b hb e => by simp at hb; subst hb; exact hq e), by simp, fun b hb => by simp [hb], hq, fun b hb => ?_⟩
  rcases List.mem_cons.1 hb with rfl | hb
  · exact Nat.lt_of_lt_of_le top.lt u.size
  · simp at hb; exact Nat.lt_of_lt_of_le (J.lt hb) u.size
/-- Behind an append to its own slice. -/
theorem StaV.gave (E : StaV t w q F m xs v) (g : w.grownBy w2 v.ownBlock) (J : Ints w2 v' ys) (hv : v'.ownBlock = v.ownBlock ∨ v'.ownBlock = some w.heap.size) : SGave t w (w2.setCell ⟨q, 1, none⟩ v') q F m ys := by
  have hqlt := E.lt q E.mem
  have hq : v'.ownBlock ≠ some q := by
    rcases hv with h | h
    · rw [h]; exact E.nq
    · rw [h]; intro e; injection e with e; omega
  refine ⟨_, ⟨v', E.put (E.top.grown g (fun e => E.nq e.symm)) J hq⟩, fun b hb => ?_, (((Else.refl F w).grown g (fun b hb => .inl (E.inF b hb))).set (.inl E.mem) _)⟩
  rcases List.mem_cons.1 hb with rfl | hb
  · exact .inl E.mem
  · simp at hb
    rcases hv with h | h
    · exact .inl (E.inF b (h ▸ hb))
    · rw [hb] at h; injection h with h; exact .inr (by omega)
/-- Behind a new slice that is stored. -/
theorem StaV.renew (E : StaV t w q F m xs v) (u : Up w w2) (J : Ints w2 v' ys) (hv : Fresh w v') : SGave t w (w2.setCell ⟨q, 1, none⟩ v') q F m ys := by
  have hqlt := E.lt q E.mem
  have hq : v'.ownBlock ≠ some q := fun e => by have := hv q e; omega
  refine ⟨_, ⟨v', E.put (E.top.up u) J hq⟩, fun b hb => ?_, ((Else.of_up u).set (.inl E.mem) _)⟩
  rcases List.mem_cons.1 hb with rfl | hb
  · exact .inl E.mem
  · simp at hb; exact .inr (hv b hb)
/-- The slice is handed out. -/
theorem StaV.handed (E : StaV t w q F m xs v) : STook t w (w.setCell ⟨q, 1, none⟩ (.slice none 0 0)) q F m [] v xs ∧ Ints (w.setCell ⟨q, 1, none⟩ (.slice none 0 0)) v xs := by
  have u : Else [q] w (w.setCell ⟨q, 1, none⟩ (.slice none 0 0)) := (Else.refl _ _).set (.inl (by simp)) _
  have hn : (Value.slice none 0 0).ownBlock ≠ some q := by simp [Value.ownBlock]
  refine ⟨⟨_, ⟨_, E.put (v' := .slice none 0 0) E.top (Ints.nil _) hn⟩, E.ints.rd.else u (fun b hb e => by simp at hb; subst hb; exact E.nq e), fun b hb e => ?_, fun b hb => ?_, fun b hb => .inl (E.inF b hb), u.more (fun b hb => by simp at hb; subst hb; exact E.mem)⟩, E.ints.else u (fun b hb e => by simp at hb; subst hb; exact E.nq e)⟩
  · simp [Value.ownBlock] at hb; subst hb; exact E.nq e
  · simp [Value.ownBlock] at hb; subst hb; exact .inl E.mem
def cutM (a : Int) : Int := if a < 0 then 0 else if 64 < a then 64 else a
theorem cutM_bounds (a : Int) : 0 ≤ cutM a ∧ cutM a ≤ 64 := by unfold cutM; split; omega; split <;> omega
theorem sta_new (w : World) (t : TypeId) (m : Int) : Sta t (w.alloc (.cells #[.int .i64 m, .slice none 0 0] t)) w.heap.size [w.heap.size] m [] :=
  ⟨_, Whole.new _ _ _, Ints.nil _, by simp, fun b hb => by simp [Value.ownBlock] at hb, by simp [Value.ownBlock], fun b hb => by simp at hb; subst hb; simp⟩
set_option maxHeartbeats 1000000 in
theorem snew_any (w : World) (a : Int) : Calls Tryz.prog 63 #[.int .i64 a] w fun e w' => ∃ q, e = .returned (.pointer (some ⟨q, 0, none⟩)) ∧ Sta 167 w' q [q] (cutM a) [] ∧ w.heap.size ≤ q ∧ Up w w' := by
  unfold cutM
  by_cases h0 : a < 0
  · rw [if_pos h0]
    have h1 : ¬ (0 : Int) ≤ a := by omega
    go_enter Tryz.func63, Tryz.ntmps63
    go_wp2
    go_ret
    exact ⟨_, rfl, sta_new _ _ _, Nat.le_refl _, Up.alloc _ _⟩
  · rw [if_neg h0]
    by_cases h1 : 64 < a
    · rw [if_pos h1]
      go_enter Tryz.func63, Tryz.ntmps63
      go_wp2
      go_ret
      exact ⟨_, rfl, sta_new _ _ _, Nat.le_refl _, Up.alloc _ _⟩
    · rw [if_neg h1]
      go_enter Tryz.func63, Tryz.ntmps63
      go_wp2
      go_ret
      exact ⟨_, rfl, sta_new _ _ _, Nat.le_refl _, Up.alloc _ _⟩
set_option maxHeartbeats 1000000 in
theorem sgive_any (E : Sta 167 w q F m xs) (R : Rd w v ys) (hl : xs.length + ys.length ≤ 8192) :
    Calls Tryz.prog 59 #[.pointer (some ⟨q, 0, none⟩), v] w fun e w' => e = .returned (.tuple #[]) ∧ SGave 167 w w' q F m (xs ++ ys) := by
  obtain ⟨u, E⟩ := E
  obtain ⟨A, N, c, rfl⟩ := shapeI E.ints
  obtain ⟨c0, c1⟩ := E.cells
  obtain ⟨A2, cap2, rfl⟩ := R.slice
  have HE := Lib.hid E
  have HR := Lib.hid R
  clear E R
  go_enter Tryz.func59, Tryz.ntmps59
  go_wp2_with (at_builtin; refine wpList_app (v := .slice A N c) rfl _ _ rfl rfl rfl HE.out.ints HR.out hl ?_; intro v5 w5 J5 G5 A5; obtain ⟨B5, M5, k5, rfl⟩ := shapeI J5; have T5 := HE.out.top.grown G5 (fun e => HE.out.nq e.symm); have c5 : w5.cell? ⟨q, 1, none⟩ = some (.slice A N c) := T5.cell rfl; have f5 := T5.frozen 1; have HJ5 := Lib.hid J5; have HG5 := Lib.hid G5; have HA5 := Lib.hid A5; clear J5 G5 A5 T5)
  go_end0
  exact ⟨rfl, HE.out.gave HG5.out HJ5.out HA5.out⟩
set_option maxHeartbeats 1000000 in
theorem sall_in (E : Sta 167 w q F m xs) : Calls Tryz.prog 62 #[.pointer (some ⟨q, 0, none⟩)] w fun e w' => ∃ o, e = .returned o ∧ STook 167 w w' q F m [] o xs ∧ Ints w' o xs := by
  obtain ⟨u, E⟩ := E
  obtain ⟨c0, c1⟩ := E.cells
  have f1 := E.top.frozen 1
  have HE := Lib.hid E
  clear E
  go_enter Tryz.func62, Tryz.ntmps62
  go_wp2_with fail
  go_ret
  exact ⟨_, rfl, HE.out.handed⟩
set_option maxHeartbeats 1000000 in
theorem slen_any (E : Sta 167 w q F m xs) : Calls Tryz.prog 65 #[.pointer (some ⟨q, 0, none⟩)] w fun e w' => e = .returned (.int .i64 (xs.length : Nat)) ∧ w = w' := by
  obtain ⟨u, E⟩ := E
  obtain ⟨A, c, rfl⟩ := E.ints.slice
  obtain ⟨c0, c1⟩ := E.cells
  clear E
  go_enter Tryz.func65, Tryz.ntmps65
  go_wp2_with fail
  go_ret
  exact ⟨rfl, rfl⟩
set_option maxHeartbeats 1000000 in
theorem slist_any (E : Sta 167 w q F m xs) (hl : xs.length ≤ 8192) : Calls Tryz.prog 58 #[.pointer (some ⟨q, 0, none⟩)] w fun e w' => ∃ o, e = .returned o ∧ Ints w' o xs ∧ Fresh w o ∧ Up w w' := by
  obtain ⟨u, E⟩ := E
  obtain ⟨c0, c1⟩ := E.cells
  have HR := Lib.hid E.ints.rd
  clear E
  go_enter Tryz.func58, Tryz.ntmps58
  go_wp2_with (go_at_call 106; refine (clone_any HR.out hl).mono ?_; rintro e w1 ⟨v1, rfl, J1, F1, U1⟩; have HJ1 := Lib.hid J1; have HF1 := Lib.hid F1; have HU1 := Lib.hid U1; clear J1 F1 U1)
  go_ret
  exact ⟨_, rfl, HJ1.out, HF1.out, HU1.out⟩
end
end Go.Proofs.YtkopplnjomkleaaGreat

/-
  Package stash: the contracts of Take and Over.
-/
namespace Go.Proofs.YtkopplnjomkleaaGreat
open Go.RowKit
set_option maxRecDepth 100000
section
variable {t : TypeId} {w w1 w2 w' : World} {q n : Nat} {F F1 : List Nat} {m a : Int} {xs ys : List Int} {v v' o : Value}
set_option maxHeartbeats 1000000 in
theorem stake_none (E : Sta 167 w q F m []) : Calls Tryz.prog 111 #[.pointer (some ⟨q, 0, none⟩)] w fun e w' => e = .returned (.tuple #[.int .i64 0, .bool false]) ∧ w = w' := by
  obtain ⟨u, E⟩ := E
  obtain ⟨A, c, rfl⟩ := E.ints.slice
  obtain ⟨c0, c1⟩ := E.cells
  clear E
  go_enter Tryz.func111, Tryz.ntmps111
  go_wp2_with fail
  go_ret2
  exact ⟨rfl, rfl⟩
theorem StaV.back {c : Nat} {A : Option Addr} (E : StaV t w q F m xs (.slice A n c)) {k : Nat} (hk : k ≤ xs.length) : SGave t w (w.setCell ⟨q, 1, none⟩ (.slice A k c)) q F m (xs.take k) := by
  have e := cutHi_own A k c n c
  exact E.gave ⟨rfl, rfl, rfl, Nat.le_refl _, fun _ _ _ => rfl⟩ (cutHi_ints E.ints hk) (.inl e)
set_option maxHeartbeats 1000000 in
theorem stake_some (E : Sta 167 w q F m (ys ++ [a])) : Calls Tryz.prog 111 #[.pointer (some ⟨q, 0, none⟩)] w fun e w' => e = .returned (.tuple #[.int .i64 a, .bool true]) ∧ SGave 167 w w' q F m ys := by
  obtain ⟨u, E⟩ := E
  obtain ⟨A, N, c, rfl⟩ := shapeI E.ints
  obtain ⟨c0, c1⟩ := E.cells
  have f1 := E.top.frozen 1
  have hN : N = ys.length + 1 := by have := E.ints.nOf; simpa [nOf] using this
  have hm := E.ints.rd.len
  unfold maxLen at hm
  have hcap := E.ints.cap
  obtain ⟨g, off, rfl, hc⟩ := E.ints.rd.cell (j := ys.length) (by simp)
  · obtain ⟨K, hK⟩ : ∃ K, ys.length = K := ⟨_, rfl⟩
    rw [show (ys ++ [a]).getD ys.length 0 = a by simp [List.getD]] at hc
    have HP := Lib.hid (show SGave 167 w (w.setCell ⟨q, 1, none⟩ (.slice (some ⟨g, off, none⟩) K c)) q F m ys by
      have := E.back (k := K) (by simp; omega)
      rwa [show (ys ++ [a]).take K = ys by rw [← hK]; simp] at this)
    rw [hK] at hc hN
    simp only [List.length_append, hK, List.length_cons, List.length_nil] at hm
    have k0 : (0 : Int) ≤ (K : Int) := Int.natCast_nonneg _
    have k1 : (K : Int) < (N : Int) := by omega
    have a1 : wrap64 ((N : Int) - 1) = (K : Int) := by rw [wrap64_in (by omega) (by omega)]; omega
    have rs := run_cutHi (some ⟨g, off, none⟩) N c K (by omega)
    clear E hN hm hcap hK
    go_enter Tryz.func111, Tryz.ntmps111
    go_wp2_with fail
    go_ret2
    exact ⟨rfl, HP.out⟩
theorem Sta.len (E : Sta t w q F m xs) : xs.length ≤ maxLen := by obtain ⟨v, E⟩ := E; exact E.ints.rd.len
theorem STook.up (T : STook t w1 w' q F m ys o xs) (u : Up w w1) : STook t w w' q F m ys o xs := by
  obtain ⟨F', L, J, A, N, O, E⟩ := T
  have h := u.size
  exact ⟨F', L, J, A, fun b hb => (N b hb).imp id (fun h' => Nat.le_trans h h'), fun b hb => (O b hb).imp id (fun h' => Nat.le_trans h h'), (Else.of_up u).trans E⟩
theorem SGave.up (T : SGave t w1 w' q F m ys) (u : Up w w1) : SGave t w w' q F m ys := by
  obtain ⟨F', L, N, E⟩ := T
  have h := u.size
  exact ⟨F', L, fun b hb => (N b hb).imp id (fun h' => Nat.le_trans h h'), (Else.of_up u).trans E⟩
set_option maxHeartbeats 1000000 in
theorem sover_few (E : Sta 167 w q F m xs) (h : (xs.length : Int) ≤ m) (hm : m ≤ 64) : Calls Tryz.prog 61 #[.pointer (some ⟨q, 0, none⟩)] w fun e w' => e = .returned (.slice none 0 0) ∧ Up w w' := by
  obtain ⟨u, E⟩ := E
  obtain ⟨A, c, rfl⟩ := E.ints.slice
  obtain ⟨c0, c1⟩ := E.cells
  clear E
  obtain ⟨N, hN⟩ : ∃ N, xs.length = N := ⟨_, rfl⟩
  rw [hN] at h c1
  clear hN
  have a1 : IntKind.i64.wrap ((N : Int) - m) = (N : Int) - m := IntWalk.i64_in _ (by omega)
  have a2 : (N : Int) - m ≤ 0 := by omega
  go_enter Tryz.func61, Tryz.ntmps61
  go_upto_region 1 with fail
  go_quiet (fail)
  go_wp2_with fail
  go_ret
  exact ⟨rfl, Up.drewN _ _⟩
theorem SGave.after (E1 : Else F w w1) (X1 : Next w F F1) (G : SGave t w1 w2 q F1 m ys) : SGave t w w2 q F m ys := by
  obtain ⟨F2, S2, X2, E2⟩ := G
  have h := E1.size
  refine ⟨F2, S2, X1.trans X2 h, ⟨E2.os.trans E1.os, E2.tape.trans E1.tape, E2.output.trans E1.output, Nat.le_trans h E2.size, fun k hk hs => ?_⟩⟩
  refine (E2.block k (Nat.lt_of_lt_of_le hk h) (fun h1 => ?_)).trans (E1.block k hk hs)
  rcases X1 k h1 with h' | h'
  · exact hs h'
  · omega
/-- What was taken out is still there when something else has been put in. -/
theorem took_of {zs : List Int} (R1 : Rd w1 o ys) (A1 : Away o F1) (X1 : Next w F F1) (O1 : ∀ b, o.ownBlock = some b → b ∈ F ∨ w.heap.size ≤ b) (E1 : Else F w w1) (J : Ints w1 o ys) (G : SGave t w1 w2 q F1 m zs) : STook t w w2 q F m zs o ys := by
  obtain ⟨F2, S2, X2, E2⟩ := G
  have h := E1.size
  refine ⟨F2, S2, R1.else E2 A1, fun b hb e => ?_, X1.trans X2 h, O1, ⟨E2.os.trans E1.os, E2.tape.trans E1.tape, E2.output.trans E1.output, Nat.le_trans h E2.size, fun k hk hs => ?_⟩⟩
  · rcases X2 b hb with h' | h'
    · exact A1 b h' e
    · have := J.lt e; omega
  · refine (E2.block k (Nat.lt_of_lt_of_le hk h) (fun h1 => ?_)).trans (E1.block k hk hs)
    rcases X1 k h1 with h' | h'
    · exact hs h'
    · omega
theorem STook.cut {A : Option Addr} {c c2 K : Nat} (T : STook t w w' q F m xs (.slice A n c) ys) (h : K ≤ ys.length) : STook t w w' q F m xs (.slice A K c2) (ys.take K) := by
  obtain ⟨F1, S1, R1, A1, X1, O1, E1⟩ := T
  have e := cutHi_own A K c2 n c
  exact ⟨F1, S1, cutHi_rd R1 h, fun b hb h' => A1 b hb (e ▸ h'), X1, fun b hb => O1 b (e ▸ hb), E1⟩
set_option maxHeartbeats 2000000 in
theorem sover_many (E : Sta 167 w q F m xs) {K : Nat} (hK : (xs.length : Int) - m = K) (h0 : 0 < K) (hm0 : 0 ≤ m) (hl : xs.length ≤ 8192) :
    Calls Tryz.prog 61 #[.pointer (some ⟨q, 0, none⟩)] w fun e w' => ∃ A, e = .returned (.slice A K K) ∧ STook 167 w w' q F m (xs.drop K) (.slice A K K) (xs.take K) := by
  have HS := Lib.hid E
  obtain ⟨u, E⟩ := E
  obtain ⟨A, c, rfl⟩ := E.ints.slice
  obtain ⟨c0, c1⟩ := E.cells
  clear E
  obtain ⟨N, hN⟩ : ∃ N, xs.length = N := ⟨_, rfl⟩
  have HN := Lib.hid hN
  rw [hN] at hK c1 hl
  clear hN
  have a1 : IntKind.i64.wrap ((N : Int) - m) = (K : Int) := by rw [IntWalk.i64_in _ (by omega)]; omega
  have a2 : ¬ (K : Int) ≤ 0 := by omega
  have hKN : K ≤ N := by omega
  clear hK
  go_enter Tryz.func61, Tryz.ntmps61
  go_upto_region 1 with fail
  go_quiet (fail)
  have HS1 := Lib.hid (HS.out.up (Up.drewN w nq))
  go_wp2_with (first
    | (go_at_call 62; refine (sall_in HS1.out).mono ?_; rintro e w1 ⟨o, rfl, T1, J1⟩; obtain ⟨B, N1, k, rfl⟩ := shapeI J1; have e1 : N1 = N := by { have h1 := J1.nOf; have h2 := HN.out; simp [nOf] at h1; omega }; subst e1; have hck := J1.cap; have rs := run_cutLo B N1 k K hKN; have rs2 := run_cutHiM B N1 k K (Nat.le_trans hKN hck); have HT1 := Lib.hid T1; have HJ1 := Lib.hid J1; clear T1 J1)
    | (go_at_call 59; obtain ⟨F1, S1, R1, A1, X1, O1, E1⟩ := HT1.out; refine (sgive_any S1 (cutLo_rd R1 (by rw [HN.out]; exact hKN) hck) (by simp; have := HN.out; omega)).mono ?_; rintro e w2 ⟨rfl, G2⟩; have HG2 := Lib.hid (show STook 167 (w.drewN nq) w2 q F m (xs.drop K) (.slice B N1 k) xs from took_of R1 A1 X1 O1 E1 HJ1.out G2); clear S1 R1 A1 X1 O1 E1 G2))
  go_ret
  exact ⟨_, rfl, (HG2.out.cut (by rw [HN.out]; exact hKN)).up (Up.drewN _ _)⟩
end
end Go.Proofs.YtkopplnjomkleaaGreat
