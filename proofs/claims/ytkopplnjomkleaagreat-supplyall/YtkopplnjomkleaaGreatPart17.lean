/-
  Texts beneath SupplyAll, part 17: RtList, ChObj, SupObj.
-/
import Derived.Test.YtkopplnjomkleaaGreatPart16
/-
  The list that the cells tell, whatever they hold: the program's List and Spare, the reference's List.
-/
namespace Go.Proofs.YtkopplnjomkleaaGreat
open Go.RowKit
open W64
set_option maxRecDepth 100000
section
variable {w w' : World} {p g q hd ln n qs r0 : Nat} {s : St} {xs : List Int} {cc : Int} {c : Cf} {qq : Nat}
/-- The list so far, and what is next. -/
def WalkRel (w : World) (n ln : Nat) (xs : List Int) (S : List Nat) (v i : Value) (wr : World) : Prop :=
  ∃ (T : List Nat) (j : Int), T.length ≤ n ∧ i = .int .i64 j ∧ -1 ≤ j ∧ j < n ∧ T ++ walkL n ln xs (n - T.length) j = S ∧ Ints wr v (I T) ∧ Fresh w v ∧ Up w wr
theorem I_app (T : List Nat) (x : Nat) : I (T ++ [x]) = I T ++ [(x : Int)] := by simp [I]
theorem walk_more {T S : List Nat} {x : Nat} (h : T ++ walkL n ln xs (n - T.length) (x : Int) = S) (hl : T.length < n) : (T ++ [x]) ++ walkL n ln xs (n - (T ++ [x]).length) (belowN n (xs.getD (ln + x) 0)) = S := by
  obtain ⟨f, hf⟩ : ∃ f, n - T.length = f + 1 := ⟨n - T.length - 1, by omega⟩
  have e : n - (T ++ [x]).length = f := by rw [List.length_append]; simp; omega
  rw [hf, walkL_nat] at h
  rw [e, List.append_assoc]
  exact h
theorem walk_end {T S : List Nat} {j : Int} (h : T ++ walkL n ln xs (n - T.length) j = S) (hl : j < 0 ∨ n ≤ T.length) : T = S := by
  rcases hl with hl | hl
  · rw [walkL_neg hl] at h; simpa using h
  · rw [show n - T.length = 0 by omega] at h
    unfold walkL at h; simpa using h
set_option maxHeartbeats 4000000 in
theorem slist (E : Env w p g q hd ln n s) :
    Calls Tryz.prog 12 #[.pointer (some ⟨q, 0, none⟩)] w fun e w' => ∃ v, e = .returned v ∧ Ints w' v (I (lstOf n hd ln s.xs)) ∧ Fresh w v ∧ Up w w' := by
  obtain ⟨c0, c1, c2, c3⟩ := E.cells
  have n0 := E.n0
  have n1 := E.n1
  have hl := E.hl
  have ht := E.top
  have hk := E.ok hd
  have HW := Lib.hid E.ok.words
  have HE := Lib.hid E
  have HHD := Lib.hid E.hasH
  obtain ⟨S, hS⟩ : ∃ S, lstOf n hd ln s.xs = S := ⟨_, rfl⟩
  rw [hS]
  unfold lstOf at hS
  rw [← get_at] at hS
  obtain ⟨t, htt⟩ : ∃ t, topN n (s.get hd) = t := ⟨_, rfl⟩
  have hti := topN_in (n := n) (x := s.get hd) hk.1 n0
  rw [htt] at hS hti
  have HT := Lib.hid htt
  have HS := Lib.hid hS
  clear E hS htt
  go_enter Tryz.func12, Tryz.ntmps12
  go_upto_region 2 with fail
  go_region_held3 (fun w' => w'.cell? ⟨q, 0, none⟩ = some (.pointer (some ⟨p, 0, none⟩)) ∧ w'.cell? ⟨q, 1, none⟩ = some (.int .i64 hd)) ((first | exact ⟨c0, c1⟩ | exact ⟨U1.kept c0, U1.kept c1⟩))
    (first
      | (go_at_call 51; refine (peek_in (HE.out.mem.up (up_drew w)) HHD.out).mono ?_; rintro e w9 ⟨rfl, rfl⟩)
      | (go_at_call 54; refine (ofHead_to (HE.out.up (up_drew w)) hk.1 hk.2 HT.out).mono ?_; rintro e w1 ⟨rfl, U1⟩))
  have HU := Lib.hid ((up_drew w).trans U1)
  clear U1 c0 c1 c2 c3 hk
  go_wp2_with fail
  go_loopw [3, 4] (fun v i wr => WalkRel w n ln s.xs S v i wr) (fun v _ _ => n - nOf v)
  case atStart => exact ⟨[], t, Nat.zero_le _, rfl, hti.1, hti.2, HS.out, Ints.nil _, fresh_nil _, HU.out⟩
  case round =>
    obtain ⟨T, j, hT, rfl, j0, j1, hS, J, F, hup⟩ := hrel
    obtain ⟨A, cp, rfl⟩ := J.slice
    obtain ⟨k, hk⟩ : ∃ k, T.length = k := ⟨_, rfl⟩
    rw [I_len, hk] at J F ⊢
    have HEr := Lib.hid (HE.out.up hup)
    obtain ⟨c0, c1, c2, c3⟩ := HEr.out.cells
    have HJ := Lib.hid J
    have HF := Lib.hid F
    have HUP := Lib.hid hup
    have HSS := Lib.hid hS
    have HK := Lib.hid hk
    rw [hk] at hT
    clear J F hup hS hk
    by_cases hj : j = -1
    · subst hj
      have HFI := Lib.hid (walk_end HSS.out (.inl (by decide)))
      go_wp2_with fail
      go_ret
      rw [HFI.out] at HJ
      have hk2 := HK.out
      rw [HFI.out] at hk2
      exact ⟨_, rfl, HJ.out, HF.out, HUP.out⟩
    · have g1 : (j == -1) = false := by simpa using hj
      by_cases hlt : k < n
      · have g2 : (k : Int) < (n : Int) := by omega
        obtain ⟨x, rfl⟩ : ∃ x : Nat, j = x := ⟨j.toNat, by omega⟩
        have hx : x < n := by omega
        have hz := HW.out (ln + x)
        have gz := Lib.hid (get_ln s ln x)
        obtain ⟨z, ez⟩ : ∃ z, s.xs.getD (ln + x) 0 = z := ⟨_, rfl⟩
        obtain ⟨y, ey⟩ : ∃ y, belowN n z = y := ⟨_, rfl⟩
        rw [ez] at hz
        have HN := Lib.hid (show (T ++ [x]) ++ walkL n ln s.xs (n - (T ++ [x]).length) y = S by
          rw [← ey, ← ez]; exact walk_more HSS.out (by rw [HK.out]; exact hlt))
        have HY := Lib.hid (show -1 ≤ y ∧ y < n by rw [← ey]; exact belowN_in hz.1 n0)
        have HB := Lib.hid (And.intro ey hz)
        have HZ := Lib.hid (show s.get ((ln : Int) + (x : Nat)) = z by rw [gz.out, ez])
        have hh := Lib.hid (HE.out.hasL (i := x) (by omega) (by omega))
        have s3 : IntKind.i64.wrap ((ln : Int) + x) = ln + x := IntWalk.i64_in _ (by omega)
        have i0 : (0 : Int) ≤ (x : Int) := Int.natCast_nonneg _
        clear ez ey hz
        go_upto_region 5 with (at_builtin; refine wpList_app rfl _ _ rfl rfl rfl (HJ.out.up (Up.alloc _ _)) (rd_one _ (x : Int)) (by rw [I_len, HK.out]; simp; omega) ?_; intro v5 w5 J5 G5 A5; obtain ⟨A5v, N5, c5, rfl⟩ := shapeI J5; have HJ5 := Lib.hid J5; have HU5 := Lib.hid (up_app (HUP.out.then_alloc _) G5 HF.out); have HF5 := Lib.hid (fresh_app HF.out (HUP.out.then_alloc (.cells #[.int .i64 (x : Int)] 3)).size A5); clear J5 G5 A5)
        clear c0 c1 c2 c3
        have HED := Lib.hid (HE.out.up HU5.out)
        obtain ⟨c0, c1, c2, c3⟩ := HED.out.cells
        go_region_held3 (fun w' => w'.cell? ⟨q, 0, none⟩ = some (.pointer (some ⟨p, 0, none⟩)) ∧ w'.cell? ⟨q, 2, none⟩ = some (.int .i64 ln)) ((first | exact ⟨c0, c2⟩))
          (first
            | (go_at_call 51; refine (peek_to (HED.out.mem.up (up_drew w5)) hh.out HZ.out).mono ?_; rintro e w9 ⟨rfl, rfl⟩)
            | (go_at_call 55; refine (ofLink_to (HED.out.up (up_drew w5)) HB.out.2.1 HB.out.2.2 HB.out.1).mono ?_; rintro e w9 ⟨rfl, rfl⟩))
        have hN5 : N5 = k + 1 := by
          obtain ⟨A9, c9, e9⟩ := HJ5.out.slice
          injection e9 with _ e9 _
          rw [e9, List.length_append, I_len, HK.out]; rfl
        subst hN5
        go_wp2_with fail
        go_roundw
        case rel => exact ⟨T ++ [x], y, by rw [List.length_append, HK.out]; simp; omega, rfl, HY.out.1, HY.out.2, HN.out, by rw [I_app]; exact HJ5.out.up (up_drew w5), HF5.out, HU5.out.trans (up_drew w5)⟩
        case measure => simp [nOf]; omega
      · have g2 : ¬ (k : Int) < (n : Int) := by omega
        have HFI := Lib.hid (walk_end HSS.out (.inr (by rw [HK.out]; omega)))
        go_wp2_with fail
        go_ret
        rw [HFI.out] at HJ
        exact ⟨_, rfl, HJ.out, HF.out, HUP.out⟩
set_option maxHeartbeats 4000000 in
theorem rlist (E : REnv w p g q hd ln n xs cc) :
    Calls Tryz.prog 13 #[.pointer (some ⟨q, 0, none⟩)] w fun e w' => ∃ v, e = .returned v ∧ Ints w' v (I (lstOf n hd ln xs)) ∧ Fresh w v ∧ Up w w' := by
  obtain ⟨k0, k1, k2, k3⟩ := E.cells
  have r0 := E.mem.cells.1
  have rh := E.mem.cell E.hh
  have n0 := E.n0
  have n1 := E.n1
  have hlx := E.hl
  have htx := E.top
  have hhx := E.hh
  have ok := E.ok hd
  have HW := Lib.hid E.ok
  obtain ⟨S, hS⟩ : ∃ S, lstOf n hd ln xs = S := ⟨_, rfl⟩
  rw [hS]
  unfold lstOf at hS
  obtain ⟨y0, hy⟩ : ∃ y, xs.getD hd 0 = y := ⟨_, rfl⟩
  rw [hy] at rh ok hS
  obtain ⟨t, htt⟩ : ∃ t, topN n y0 = t := ⟨_, rfl⟩
  have hti := topN_in (n := n) ok.1 n0
  rw [htt] at hS hti
  have HT := Lib.hid htt
  have HS := Lib.hid hS
  have i8 : (0 : Int) ≤ (hd : Int) := Int.natCast_nonneg _
  have i9 : (hd : Int) < (xs.length : Int) := by omega
  obtain ⟨L, hL⟩ : ∃ L, xs.length = L := ⟨_, rfl⟩
  rw [hL] at r0 i9 hlx htx hhx
  have HLL := Lib.hid hL
  have HE := Lib.hid E
  clear E hy hL hS htt
  go_enter Tryz.func13, Tryz.ntmps13
  go_upto_region 2 with fail
  go_region_held3 (fun w' => w'.cell? ⟨q, 0, none⟩ = some (.pointer (some ⟨p, 0, none⟩)) ∧ w'.cell? ⟨q, 1, none⟩ = some (.int .i64 hd) ∧ w'.cell? ⟨p, 0, none⟩ = some (.slice (some ⟨g, 0, none⟩) L L) ∧ w'.cell? ⟨g, hd, none⟩ = some (.int .u64 y0)) ((first | exact ⟨k0, k1, r0, rh⟩ | exact ⟨U1.kept k0, U1.kept k1, U1.kept r0, U1.kept rh⟩))
    (first
      | (go_at_call 56; refine (rtop_to (HE.out.up (up_drew w)) ok.1 ok.2 HT.out).mono ?_; rintro e w1 ⟨rfl, U1⟩))
  have HU := Lib.hid ((up_drew w).trans U1)
  clear U1 k0 k1 k2 k3 r0 rh ok
  go_wp2_with fail
  go_loopw [3, 4] (fun v i wr => WalkRel w n ln xs S v i wr) (fun v _ _ => n - nOf v)
  case atStart => exact ⟨[], t, Nat.zero_le _, rfl, hti.1, hti.2, HS.out, Ints.nil _, fresh_nil _, HU.out⟩
  case round =>
    obtain ⟨T, j, hT, rfl, j0, j1, hS, J, F, hup⟩ := hrel
    obtain ⟨A, cp, rfl⟩ := J.slice
    obtain ⟨k, hk⟩ : ∃ k, T.length = k := ⟨_, rfl⟩
    rw [I_len, hk] at J F ⊢
    have HEr := Lib.hid (HE.out.up hup)
    obtain ⟨k0, k1, k2, k3⟩ := HEr.out.cells
    have HJ := Lib.hid J
    have HF := Lib.hid F
    have HUP := Lib.hid hup
    have HSS := Lib.hid hS
    have HK := Lib.hid hk
    rw [hk] at hT
    clear J F hup hS hk
    by_cases hj : j < 0
    · have g1 : ¬ (0 : Int) ≤ j := by omega
      have HFI := Lib.hid (walk_end HSS.out (.inl hj))
      go_wp2_with fail
      go_ret
      rw [HFI.out] at HJ
      exact ⟨_, rfl, HJ.out, HF.out, HUP.out⟩
    · have g1 : (0 : Int) ≤ j := by omega
      by_cases hlt : k < n
      · have g2 : (k : Int) < (n : Int) := by omega
        obtain ⟨x, rfl⟩ : ∃ x : Nat, j = x := ⟨j.toNat, by omega⟩
        have hx : x < n := by omega
        have hz := HW.out (ln + x)
        have hkl : ln + x < xs.length := by rw [HLL.out]; omega
        have HKL := Lib.hid hkl
        obtain ⟨z, ez⟩ : ∃ z, xs.getD (ln + x) 0 = z := ⟨_, rfl⟩
        obtain ⟨y, ey⟩ : ∃ y, belowN n z = y := ⟨_, rfl⟩
        rw [ez] at hz
        have HN := Lib.hid (show (T ++ [x]) ++ walkL n ln xs (n - (T ++ [x]).length) y = S by
          rw [← ey, ← ez]; exact walk_more HSS.out (by rw [HK.out]; exact hlt))
        have HY := Lib.hid (show -1 ≤ y ∧ y < n by rw [← ey]; exact belowN_in hz.1 n0)
        have HB := Lib.hid (And.intro ey hz)
        have HZ := Lib.hid ez
        clear ez ey hz hkl
        have g3 : (ln : Int) + (x : Int) < (L : Int) := by omega
        have g4 : (0 : Int) ≤ (ln : Int) + (x : Int) := by omega
        have e1 : ((ln : Int) + (x : Int)).toNat = ln + x := by omega
        have z4 : ln + x ≤ 8400000 := by omega
        obtain ⟨s3, s4⟩ := wrapS (a := ln) (b := x) z4
        clear z4
        go_upto_region 4 with (at_builtin; refine wpList_app rfl _ _ rfl rfl rfl (HJ.out.up (Up.alloc _ _)) (rd_one _ (x : Int)) (by rw [I_len, HK.out]; simp; omega) ?_; intro v5 w5 J5 G5 A5; obtain ⟨A5v, N5, c5, rfl⟩ := shapeI J5; have HJ5 := Lib.hid J5; have HU5 := Lib.hid (up_app (HUP.out.then_alloc _) G5 HF.out); have HF5 := Lib.hid (fresh_app HF.out (HUP.out.then_alloc (.cells #[.int .i64 (x : Int)] 3)).size A5); clear J5 G5 A5)
        clear k0 k1 k2 k3
        have HED := Lib.hid (HE.out.up HU5.out)
        obtain ⟨k0, k1, k2, k3⟩ := HED.out.cells
        have r0 := HED.out.mem.cells.1
        have rh := HED.out.mem.cell HKL.out
        rw [HLL.out] at r0
        rw [HZ.out] at rh
        go_region_held3 (fun w' => w'.cell? ⟨q, 0, none⟩ = some (.pointer (some ⟨p, 0, none⟩)) ∧ w'.cell? ⟨q, 2, none⟩ = some (.int .i64 ln) ∧ w'.cell? ⟨p, 0, none⟩ = some (.slice (some ⟨g, 0, none⟩) L L) ∧ w'.cell? ⟨g, ln + x, none⟩ = some (.int .u64 z)) ((first | exact ⟨k0, k2, r0, rh⟩))
          (first
            | (go_at_call 57; refine (rbelow_to (HED.out.up (up_drew w5)) HB.out.2.1 HB.out.2.2 HB.out.1).mono ?_; rintro e w9 ⟨rfl, rfl⟩))
        have hN5 : N5 = k + 1 := by
          obtain ⟨A9, c9, e9⟩ := HJ5.out.slice
          injection e9 with _ e9 _
          rw [e9, List.length_append, I_len, HK.out]; rfl
        subst hN5
        go_wp2_with fail
        go_roundw
        case rel => exact ⟨T ++ [x], y, by rw [List.length_append, HK.out]; simp; omega, rfl, HY.out.1, HY.out.2, HN.out, by rw [I_app]; exact HJ5.out.up (up_drew w5), HF5.out, HU5.out.trans (up_drew w5)⟩
        case measure => simp [nOf]; omega
      · have g2 : ¬ (k : Int) < (n : Int) := by omega
        have HFI := Lib.hid (walk_end HSS.out (.inr (by rw [HK.out]; omega)))
        go_wp2_with fail
        go_ret
        rw [HFI.out] at HJ
        exact ⟨_, rfl, HJ.out, HF.out, HUP.out⟩
end
end Go.Proofs.YtkopplnjomkleaaGreat

/-
  Package chain: the chains over their cells (Cha); an object beside them (Cx); has, ofLink, asLink, Pool, Fill; a course's step.
-/
namespace Go.Proofs.YtkopplnjomkleaaGreat
open Go.RowKit
open W64
set_option maxRecDepth 100000
/-- The chains lie at q, over the memory at p (its cells at g), the pool's stack at qs; the links begin at lk; n chunks. -/
structure Cha (w : World) (q p g qs : Nat) (c : Cf) (lk n : Nat) (s : St) : Prop where
  obj : Whole w q 132 (rooRow c p qs)
  env : Env w p g qs 0 lk n s
  may : mayB c = true
  hk : (lk : Int) = 3 + c.wk + 2 * c.sl
  hn : (n : Int) = c.ch
/-- An object at b beside the chains and their memory: nothing else has turned. -/
structure Cx (w0 : World) (b q p g : Nat) (t : TypeId) (rb rq : Array Value) (s : St) (w : World) : Prop where
  hb : Whole w b t rb
  hq : Whole w q 132 rq
  hm : Mem w p g s
  he : Else [b, p, g] w0 w
  n1 : b ≠ q
  n2 : b ≠ p
  n3 : b ≠ g
  n4 : q ≠ p
  n5 : q ≠ g
/-- A slice's block, as a list. -/
def blk (v : Value) : List Nat := v.ownBlock.toList
theorem mem_blk {v : Value} {k : Nat} : k ∈ blk v ↔ v.ownBlock = some k := by unfold blk; cases v.ownBlock <;> simp [eq_comm]
theorem Else.new_too {s t : List Nat} {a w w' : World} (h : Else s a w) (k : Else t w w') (ht : ∀ x ∈ t, x ∈ s ∨ a.heap.size ≤ x) : Else s a w' :=
  ⟨k.os.trans h.os, k.tape.trans h.tape, k.output.trans h.output, Nat.le_trans h.size k.size, fun i hi hs => (k.block i (Nat.lt_of_lt_of_le hi h.size) (fun hit => by rcases ht i hit with h1 | h1; exact hs h1; omega)).trans (h.block i hi hs)⟩
theorem ints_off {w : World} {v : Value} {xs : List Int} {b : Nat} {t : TypeId} {cs : Array Value} (J : Ints w v xs) (B : Whole w b t cs) (ht : 3 ≠ t) : v.ownBlock ≠ some b := by
  rcases J.2 with ⟨rfl, _⟩ | ⟨a, cap, cur, rfl, _, hh, _⟩
  · simp [Value.ownBlock]
  · intro e
    simp [Value.ownBlock] at e
    exact (show Whole w a 3 cur from hh).ne_type B ht e
section
variable {w0 w w' : World} {q p g qs lk n b d : Nat} {c : Cf} {s s' : St} {t : TypeId} {rb rq : Array Value} {M : World → Prop} {xs : List Int} {own : List Nat}
theorem Cha.qp (R : Cha w q p g qs c lk n s) : q ≠ p := R.obj.ne_type R.env.mem.top (by decide)
theorem Cha.qg (R : Cha w q p g qs c lk n s) : q ≠ g := R.obj.ne_type R.env.mem.row (by decide)
theorem Cha.qq (R : Cha w q p g qs c lk n s) : q ≠ qs := R.obj.ne_type R.env.stk (by decide)
theorem Cha.turn (R : Cha w q p g qs c lk n s) (m : Mem w' p g s') {x : List Nat} (u : Else x w w') (h1 : q ∉ x) (h2 : qs ∉ x) (ok : s'.Ok) (hl : s'.xs.length = s.xs.length) : Cha w' q p g qs c lk n s' :=
  ⟨u.whole R.obj h1, R.env.went m u h2 ok hl, R.may, R.hk, R.hn⟩
theorem Cha.else (R : Cha w q p g qs c lk n s) {x : List Nat} (u : Else x w w') (h : p ∉ x ∧ g ∉ x ∧ qs ∉ x ∧ q ∉ x) : Cha w' q p g qs c lk n s :=
  ⟨u.whole R.obj h.2.2.2, R.env.else u h.1 h.2.1 h.2.2.1, R.may, R.hk, R.hn⟩
theorem Cha.up (R : Cha w q p g qs c lk n s) (u : Up w w') : Cha w' q p g qs c lk n s := ⟨R.obj.up u, R.env.up u, R.may, R.hk, R.hn⟩
theorem Cha.at (R : Cha w q p g qs c lk n s) {k : Nat} (h : k < n) : llinkN c (k : Int) = ((lk + k : Nat) : Int) ∧ lk + k < s.xs.length := by
  have h1 := R.hk
  have h2 := R.hn
  have h3 := R.env.hl
  refine ⟨?_, by omega⟩
  unfold llinkN
  rw [atN_is R.may (by omega) (by omega)]
  omega
theorem Cha.nn (R : Cha w q p g qs c lk n s) : 6 ≤ lk ∧ 1 ≤ n ∧ n ≤ 4096 ∧ s.xs.length ≤ 8388608 := by
  have h1 := R.hk
  obtain ⟨h2, _, _, h3, _⟩ := may_small R.may
  exact ⟨by omega, R.env.n0, R.env.n1, R.env.top⟩
theorem Cha.cells (R : Cha w q p g qs c lk n s) (u : Up w w') : w'.cell? ⟨q, 0, none⟩ = some (.pointer (some ⟨p, 0, none⟩)) ∧ w'.cell? ⟨q, 1, none⟩ = some (.int .i64 c.wk) ∧ w'.cell? ⟨q, 2, none⟩ = some (.int .i64 c.ch) ∧ w'.cell? ⟨q, 3, none⟩ = some (.int .i64 c.wo) ∧ w'.cell? ⟨q, 4, none⟩ = some (.int .i64 c.sl) ∧ w'.cell? ⟨q, 5, none⟩ = some (.int .i64 c.ca) ∧ w'.cell? ⟨q, 6, none⟩ = some (.int .i64 c.ba) :=
  ⟨u.kept (R.obj.cell rfl), u.kept (R.obj.cell rfl), u.kept (R.obj.cell rfl), u.kept (R.obj.cell rfl), u.kept (R.obj.cell rfl), u.kept (R.obj.cell rfl), u.kept (R.obj.cell rfl)⟩
theorem Cx.up (O : Cx w0 b q p g t rb rq s w) (u : Up w w') : Cx w0 b q p g t rb rq s w' := ⟨O.hb.up u, O.hq.up u, O.hm.up u, O.he.up u, O.n1, O.n2, O.n3, O.n4, O.n5⟩
theorem Cx.put (O : Cx w0 b q p g t rb rq s w) (i : Nat) (v : Value) : Cx w0 b q p g t (rb.setIfInBounds i v) rq s (w.setCell ⟨b, i, none⟩ v) := by
  have u : Else [b] w (w.setCell ⟨b, i, none⟩ v) := (Else.refl [b] w).set (.inl (by simp)) _
  exact ⟨O.hb.set i v, u.whole O.hq (by simp [O.n1.symm]), O.hm.else u (by simp [O.n2.symm]) (by simp [O.n3.symm]), O.he.trans (u.more (by simp)), O.n1, O.n2, O.n3, O.n4, O.n5⟩
theorem Cx.turn (O : Cx w0 b q p g t rb rq s w) (m : Mem w' p g s') (u : Else [p, g] w w') : Cx w0 b q p g t rb rq s' w' :=
  ⟨u.whole O.hb (by simp [O.n2, O.n3]), u.whole O.hq (by simp [O.n4, O.n5]), m, O.he.trans (u.wide b), O.n1, O.n2, O.n3, O.n4, O.n5⟩
theorem Cha.cx (R : Cha w q p g qs c lk n s) (B : Whole w b t rb) (h1 : t ≠ 132) (h2 : t ≠ 120) (h3 : t ≠ 88) : Cx w b q p g t rb (rooRow c p qs) s w :=
  ⟨B, R.obj, R.env.mem, Else.refl _ _, B.ne_type R.obj h1, B.ne_type R.env.mem.top h2, B.ne_type R.env.mem.row h3, R.qp, R.qg⟩
theorem chPool (R : Cha w q p g qs c lk n s) :
    Calls Tryz.prog 31 #[.pointer (some ⟨q, 0, none⟩)] w fun e w' => e = .returned (.pointer (some ⟨qs, 0, none⟩)) ∧ w = w' := by
  have c7 := R.obj.cell (i := 7) (v := .pointer (some ⟨qs, 0, none⟩)) rfl
  clear R
  go_enter Tryz.func31, Tryz.ntmps31
  go_wp2_with fail
  go_ret
  exact ⟨rfl, rfl⟩
theorem fillS_len (s : St) (hd ln n : Nat) : (fillS s hd ln n).xs.length = s.xs.length := by unfold fillS; rw [lay_len, lay_len, fillK_len]
theorem fillS_c (s : St) (hd ln n : Nat) : (fillS s hd ln n).c = s.c := fillK_c s ln (n - 1)
theorem fillS_ok {s : St} (h : s.Ok) (hd ln n : Nat) (hn : n ≤ 4096) : (fillS s hd ln n).Ok :=
  ((fillK_ok h ln (n - 1) (by omega)).lay _ (by decide) (by decide)).lay _ (by decide) (by decide)
theorem chFill (R : Cha w q p g qs c lk n s) :
    Calls Tryz.prog 32 #[.pointer (some ⟨q, 0, none⟩)] w fun e w' => e = .returned (.tuple #[]) ∧ Cha w' q p g qs c lk n (fillS s 0 lk n) ∧ Else [p, g] w w' := by
  have c7 := R.obj.cell (i := 7) (v := .pointer (some ⟨qs, 0, none⟩)) rfl
  have HR := Lib.hid R
  clear R
  go_enter Tryz.func32, Tryz.ntmps32
  go_wp2_with (first
    | (go_at_call 75; refine (fill_in HR.out.env).mono ?_; rintro e w1 ⟨rfl, M1, E1⟩; have HM := Lib.hid M1; have HE := Lib.hid E1; clear M1 E1))
  go_end0
  exact ⟨rfl, HR.out.turn HM.out HE.out (by simp [HR.out.qp, HR.out.qg]) (by simp [HR.out.env.np, HR.out.env.ng]) (fillS_ok HR.out.env.ok _ _ _ HR.out.nn.2.2.1) (fillS_len _ _ _ _), HE.out⟩
end
end Go.Proofs.YtkopplnjomkleaaGreat

/-
  Package supply: a worker's supply, its row known (suRow): Stash, Bucket, Put, Ready, Retire; a course's step.
-/
namespace Go.Proofs.YtkopplnjomkleaaGreat
open Go.RowKit
open W64
set_option maxRecDepth 100000
set_option linter.unusedSimpArgs false
def suRow (p q : Nat) (ba : Int) (qs ql : Nat) : Array Value := #[.pointer (some ⟨p, 0, none⟩), .pointer (some ⟨q, 0, none⟩), .int .i64 ba, .pointer (some ⟨qs, 0, none⟩), .pointer (some ⟨ql, 0, none⟩)]
section
variable {w w1 w' : World} {b p q qs ql k : Nat} {F : List Nat} {m now tag ba : Int} {st xs : List Int} {R : Lb} {v : Value}
theorem PSu.cells (E : PSu w b (suRow p q ba qs ql) qs ql F m st R) (u : Up w w') :
    w'.cell? ⟨b, 0, none⟩ = some (.pointer (some ⟨p, 0, none⟩)) ∧ w'.cell? ⟨b, 1, none⟩ = some (.pointer (some ⟨q, 0, none⟩)) ∧ w'.cell? ⟨b, 2, none⟩ = some (.int .i64 ba) ∧ w'.cell? ⟨b, 3, none⟩ = some (.pointer (some ⟨qs, 0, none⟩)) ∧ w'.cell? ⟨b, 4, none⟩ = some (.pointer (some ⟨ql, 0, none⟩)) :=
  ⟨u.kept (E.obj.cell rfl), u.kept (E.obj.cell rfl), u.kept (E.obj.cell rfl), u.kept (E.obj.cell rfl), u.kept (E.obj.cell rfl)⟩
set_option maxHeartbeats 1000000 in
theorem suStash (E : PSu w b (suRow p q ba qs ql) qs ql F m st R) (hl : st.length ≤ 8192) {d : Nat} (hd : st.length = d) :
    Calls Tryz.prog 15 #[.pointer (some ⟨b, 0, none⟩)] w fun e w' => ∃ A cp, e = .returned (.slice A d cp) ∧ Ints w' (.slice A d cp) st ∧ Fresh w (.slice A d cp) ∧ Up w w' := by
  subst hd
  obtain ⟨_, _, _, c3, _⟩ := E.cells (Up.refl _)
  have HL := Lib.hid (psuList E hl)
  clear E hl
  go_enter Tryz.func15, Tryz.ntmps15
  go_wp2_with (go_at_call 58; (with_reducible refine HL.out.mono ?_); rintro e w1 ⟨o, rfl, J1, F1, U1⟩; obtain ⟨A, cp, rfl⟩ := J1.slice; have HJ1 := Lib.hid J1; have HF1 := Lib.hid F1; have HU1 := Lib.hid U1; clear J1 F1 U1)
  go_ret
  exact ⟨A, cp, rfl, HJ1.out, HF1.out, HU1.out⟩
set_option maxHeartbeats 1000000 in
theorem suBucket (E : PSu w b (suRow p q ba qs ql) qs ql F m st R) {i : Int} (hi : i = (k : Int)) (hk : k < 3) (hT : R.T k = tag) (hL : R.L k = xs) (hl : xs.length ≤ 8192) {d : Nat} (hd : xs.length = d) :
    Calls Tryz.prog 52 #[.pointer (some ⟨b, 0, none⟩), .int .i64 i] w fun e w' => ∃ A cp, e = .returned (.tuple #[.int .i64 tag, .slice A d cp]) ∧ Ints w' (.slice A d cp) xs ∧ Fresh w (.slice A d cp) ∧ Up w w' := by
  obtain ⟨_, _, _, _, c4⟩ := E.cells (Up.refl _)
  obtain ⟨Fs, Fl, E0⟩ := E
  have HL := Lib.hid (bucket_to E0.lim hi hk hT hL hl hd)
  clear E0 hi hk hT hL hl
  go_enter Tryz.func52, Tryz.ntmps52
  go_wp2_with (go_at_call 103; (with_reducible refine HL.out.mono ?_); rintro e w1 ⟨A, cp, rfl, J1, F1, U1⟩; have HJ1 := Lib.hid J1; have HF1 := Lib.hid F1; have HU1 := Lib.hid U1; clear J1 F1 U1)
  go_ret2
  exact ⟨A, cp, rfl, HJ1.out, HF1.out, HU1.out⟩
set_option maxHeartbeats 1000000 in
theorem suPut (E : PSu w b (suRow p q ba qs ql) qs ql F m st R) (Rv : Rd w v xs) (hl : st.length + xs.length ≤ 8192) :
    Calls Tryz.prog 16 #[.pointer (some ⟨b, 0, none⟩), v] w fun e w' => e = .returned (.tuple #[]) ∧ Turned w w' F fun F' => PSu w' b (suRow p q ba qs ql) qs ql F' m (st ++ xs) R := by
  obtain ⟨_, _, _, c3, _⟩ := E.cells (Up.refl _)
  have HG := Lib.hid (psuGive E Rv hl)
  obtain ⟨Av', cv, rfl⟩ := Rv.slice
  clear E Rv hl
  go_enter Tryz.func16, Tryz.ntmps16
  go_wp2_with (go_at_call 59; (with_reducible refine HG.out.mono ?_); rintro e w1 ⟨rfl, T1⟩; have HT1 := Lib.hid T1; clear T1)
  go_end0
  exact ⟨rfl, HT1.out⟩
set_option maxHeartbeats 2000000 in
theorem suReady (E : PSu w b (suRow p q ba qs ql) qs ql F m st R) (now : Int) (hs : R.size ≤ 8000) (hl : st.length + (R.outs now).length ≤ 8192) {d : Nat} (hd : (R.outs now).length = d) :
    Calls Tryz.prog 49 #[.pointer (some ⟨b, 0, none⟩), .int .i64 now] w fun e w' => e = .returned (.int .i64 (d : Nat)) ∧ Turned w w' F fun F' => PSu w' b (suRow p q ba qs ql) qs ql F' m (st ++ R.outs now) (R.rest now) := by
  obtain ⟨c0, c1, c2, c3, c4⟩ := E.cells (Up.refl _)
  have HL := Lib.hid (psuReady E now (by omega))
  have HLL := Lib.hid hl
  have HD := Lib.hid hd
  clear E hs hl hd
  go_enter Tryz.func49, Tryz.ntmps49
  go_upto_region 2 with (go_at_call 101; (with_reducible refine HL.out.mono ?_); rintro e w1 ⟨o, rfl, F1, ⟨E1, J1, A1, O1⟩, N1, X1⟩; obtain ⟨Ao, co, rfl⟩ := J1.slice; have HE1 := Lib.hid E1; have HJ1 := Lib.hid J1; have HN1 := Lib.hid (And.intro N1 X1); clear E1 J1 A1 O1 N1 X1)
  clear c0 c1 c2 c3 c4
  rw [HD.out]
  rw [HD.out] at HJ1
  obtain ⟨c0, c1, c2, c3, c4⟩ := HE1.out.cells (Up.refl _)
  go_wp2_with (go_at_call 59; (with_reducible refine (psuGive HE1.out HJ1.out.rd HLL.out).mono ?_); rintro e w2 ⟨rfl, T2⟩; have HT2 := Lib.hid T2; clear T2)
  go_ret
  exact ⟨rfl, Turned.trans HN1.out.1 HN1.out.2 HT2.out⟩
set_option maxHeartbeats 2000000 in
theorem suRetire (E : PSu w b (suRow p q ba qs ql) qs ql F m st R) (Rv : Rd w v xs) (Av : Away v F) (h0 : xs ≠ []) (h1 : R.last ≤ tag) (h2 : tag ≤ 4611686018427387903) {kk : Nat} (hk : tag % 3 = kk) (hs : R.size + xs.length ≤ 8000) (hl : st.length + (R.taken kk tag).length ≤ 8192) :
    Calls Tryz.prog 45 #[.pointer (some ⟨b, 0, none⟩), .int .i64 tag, v] w fun e w' => e = .returned (.int .i64 0) ∧ Turned w w' F fun F' => PSu w' b (suRow p q ba qs ql) qs ql F' m (st ++ R.taken kk tag) (R.retire kk tag xs) := by
  obtain ⟨c0, c1, c2, c3, c4⟩ := E.cells (Up.refl _)
  have HL := Lib.hid (psuRetire E Rv Av h0 h1 h2 hk (by omega))
  have HLL := Lib.hid hl
  obtain ⟨Av', cv, rfl⟩ := Rv.slice
  clear E h0 h1 h2 hk hs hl Rv Av
  go_enter Tryz.func45, Tryz.ntmps45
  go_upto_region 2 with (go_at_call 98; (with_reducible refine HL.out.mono ?_); rintro e w1 ⟨o, rfl, F1, ⟨E1, J1, A1, O1⟩, N1, X1⟩; obtain ⟨Ao, No, co, rfl⟩ := shapeI J1; have HE1 := Lib.hid E1; have HJ1 := Lib.hid J1; have HN1 := Lib.hid (And.intro N1 X1); clear E1 J1 A1 O1 N1 X1)
  clear c0 c1 c2 c3 c4
  obtain ⟨c0, c1, c2, c3, c4⟩ := HE1.out.cells (Up.refl _)
  go_wp2_with (go_at_call 59; (with_reducible refine (psuGive HE1.out HJ1.out.rd HLL.out).mono ?_); rintro e w2 ⟨rfl, T2⟩; have HT2 := Lib.hid T2; clear T2)
  go_ret
  exact ⟨rfl, Turned.trans HN1.out.1 HN1.out.2 HT2.out⟩
set_option maxHeartbeats 2000000 in
theorem suRetire_no (E : PSu w b (suRow p q ba qs ql) qs ql F m st R) (Rv : Rd w v xs) (h : ¬ (xs ≠ [] ∧ R.last ≤ tag ∧ tag ≤ 4611686018427387903)) (hl : st.length ≤ 8192) :
    Calls Tryz.prog 45 #[.pointer (some ⟨b, 0, none⟩), .int .i64 tag, v] w fun e w' => e = .returned (.int .i64 1) ∧ Turned w w' F fun F' => PSu w' b (suRow p q ba qs ql) qs ql F' m st R := by
  obtain ⟨c0, c1, c2, c3, c4⟩ := E.cells (Up.refl _)
  have HL := Lib.hid (psuRetire_no E Rv h)
  have HG := Lib.hid (psuGive E (Rd.nil w) (by simpa using hl))
  obtain ⟨Av', cv, rfl⟩ := Rv.slice
  clear E h hl Rv
  go_enter Tryz.func45, Tryz.ntmps45
  go_wp2_with (first
    | (go_at_call 98; (with_reducible refine HL.out.mono ?_); rintro e w1 ⟨rfl, rfl⟩)
    | (go_at_call 59; (with_reducible refine HG.out.mono ?_); rintro e w2 ⟨rfl, T2⟩; have HT2 := Lib.hid T2; clear T2))
  go_ret
  exact ⟨rfl, HT2.out.imp fun F' h => by simpa using h⟩
/-! ### A course -/
theorem ucourse_end (c0 : w.cell? ⟨b, 0, none⟩ = some .nilFunc) : Calls Tryz.prog 69 #[.pointer (some ⟨b, 0, none⟩)] w fun e w' => e = .returned (.bool false) ∧ w = w' := by
  have h1 := run_eql_nilFunc
  go_enter Tryz.func69, Tryz.ntmps69
  go_wp2_with fail
  go_ret
  exact ⟨rfl, rfl⟩
set_option maxHeartbeats 1000000 in
theorem utakeStep_end (c0 : w.cell? ⟨b, 0, none⟩ = some .nilFunc) : Calls Tryz.prog 24 #[.pointer (some ⟨b, 0, none⟩)] w fun e w' => e = .returned (.bool false) ∧ w = w' := by
  have H := Lib.hid (ucourse_end c0)
  clear c0
  go_enter Tryz.func24, Tryz.ntmps24
  go_wp2_with (go_at_call 69; refine H.out.mono ?_; rintro e w2 ⟨rfl, rfl⟩)
  go_ret
  exact ⟨rfl, rfl⟩
theorem utakeDone_yes (c0 : w.cell? ⟨b, 0, none⟩ = some .nilFunc) : Calls Tryz.prog 23 #[.pointer (some ⟨b, 0, none⟩)] w fun e w' => e = .returned (.bool true) ∧ w = w' := by
  have h1 := run_eql_nilFunc
  go_enter Tryz.func23, Tryz.ntmps23
  go_wp2_with fail
  go_ret
  exact ⟨rfl, rfl⟩
theorem utakeDone_no {f : FuncId} (c0 : w.cell? ⟨b, 0, none⟩ = some (meth f b)) : Calls Tryz.prog 23 #[.pointer (some ⟨b, 0, none⟩)] w fun e w' => e = .returned (.bool false) ∧ w = w' := by
  have h1 := run_eql_func
  unfold meth at c0
  go_enter Tryz.func23, Tryz.ntmps23
  go_wp2_with fail
  go_ret
  exact ⟨rfl, rfl⟩
set_option maxHeartbeats 1000000 in
theorem ugiveStep_end (c0 : w.cell? ⟨b, 0, none⟩ = some .nilFunc) : Calls Tryz.prog 38 #[.pointer (some ⟨b, 0, none⟩)] w fun e w' => e = .returned (.bool false) ∧ w = w' := by
  have H := Lib.hid (ucourse_end c0)
  clear c0
  go_enter Tryz.func38, Tryz.ntmps38
  go_wp2_with (go_at_call 69; refine H.out.mono ?_; rintro e w2 ⟨rfl, rfl⟩)
  go_ret
  exact ⟨rfl, rfl⟩
theorem ugiveDone_yes (c0 : w.cell? ⟨b, 0, none⟩ = some .nilFunc) : Calls Tryz.prog 91 #[.pointer (some ⟨b, 0, none⟩)] w fun e w' => e = .returned (.bool true) ∧ w = w' := by
  have h1 := run_eql_nilFunc
  go_enter Tryz.func91, Tryz.ntmps91
  go_wp2_with fail
  go_ret
  exact ⟨rfl, rfl⟩
theorem ugiveDone_no {f : FuncId} (c0 : w.cell? ⟨b, 0, none⟩ = some (meth f b)) : Calls Tryz.prog 91 #[.pointer (some ⟨b, 0, none⟩)] w fun e w' => e = .returned (.bool false) ∧ w = w' := by
  have h1 := run_eql_func
  unfold meth at c0
  go_enter Tryz.func91, Tryz.ntmps91
  go_wp2_with fail
  go_ret
  exact ⟨rfl, rfl⟩
set_option maxHeartbeats 1000000 in
theorem custep_look {R : World → Prop} (c0 : w.cell? ⟨b, 0, none⟩ = some (meth 67 b)) (h : Calls Tryz.prog 67 #[.pointer (some ⟨b, 0, none⟩)] w fun e w' => e = .returned (.tuple #[]) ∧ R w') :
    Calls Tryz.prog 69 #[.pointer (some ⟨b, 0, none⟩)] w fun e w' => e = .returned (.bool true) ∧ R w' := by
  have H := Lib.hid h
  have q1 := run_eql_func
  unfold meth at c0
  clear h
  go_enter Tryz.func69, Tryz.ntmps69
  go_wp2_with (go_at_call 67; refine H.out.mono ?_; rintro e w2 ⟨rfl, r2⟩)
  go_ret
  exact ⟨rfl, r2⟩
set_option maxHeartbeats 1000000 in
theorem ustep_look {R : World → Prop} (c0 : w.cell? ⟨b, 0, none⟩ = some (meth 67 b)) (h : Calls Tryz.prog 67 #[.pointer (some ⟨b, 0, none⟩)] w fun e w' => e = .returned (.tuple #[]) ∧ R w') :
    Calls Tryz.prog 24 #[.pointer (some ⟨b, 0, none⟩)] w fun e w' => e = .returned (.bool true) ∧ R w' := by
  have H := Lib.hid (custep_look c0 h)
  clear h c0
  go_enter Tryz.func24, Tryz.ntmps24
  go_wp2_with (go_at_call 69; refine H.out.mono ?_; rintro e w2 ⟨rfl, r2⟩)
  go_ret
  exact ⟨rfl, r2⟩
set_option maxHeartbeats 1000000 in
theorem custep_pop {R : World → Prop} (c0 : w.cell? ⟨b, 0, none⟩ = some (meth 113 b)) (h : Calls Tryz.prog 113 #[.pointer (some ⟨b, 0, none⟩)] w fun e w' => e = .returned (.tuple #[]) ∧ R w') :
    Calls Tryz.prog 69 #[.pointer (some ⟨b, 0, none⟩)] w fun e w' => e = .returned (.bool true) ∧ R w' := by
  have H := Lib.hid h
  have q1 := run_eql_func
  unfold meth at c0
  clear h
  go_enter Tryz.func69, Tryz.ntmps69
  go_wp2_with (go_at_call 113; refine H.out.mono ?_; rintro e w2 ⟨rfl, r2⟩)
  go_ret
  exact ⟨rfl, r2⟩
set_option maxHeartbeats 1000000 in
theorem ustep_pop {R : World → Prop} (c0 : w.cell? ⟨b, 0, none⟩ = some (meth 113 b)) (h : Calls Tryz.prog 113 #[.pointer (some ⟨b, 0, none⟩)] w fun e w' => e = .returned (.tuple #[]) ∧ R w') :
    Calls Tryz.prog 24 #[.pointer (some ⟨b, 0, none⟩)] w fun e w' => e = .returned (.bool true) ∧ R w' := by
  have H := Lib.hid (custep_pop c0 h)
  clear h c0
  go_enter Tryz.func24, Tryz.ntmps24
  go_wp2_with (go_at_call 69; refine H.out.mono ?_; rintro e w2 ⟨rfl, r2⟩)
  go_ret
  exact ⟨rfl, r2⟩
set_option maxHeartbeats 1000000 in
theorem custep_push {R : World → Prop} (c0 : w.cell? ⟨b, 0, none⟩ = some (meth 109 b)) (h : Calls Tryz.prog 109 #[.pointer (some ⟨b, 0, none⟩)] w fun e w' => e = .returned (.tuple #[]) ∧ R w') :
    Calls Tryz.prog 69 #[.pointer (some ⟨b, 0, none⟩)] w fun e w' => e = .returned (.bool true) ∧ R w' := by
  have H := Lib.hid h
  have q1 := run_eql_func
  unfold meth at c0
  clear h
  go_enter Tryz.func69, Tryz.ntmps69
  go_wp2_with (go_at_call 109; refine H.out.mono ?_; rintro e w2 ⟨rfl, r2⟩)
  go_ret
  exact ⟨rfl, r2⟩
set_option maxHeartbeats 1000000 in
theorem ustep_push {R : World → Prop} (c0 : w.cell? ⟨b, 0, none⟩ = some (meth 109 b)) (h : Calls Tryz.prog 109 #[.pointer (some ⟨b, 0, none⟩)] w fun e w' => e = .returned (.tuple #[]) ∧ R w') :
    Calls Tryz.prog 38 #[.pointer (some ⟨b, 0, none⟩)] w fun e w' => e = .returned (.bool true) ∧ R w' := by
  have H := Lib.hid (custep_push c0 h)
  clear h c0
  go_enter Tryz.func38, Tryz.ntmps38
  go_wp2_with (go_at_call 69; refine H.out.mono ?_; rintro e w2 ⟨rfl, r2⟩)
  go_ret
  exact ⟨rfl, r2⟩
end
end Go.Proofs.YtkopplnjomkleaaGreat
