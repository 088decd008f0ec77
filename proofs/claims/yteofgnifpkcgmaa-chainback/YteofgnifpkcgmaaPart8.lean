/-
  Texts beneath ChainBack, part 8: StackFill, RefStack, RefPush, RtList.
-/
import Derived.Test.YteofgnifpkcgmaaPart7
import Derived.BigQuiet
/-
  Package stack: Fill.
-/
namespace Go.Proofs.Yteofgnifpkcgmaa
open Go.RowKit
open W64
set_option maxRecDepth 100000

/-- The links of the first k items are laid. -/
def fillK (s : St) (ln : Nat) : Nat → St
  | 0 => s
  | k + 1 => (fillK s ln k).lay ((ln : Int) + k) ((k : Int) + 2)
/-- The filled stack. -/
def fillS (s : St) (hd ln n : Nat) : St := ((fillK s ln (n - 1)).lay ((ln : Int) + n - 1) 0).lay hd 1
section
variable {w : World} {p g q hd ln n : Nat} {s : St}
theorem fillK_len (s : St) (ln : Nat) : ∀ k, (fillK s ln k).xs.length = s.xs.length
  | 0 => rfl
  | k + 1 => by unfold fillK; rw [lay_len, fillK_len s ln k]
theorem fillK_c (s : St) (ln : Nat) : ∀ k, (fillK s ln k).c = s.c
  | 0 => rfl
  | k + 1 => fillK_c s ln k
theorem fillK_ok {s : St} (h : s.Ok) (ln : Nat) : ∀ k, k ≤ 8192 → (fillK s ln k).Ok
  | 0, _ => h
  | k + 1, hk => (fillK_ok h ln k (by omega)).lay _ (by omega) (by omega)
def FillRel (w : World) (p g q hd ln n : Nat) (s : St) (i : Value) (wr : World) : Prop := ∃ k : Nat, k ≤ n - 1 ∧ i = .int .i64 k ∧ Env wr p g q hd ln n (fillK s ln k) ∧ Else [p, g] w wr
theorem fill_num {ln n k L : Nat} (h0 : 1 ≤ n) (h1 : n ≤ 4096) (hk : k ≤ n - 1) (h2 : ln + n ≤ L) (h3 : L ≤ 8388608) :
    IntKind.i64.wrap ((n : Int) - 1) = (n : Int) - 1 ∧ IntKind.i64.wrap ((ln : Int) + k) = ln + k ∧ IntKind.i64.wrap ((k : Int) + 1) = k + 1 ∧ IntKind.i64.wrap ((ln : Int) + n) = ln + n ∧ IntKind.i64.wrap ((ln : Int) + n - 1) = ln + n - 1 :=
  ⟨IntWalk.i64_in _ (by omega), IntWalk.i64_in _ (by omega), IntWalk.i64_in _ (by omega), IntWalk.i64_in _ (by omega), IntWalk.i64_in _ (by omega)⟩
theorem lay_to {w : World} {p g : Nat} {s s' : St} {i v : Int} (m : Mem w p g s) (h : s.has i) (hs : s.lay i v = s') :
    Calls Try.prog 27 #[.pointer (some ⟨p, 0, none⟩), .int .i64 i, .int .u64 v] w fun e w' => e = .returned (.int .i64 0) ∧ Mem w' p g s' ∧ Else [p, g] w w' := hs ▸ lay_in v m h
set_option maxHeartbeats 4000000 in
theorem fill_in (E : Env w p g q hd ln n s) :
    Calls Try.prog 62 #[.pointer (some ⟨q, 0, none⟩)] w fun e w' => e = .returned (.tuple #[]) ∧ Mem w' p g (fillS s hd ln n) ∧ Else [p, g] w w' := by
  obtain ⟨c0, c1, c2, c3⟩ := E.cells
  have n0 := E.n0
  have n1 := E.n1
  have hl := E.hl
  have ht := E.top
  have hok := Lib.hid E.ok
  have hq : q ∉ [p, g] := by simp [E.np, E.ng]
  have HE := Lib.hid E
  obtain ⟨s0, _, _, s3, s4⟩ := fill_num (k := 0) n0 n1 (Nat.zero_le _) hl ht
  clear E
  go_enter Try.func62, Try.ntmps62
  go_wp2_with fail
  go_loopw [10] (fun i wr => FillRel w p g q hd ln n s i wr) (fun i _ => n - (intOf i).toNat)
  case atStart => exact ⟨0, Nat.zero_le _, rfl, HE.out, Else.refl _ _⟩
  case round =>
    obtain ⟨k, hk, rfl, E1, X1⟩ := hrel
    have HE1 := Lib.hid E1
    have HX1 := Lib.hid X1
    clear E1 X1 c0 c1 c2 c3
    obtain ⟨c0, c1, c2, c3⟩ := HE1.out.cells
    by_cases hlt : k < n - 1
    · obtain ⟨_, s1, s2, _, _⟩ := fill_num n0 n1 hk hl ht
      have i1 : (k : Int) < (n : Int) - 1 := by omega
      have i0 : (0 : Int) ≤ (k : Int) := Int.natCast_nonneg _
      have e2 : (k : Int) + 1 + 1 = k + 2 := by omega
      have hh := Lib.hid (HE1.out.hasL (i := k) (by omega) (by omega))
      go_upto_region 3 with fail
      go_region_held3 (fun w' => w'.cell? ⟨q, 0, none⟩ = some (.pointer (some ⟨p, 0, none⟩)) ∧ w'.cell? ⟨q, 2, none⟩ = some (.int .i64 ln)) ((first | exact ⟨c0, c2⟩ | exact ⟨E5.kept c0 hq, E5.kept c2 hq⟩))
        (first
          | (go_at_call 75; refine (asLink_to e2 (by omega) (by omega) _).mono ?_; rintro e w9 ⟨rfl, rfl⟩)
          | (go_at_call 27; refine (lay_to (s' := fillK s ln (k + 1)) (HE1.out.mem.up (up_drew wr)) hh.out rfl).mono ?_; rintro e w5 ⟨rfl, M5, E5⟩))
      have HX := Lib.hid ((Else.of_up (up_drew wr)).trans E5)
      have HE5 := Lib.hid (HE1.out.turn M5 HX.out (fillK_ok hok.out ln (k + 1) (by omega)) (by rw [fillK_len, fillK_len]))
      clear M5 E5 c0 c1 c2 c3
      go_wp2_with fail
      go_roundw
      case rel => exact ⟨k + 1, by omega, by go_num, HE5.out, HX1.out.trans HX.out⟩
      case measure => simp [intOf]; omega
    · have hk2 : k = n - 1 := by omega
      have i1 : ¬ (k : Int) < (n : Int) - 1 := by omega
      have hh := Lib.hid (HE1.out.hasL (i := (n : Int) - 1) (by omega) (by omega))
      have e3 : (ln : Int) + ((n : Int) - 1) = ln + n - 1 := by omega
      rw [e3] at hh
      have e0 : (-1 : Int) + 1 = 0 := by omega
      have hB : headB 0 0 = true := by decide
      have hN : headN 0 0 = 1 := by decide
      have HB := Lib.hid hB
      have hp := putHead_yes 0 0
      have HPH := Lib.hid (fun w => hp w hB)
      rw [hN] at HPH
      have HK2 := Lib.hid hk2
      have HHD := Lib.hid HE1.out.hasH
      clear hB hN hp hk2
      go_upto_region 5 with fail
      go_region_held3 (fun w' => w'.cell? ⟨q, 0, none⟩ = some (.pointer (some ⟨p, 0, none⟩)) ∧ w'.cell? ⟨q, 2, none⟩ = some (.int .i64 ln) ∧ w'.cell? ⟨q, 3, none⟩ = some (.int .i64 n)) ((first | exact ⟨c0, c2, c3⟩ | exact ⟨E5.kept c0 hq, E5.kept c2 hq, E5.kept c3 hq⟩))
        (first
          | (go_at_call 75; refine (asLink_to e0 (by omega) (by omega) _).mono ?_; rintro e w9 ⟨rfl, rfl⟩)
          | (go_at_call 27; refine (lay_to (HE1.out.mem.up (up_drew wr)) hh.out rfl).mono ?_; rintro e w5 ⟨rfl, M5, E5⟩))
      have HX := Lib.hid ((Else.of_up (up_drew wr)).trans E5)
      have HE5 := Lib.hid (HE1.out.turn M5 HX.out ((fillK_ok hok.out ln k (by omega)).lay _ (by omega) (by omega)) (lay_len _ _ _))
      clear M5 E5 c0 c1 c2 c3
      obtain ⟨c0, c1, c2, c3⟩ := HE5.out.cells
      go_upto_region 7 with (go_at_call 76; refine (HPH.out _).mono ?_; rintro e w6 ⟨rfl, U6⟩)
      replace c0 := U6.kept c0
      replace c1 := U6.kept c1
      have HE6 := Lib.hid (HE5.out.up (U6.trans (up_drew w6)))
      have HX6 := Lib.hid (HX.out.up (U6.trans (up_drew w6)))
      clear c2 c3 U6
      have HHE := Lib.hid HE6.out.hasH
      go_region_held3 (fun w' => w'.cell? ⟨q, 0, none⟩ = some (.pointer (some ⟨p, 0, none⟩)) ∧ w'.cell? ⟨q, 1, none⟩ = some (.int .i64 hd)) ((first | exact ⟨c0, c1⟩ | exact ⟨E7.kept c0 hq, E7.kept c1 hq⟩))
        (first
          | (go_at_call 27; refine (lay_to HE6.out.mem HHE.out rfl).mono ?_; rintro e w7 ⟨rfl, M7, E7⟩))
      go_wp2_with fail
      go_end0
      refine ⟨rfl, ?_, (HX1.out.trans HX6.out).trans E7⟩
      rw [HK2.out] at M7
      exact M7
end
end Go.Proofs.Yteofgnifpkcgmaa

/-
  The reference's stack (rundaleref5): Top, Below, next; new machines; Got.
-/
namespace Go.Proofs.Yteofgnifpkcgmaa
open Go.RowKit
open W64
set_option maxRecDepth 100000

/-- The reference's stack lies at q, over the memory at p, whose cells lie at g. -/
structure REnv (w : World) (p g q hd ln n : Nat) (xs : List Int) (c : Int) : Prop where
  mem : Ref w p g xs c
  stk : Whole w q 82 #[.pointer (some ⟨p, 0, none⟩), .int .i64 hd, .int .i64 ln, .int .i64 n]
  ok : ∀ i, 0 ≤ xs.getD i 0 ∧ xs.getD i 0 < 18446744073709551616
  np : q ≠ p
  ng : q ≠ g
  n0 : 1 ≤ n
  n1 : n ≤ 4096
  hh : hd < xs.length
  hl : ln + n ≤ xs.length
  top : xs.length ≤ 8388608
section
variable {w w' : World} {p g q hd ln n b most i : Nat} {xs : List Int} {c : Int} {v : Value} {l : List Nat} {old deep : Int}
theorem REnv.up (E : REnv w p g q hd ln n xs c) (u : Up w w') : REnv w' p g q hd ln n xs c := ⟨E.mem.up u, E.stk.up u, E.ok, E.np, E.ng, E.n0, E.n1, E.hh, E.hl, E.top⟩
theorem REnv.else (E : REnv w p g q hd ln n xs c) {x : List Nat} (u : Else x w w') (h1 : p ∉ x) (h2 : g ∉ x) (h3 : q ∉ x) : REnv w' p g q hd ln n xs c :=
  ⟨E.mem.else u h1 h2, u.whole E.stk h3, E.ok, E.np, E.ng, E.n0, E.n1, E.hh, E.hl, E.top⟩
theorem REnv.turn (E : REnv w p g q hd ln n xs c) {xs' : List Int} {c' : Int} (m : Ref w' p g xs' c') {x : List Nat} (u : Else x w w') (hq : q ∉ x) (ok : ∀ i, 0 ≤ xs'.getD i 0 ∧ xs'.getD i 0 < 18446744073709551616) (hl : xs'.length = xs.length) : REnv w' p g q hd ln n xs' c' :=
  ⟨m, u.whole E.stk hq, ok, E.np, E.ng, E.n0, E.n1, hl ▸ E.hh, hl ▸ E.hl, hl ▸ E.top⟩
theorem REnv.cells (E : REnv w p g q hd ln n xs c) : w.cell? ⟨q, 0, none⟩ = some (.pointer (some ⟨p, 0, none⟩)) ∧ w.cell? ⟨q, 1, none⟩ = some (.int .i64 hd) ∧ w.cell? ⟨q, 2, none⟩ = some (.int .i64 ln) ∧ w.cell? ⟨q, 3, none⟩ = some (.int .i64 n) :=
  ⟨E.stk.cell rfl, E.stk.cell rfl, E.stk.cell rfl, E.stk.cell rfl⟩
theorem ok_set {xs : List Int} (h : ∀ i, 0 ≤ xs.getD i 0 ∧ xs.getD i 0 < 18446744073709551616) {j : Nat} {v : Int} (h0 : 0 ≤ v) (h1 : v < 18446744073709551616) : ∀ i, 0 ≤ (xs.set j v).getD i 0 ∧ (xs.set j v).getD i 0 < 18446744073709551616 := by
  intro i
  rw [getD_set]
  split
  · exact ⟨h0, h1⟩
  · exact h i

theorem run_rindex (i t : Int) (w : World) : (Instr.field 109 (.agg #[.int .i64 i, .int .i64 t]) 0).run Try.prog w = .ok (.int .i64 i) w := by
  rfl
set_option maxHeartbeats 400000 in
theorem rtop_in (E : REnv w p g q hd ln n xs c) {x : Int} (h0 : 0 ≤ x) (h1 : x < 18446744073709551616) :
    Calls Try.prog 55 #[.pointer (some ⟨q, 0, none⟩), .int .u64 x] w fun e w' => e = .returned (.int .i64 (topN n x)) ∧ Up w w' := by
  have c3 := E.cells.2.2.2
  have hf := run_rindex
  by_cases h : (n : Int) ≤ x % 4294967296 - 1
  · have e : topN n x = -1 := by unfold topN; rw [if_pos h]
    rw [e]
    have c := Lib.hid c3
    go_enter Try.func55, Try.ntmps55
    go_wp2_with (go_at_call 70; refine (rgetHead_any x _ h0 h1).mono ?_; rintro e w1 ⟨rfl, U1⟩; have c4 := U1.kept c.out)
    go_ret
    exact ⟨rfl, U1⟩
  · have e : topN n x = x % 4294967296 - 1 := by unfold topN; rw [if_neg h]
    rw [e]
    have c := Lib.hid c3
    go_enter Try.func55, Try.ntmps55
    go_wp2_with (go_at_call 70; refine (rgetHead_any x _ h0 h1).mono ?_; rintro e w1 ⟨rfl, U1⟩; have c4 := U1.kept c.out)
    go_ret
    exact ⟨rfl, U1⟩
theorem rtop_to (E : REnv w p g q hd ln n xs c) {x y : Int} (h0 : 0 ≤ x) (h1 : x < 18446744073709551616) (e : topN n x = y) :
    Calls Try.prog 55 #[.pointer (some ⟨q, 0, none⟩), .int .u64 x] w fun e w' => e = .returned (.int .i64 y) ∧ Up w w' := e ▸ rtop_in E h0 h1
set_option maxHeartbeats 400000 in
theorem rbelow_in (E : REnv w p g q hd ln n xs c) {x : Int} (h0 : 0 ≤ x) (_h1 : x < 18446744073709551616) :
    Calls Try.prog 48 #[.pointer (some ⟨q, 0, none⟩), .int .u64 x] w fun e w' => e = .returned (.int .i64 (belowN n x)) ∧ w = w' := by
  have c3 := E.cells.2.2.2
  have n1 := E.n1
  have e1 : IntKind.u64.wrap (n : Int) = n := IntWalk.u64_in _ (by omega)
  by_cases h : (n : Int) < x
  · have e : belowN n x = -1 := by unfold belowN; rw [if_pos h]
    rw [e]
    go_enter Try.func48, Try.ntmps48
    go_wp2
    go_ret
    exact ⟨rfl, rfl⟩
  · have e : belowN n x = x - 1 := by unfold belowN; rw [if_neg h]
    rw [e]
    have e2 : IntKind.i64.wrap x = x := IntWalk.i64_in _ (by omega)
    have e3 : wrap64 (x - 1) = x - 1 := wrap64_in (by omega) (by omega)
    go_enter Try.func48, Try.ntmps48
    go_wp2
    go_ret
    refine ⟨ret_int ?_, rfl⟩
    first | rfl | exact e3 | omega
theorem rbelow_to (E : REnv w p g q hd ln n xs c) {x y : Int} (h0 : 0 ≤ x) (h1 : x < 18446744073709551616) (e : belowN n x = y) :
    Calls Try.prog 48 #[.pointer (some ⟨q, 0, none⟩), .int .u64 x] w fun e w' => e = .returned (.int .i64 y) ∧ w = w' := e ▸ rbelow_in E h0 h1
/-! ### The machines -/
end
end Go.Proofs.Yteofgnifpkcgmaa

/-
  The reference's stack: one Step of a Push, way by way.
-/
namespace Go.Proofs.Yteofgnifpkcgmaa
open Go.RowKit
open W64
set_option maxRecDepth 100000
section
variable {w w' : World} {p g q hd ln n b i : Nat} {xs : List Int} {c : Int} {v : Value} {l : List Nat} {old : Int}
theorem rload_to {a x : Int} {k : Nat} (ha : a = (k : Int)) (m : Ref w p g xs c) (h : k < xs.length) (hx : xs.getD k 0 = x) :
    Calls Try.prog 52 #[.pointer (some ⟨p, 0, none⟩), .int .i64 a] w fun e w' => e = .returned (.int .u64 x) ∧ Ref w' p g xs (wrap64 (c + 1)) ∧ Else [p, g] w w' := by subst ha hx; exact rload_in m h
theorem rstore_to {a : Int} {k : Nat} (v : Int) (ha : a = (k : Int)) (m : Ref w p g xs c) (h : k < xs.length) :
    Calls Try.prog 41 #[.pointer (some ⟨p, 0, none⟩), .int .i64 a, .int .u64 v] w fun e w' => e = .returned (.tuple #[]) ∧ Ref w' p g (xs.set k v) (wrap64 (c + 1)) ∧ Else [p, g] w w' := by subst ha; exact rstore_in v m h
theorem Ref.self (M : Ref w p g xs c) (h1 : b ≠ p) (h2 : b ≠ g) (i : Nat) (u : Value) : Ref (w.setCell ⟨b, i, none⟩ u) p g xs c :=
  M.else (l := [b]) ((Else.refl [b] w).set (p := ⟨b, i, none⟩) (.inl (by simp)) u) (by simp [h1.symm]) (by simp [h2.symm])
theorem wrapS {a b : Nat} (h : a + b ≤ 8400000) : IntKind.i64.wrap ((a : Int) + b) = a + b ∧ wrap64 ((a : Int) + b) = a + b := ⟨IntWalk.i64_in _ (by omega), wrap64_in (by omega) (by omega)⟩
end
end Go.Proofs.Yteofgnifpkcgmaa

/-
  The list that the cells tell, whatever they hold: the program's List and Spare, the reference's List.
-/
namespace Go.Proofs.Yteofgnifpkcgmaa
open Go.RowKit
open W64
set_option maxRecDepth 100000
section
variable {w w' : World} {p g q hd ln n qs r0 : Nat} {s : St} {xs : List Int} {cc : Int} {c : Cf} {qq : Nat}
/-- The list so far, and what is next. -/
def WalkRel (w : World) (n ln : Nat) (xs : List Int) (S : List Nat) (v i : Value) (wr : World) : Prop :=
  ∃ (T : List Nat) (j : Int), T.length ≤ n ∧ i = .int .i64 j ∧ -1 ≤ j ∧ j < n ∧ T ++ walkL n ln xs (n - T.length) j = S ∧ Ints wr v (I T) ∧ Fresh w v ∧ Up w wr
theorem I_app (T : List Nat) (x : Nat) : I (T ++ [x]) = I T ++ [(x : Int)] := by simp [I]
theorem walk_more {T S : List Nat} {x : Nat} (h : T ++ walkL n ln xs (n - T.length) (x : Int) = S) (hl : T.length < n) : (T ++ [x]) ++ walkL n ln xs (n - (T ++ [x]).length) (belowN n (xs.getD (ln + x) 0)) = S := by
  obtain ⟨f, hf⟩ : ∃ f, n - T.length = f + 1 := ⟨n - T.length - 1, by omega⟩
  have e : n - (T ++ [x]).length = f := by rw [List.length_append]; simp; omega
  rw [hf, walkL_nat] at h
  rw [e, List.append_assoc]
  exact h
theorem walk_end {T S : List Nat} {j : Int} (h : T ++ walkL n ln xs (n - T.length) j = S) (hl : j < 0 ∨ n ≤ T.length) : T = S := by
  rcases hl with hl | hl
  · rw [walkL_neg hl] at h; simpa using h
  · rw [show n - T.length = 0 by omega] at h
    unfold walkL at h; simpa using h
set_option maxHeartbeats 4000000 in
theorem slist (E : Env w p g q hd ln n s) :
    Calls Try.prog 25 #[.pointer (some ⟨q, 0, none⟩)] w fun e w' => ∃ v, e = .returned v ∧ Ints w' v (I (lstOf n hd ln s.xs)) ∧ Fresh w v ∧ Up w w' := by
  obtain ⟨c0, c1, c2, c3⟩ := E.cells
  have n0 := E.n0
  have n1 := E.n1
  have hl := E.hl
  have ht := E.top
  have hk := E.ok hd
  have HW := Lib.hid E.ok.words
  have HE := Lib.hid E
  have HHD := Lib.hid E.hasH
  obtain ⟨S, hS⟩ : ∃ S, lstOf n hd ln s.xs = S := ⟨_, rfl⟩
  rw [hS]
  unfold lstOf at hS
  rw [← get_at] at hS
  obtain ⟨t, htt⟩ : ∃ t, topN n (s.get hd) = t := ⟨_, rfl⟩
  have hti := topN_in (n := n) (x := s.get hd) hk.1 n0
  rw [htt] at hS hti
  have HT := Lib.hid htt
  have HS := Lib.hid hS
  clear E hS htt
  go_enter Try.func25, Try.ntmps25
  go_upto_region 2 with fail
  go_region_held3 (fun w' => w'.cell? ⟨q, 0, none⟩ = some (.pointer (some ⟨p, 0, none⟩)) ∧ w'.cell? ⟨q, 1, none⟩ = some (.int .i64 hd)) ((first | exact ⟨c0, c1⟩ | exact ⟨U1.kept c0, U1.kept c1⟩))
    (first
      | (go_at_call 15; refine (peek_in (HE.out.mem.up (up_drew w)) HHD.out).mono ?_; rintro e w9 ⟨rfl, rfl⟩)
      | (go_at_call 53; refine (ofHead_to (HE.out.up (up_drew w)) hk.1 hk.2 HT.out).mono ?_; rintro e w1 ⟨rfl, U1⟩))
  have HU := Lib.hid ((up_drew w).trans U1)
  clear U1 c0 c1 c2 c3 hk
  go_wp2_with fail
  go_loopw [3, 4] (fun v i wr => WalkRel w n ln s.xs S v i wr) (fun v _ _ => n - nOf v)
  case atStart => exact ⟨[], t, Nat.zero_le _, rfl, hti.1, hti.2, HS.out, Ints.nil _, fresh_nil _, HU.out⟩
  case round =>
    obtain ⟨T, j, hT, rfl, j0, j1, hS, J, F, hup⟩ := hrel
    obtain ⟨A, cp, rfl⟩ := J.slice
    obtain ⟨k, hk⟩ : ∃ k, T.length = k := ⟨_, rfl⟩
    rw [I_len, hk] at J F ⊢
    have HEr := Lib.hid (HE.out.up hup)
    obtain ⟨c0, c1, c2, c3⟩ := HEr.out.cells
    have HJ := Lib.hid J
    have HF := Lib.hid F
    have HUP := Lib.hid hup
    have HSS := Lib.hid hS
    have HK := Lib.hid hk
    rw [hk] at hT
    clear J F hup hS hk
    by_cases hj : j = -1
    · subst hj
      have HFI := Lib.hid (walk_end HSS.out (.inl (by decide)))
      go_wp2_with fail
      go_ret
      rw [HFI.out] at HJ
      have hk2 := HK.out
      rw [HFI.out] at hk2
      exact ⟨_, rfl, HJ.out, HF.out, HUP.out⟩
    · have g1 : (j == -1) = false := by simpa using hj
      by_cases hlt : k < n
      · have g2 : (k : Int) < (n : Int) := by omega
        obtain ⟨x, rfl⟩ : ∃ x : Nat, j = x := ⟨j.toNat, by omega⟩
        have hx : x < n := by omega
        have hz := HW.out (ln + x)
        have gz := Lib.hid (get_ln s ln x)
        obtain ⟨z, ez⟩ : ∃ z, s.xs.getD (ln + x) 0 = z := ⟨_, rfl⟩
        obtain ⟨y, ey⟩ : ∃ y, belowN n z = y := ⟨_, rfl⟩
        rw [ez] at hz
        have HN := Lib.hid (show (T ++ [x]) ++ walkL n ln s.xs (n - (T ++ [x]).length) y = S by
          rw [← ey, ← ez]; exact walk_more HSS.out (by rw [HK.out]; exact hlt))
        have HY := Lib.hid (show -1 ≤ y ∧ y < n by rw [← ey]; exact belowN_in hz.1 n0)
        have HB := Lib.hid (And.intro ey hz)
        have HZ := Lib.hid (show s.get ((ln : Int) + (x : Nat)) = z by rw [gz.out, ez])
        have hh := Lib.hid (HE.out.hasL (i := x) (by omega) (by omega))
        have s3 : IntKind.i64.wrap ((ln : Int) + x) = ln + x := IntWalk.i64_in _ (by omega)
        have i0 : (0 : Int) ≤ (x : Int) := Int.natCast_nonneg _
        clear ez ey hz
        go_upto_region 5 with (at_builtin; refine wpList_app rfl _ _ rfl rfl rfl (HJ.out.up (Up.alloc _ _)) (rd_one _ (x : Int)) (by rw [I_len, HK.out]; simp; omega) ?_; intro v5 w5 J5 G5 A5; obtain ⟨A5v, N5, c5, rfl⟩ := shapeI J5; have HJ5 := Lib.hid J5; have HU5 := Lib.hid (up_app (HUP.out.then_alloc _) G5 HF.out); have HF5 := Lib.hid (fresh_app HF.out (HUP.out.then_alloc (.cells #[.int .i64 (x : Int)] 3)).size A5); clear J5 G5 A5)
        clear c0 c1 c2 c3
        have HED := Lib.hid (HE.out.up HU5.out)
        obtain ⟨c0, c1, c2, c3⟩ := HED.out.cells
        go_region_held3 (fun w' => w'.cell? ⟨q, 0, none⟩ = some (.pointer (some ⟨p, 0, none⟩)) ∧ w'.cell? ⟨q, 2, none⟩ = some (.int .i64 ln)) ((first | exact ⟨c0, c2⟩))
          (first
            | (go_at_call 15; refine (peek_to (HED.out.mem.up (up_drew w5)) hh.out HZ.out).mono ?_; rintro e w9 ⟨rfl, rfl⟩)
            | (go_at_call 54; refine (ofLink_to (HED.out.up (up_drew w5)) HB.out.2.1 HB.out.2.2 HB.out.1).mono ?_; rintro e w9 ⟨rfl, rfl⟩))
        have hN5 : N5 = k + 1 := by
          obtain ⟨A9, c9, e9⟩ := HJ5.out.slice
          injection e9 with _ e9 _
          rw [e9, List.length_append, I_len, HK.out]; rfl
        subst hN5
        go_wp2_with fail
        go_roundw
        case rel => exact ⟨T ++ [x], y, by rw [List.length_append, HK.out]; simp; omega, rfl, HY.out.1, HY.out.2, HN.out, by rw [I_app]; exact HJ5.out.up (up_drew w5), HF5.out, HU5.out.trans (up_drew w5)⟩
        case measure => simp [nOf]; omega
      · have g2 : ¬ (k : Int) < (n : Int) := by omega
        have HFI := Lib.hid (walk_end HSS.out (.inr (by rw [HK.out]; omega)))
        go_wp2_with fail
        go_ret
        rw [HFI.out] at HJ
        exact ⟨_, rfl, HJ.out, HF.out, HUP.out⟩
set_option maxHeartbeats 4000000 in
theorem rlist (E : REnv w p g q hd ln n xs cc) :
    Calls Try.prog 26 #[.pointer (some ⟨q, 0, none⟩)] w fun e w' => ∃ v, e = .returned v ∧ Ints w' v (I (lstOf n hd ln xs)) ∧ Fresh w v ∧ Up w w' := by
  obtain ⟨k0, k1, k2, k3⟩ := E.cells
  have r0 := E.mem.cells.1
  have rh := E.mem.cell E.hh
  have n0 := E.n0
  have n1 := E.n1
  have hlx := E.hl
  have htx := E.top
  have hhx := E.hh
  have ok := E.ok hd
  have HW := Lib.hid E.ok
  obtain ⟨S, hS⟩ : ∃ S, lstOf n hd ln xs = S := ⟨_, rfl⟩
  rw [hS]
  unfold lstOf at hS
  obtain ⟨y0, hy⟩ : ∃ y, xs.getD hd 0 = y := ⟨_, rfl⟩
  rw [hy] at rh ok hS
  obtain ⟨t, htt⟩ : ∃ t, topN n y0 = t := ⟨_, rfl⟩
  have hti := topN_in (n := n) ok.1 n0
  rw [htt] at hS hti
  have HT := Lib.hid htt
  have HS := Lib.hid hS
  have i8 : (0 : Int) ≤ (hd : Int) := Int.natCast_nonneg _
  have i9 : (hd : Int) < (xs.length : Int) := by omega
  obtain ⟨L, hL⟩ : ∃ L, xs.length = L := ⟨_, rfl⟩
  rw [hL] at r0 i9 hlx htx hhx
  have HLL := Lib.hid hL
  have HE := Lib.hid E
  clear E hy hL hS htt
  go_enter Try.func26, Try.ntmps26
  go_upto_region 2 with fail
  go_region_held3 (fun w' => w'.cell? ⟨q, 0, none⟩ = some (.pointer (some ⟨p, 0, none⟩)) ∧ w'.cell? ⟨q, 1, none⟩ = some (.int .i64 hd) ∧ w'.cell? ⟨p, 0, none⟩ = some (.slice (some ⟨g, 0, none⟩) L L) ∧ w'.cell? ⟨g, hd, none⟩ = some (.int .u64 y0)) ((first | exact ⟨k0, k1, r0, rh⟩ | exact ⟨U1.kept k0, U1.kept k1, U1.kept r0, U1.kept rh⟩))
    (first
      | (go_at_call 55; refine (rtop_to (HE.out.up (up_drew w)) ok.1 ok.2 HT.out).mono ?_; rintro e w1 ⟨rfl, U1⟩))
  have HU := Lib.hid ((up_drew w).trans U1)
  clear U1 k0 k1 k2 k3 r0 rh ok
  go_wp2_with fail
  go_loopw [3, 4] (fun v i wr => WalkRel w n ln xs S v i wr) (fun v _ _ => n - nOf v)
  case atStart => exact ⟨[], t, Nat.zero_le _, rfl, hti.1, hti.2, HS.out, Ints.nil _, fresh_nil _, HU.out⟩
  case round =>
    obtain ⟨T, j, hT, rfl, j0, j1, hS, J, F, hup⟩ := hrel
    obtain ⟨A, cp, rfl⟩ := J.slice
    obtain ⟨k, hk⟩ : ∃ k, T.length = k := ⟨_, rfl⟩
    rw [I_len, hk] at J F ⊢
    have HEr := Lib.hid (HE.out.up hup)
    obtain ⟨k0, k1, k2, k3⟩ := HEr.out.cells
    have HJ := Lib.hid J
    have HF := Lib.hid F
    have HUP := Lib.hid hup
    have HSS := Lib.hid hS
    have HK := Lib.hid hk
    rw [hk] at hT
    clear J F hup hS hk
    by_cases hj : j < 0
    · have g1 : ¬ (0 : Int) ≤ j := by omega
      have HFI := Lib.hid (walk_end HSS.out (.inl hj))
      go_wp2_with fail
      go_ret
      rw [HFI.out] at HJ
      exact ⟨_, rfl, HJ.out, HF.out, HUP.out⟩
    · have g1 : (0 : Int) ≤ j := by omega
      by_cases hlt : k < n
      · have g2 : (k : Int) < (n : Int) := by omega
        obtain ⟨x, rfl⟩ : ∃ x : Nat, j = x := ⟨j.toNat, by omega⟩
        have hx : x < n := by omega
        have hz := HW.out (ln + x)
        have hkl : ln + x < xs.length := by rw [HLL.out]; omega
        have HKL := Lib.hid hkl
        obtain ⟨z, ez⟩ : ∃ z, xs.getD (ln + x) 0 = z := ⟨_, rfl⟩
        obtain ⟨y, ey⟩ : ∃ y, belowN n z = y := ⟨_, rfl⟩
        rw [ez] at hz
        have HN := Lib.hid (show (T ++ [x]) ++ walkL n ln xs (n - (T ++ [x]).length) y = S by
          rw [← ey, ← ez]; exact walk_more HSS.out (by rw [HK.out]; exact hlt))
        have HY := Lib.hid (show -1 ≤ y ∧ y < n by rw [← ey]; exact belowN_in hz.1 n0)
        have HB := Lib.hid (And.intro ey hz)
        have HZ := Lib.hid ez
        clear ez ey hz hkl
        have g3 : (ln : Int) + (x : Int) < (L : Int) := by omega
        have g4 : (0 : Int) ≤ (ln : Int) + (x : Int) := by omega
        have e1 : ((ln : Int) + (x : Int)).toNat = ln + x := by omega
        have z4 : ln + x ≤ 8400000 := by omega
        obtain ⟨s3, s4⟩ := wrapS (a := ln) (b := x) z4
        clear z4
        go_upto_region 4 with (at_builtin; refine wpList_app rfl _ _ rfl rfl rfl (HJ.out.up (Up.alloc _ _)) (rd_one _ (x : Int)) (by rw [I_len, HK.out]; simp; omega) ?_; intro v5 w5 J5 G5 A5; obtain ⟨A5v, N5, c5, rfl⟩ := shapeI J5; have HJ5 := Lib.hid J5; have HU5 := Lib.hid (up_app (HUP.out.then_alloc _) G5 HF.out); have HF5 := Lib.hid (fresh_app HF.out (HUP.out.then_alloc (.cells #[.int .i64 (x : Int)] 3)).size A5); clear J5 G5 A5)
        clear k0 k1 k2 k3
        have HED := Lib.hid (HE.out.up HU5.out)
        obtain ⟨k0, k1, k2, k3⟩ := HED.out.cells
        have r0 := HED.out.mem.cells.1
        have rh := HED.out.mem.cell HKL.out
        rw [HLL.out] at r0
        rw [HZ.out] at rh
        go_region_held3 (fun w' => w'.cell? ⟨q, 0, none⟩ = some (.pointer (some ⟨p, 0, none⟩)) ∧ w'.cell? ⟨q, 2, none⟩ = some (.int .i64 ln) ∧ w'.cell? ⟨p, 0, none⟩ = some (.slice (some ⟨g, 0, none⟩) L L) ∧ w'.cell? ⟨g, ln + x, none⟩ = some (.int .u64 z)) ((first | exact ⟨k0, k2, r0, rh⟩))
          (first
            | (go_at_call 48; refine (rbelow_to (HED.out.up (up_drew w5)) HB.out.2.1 HB.out.2.2 HB.out.1).mono ?_; rintro e w9 ⟨rfl, rfl⟩))
        have hN5 : N5 = k + 1 := by
          obtain ⟨A9, c9, e9⟩ := HJ5.out.slice
          injection e9 with _ e9 _
          rw [e9, List.length_append, I_len, HK.out]; rfl
        subst hN5
        go_wp2_with fail
        go_roundw
        case rel => exact ⟨T ++ [x], y, by rw [List.length_append, HK.out]; simp; omega, rfl, HY.out.1, HY.out.2, HN.out, by rw [I_app]; exact HJ5.out.up (up_drew w5), HF5.out, HU5.out.trans (up_drew w5)⟩
        case measure => simp [nOf]; omega
      · have g2 : ¬ (k : Int) < (n : Int) := by omega
        have HFI := Lib.hid (walk_end HSS.out (.inr (by rw [HK.out]; omega)))
        go_wp2_with fail
        go_ret
        rw [HFI.out] at HJ
        exact ⟨_, rfl, HJ.out, HF.out, HUP.out⟩
end
end Go.Proofs.Yteofgnifpkcgmaa
