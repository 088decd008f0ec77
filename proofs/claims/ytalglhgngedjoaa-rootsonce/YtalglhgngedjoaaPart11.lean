/-
  Texts beneath RootsOnce, part 11: StackList, RefStack, RefPush, RefPop, RefPop2, RStkStep, RefLay, RefRoots, RefEnd, RefCreate, RefCreate2, RefCreate3, RefEnd2, RefEnd3, RefBegin.
-/
import Derived.Test.YtalglhgngedjoaaPart10
import Derived.BigQuiet
import Derived.Deep.RegionLaw
/-
  Package stack: List.
-/
namespace Go.Proofs.Ytalglhgngedjoaa
open Go.RowKit
open W64
set_option maxRecDepth 100000

/-- The cells hold the stack S, from its top. -/
structure Holds (s : St) (hd ln n : Nat) (S : List Nat) : Prop where
  top : topN n (s.get hd) = Stk.linkOf S - 1
  link : ∀ j, j < S.length → belowN n (s.get (ln + (S.getD j 0 : Nat))) = Stk.linkOf (S.drop (j + 1)) - 1
  small : ∀ x ∈ S, x < n
  len : S.length ≤ n
theorem I_take {S : List Nat} {k : Nat} (h : k < S.length) : I (S.take (k + 1)) = I (S.take k) ++ [((S.getD k 0 : Nat) : Int)] := by
  rw [← Stk.take_more h]; simp [I]
section
variable {w : World} {p g q hd ln n : Nat} {s : St} {S : List Nat}
def ListRel (w : World) (S : List Nat) (v i : Value) (wr : World) : Prop := ∃ k : Nat, k ≤ S.length ∧ i = .int .i64 (Stk.linkOf (S.drop k) - 1) ∧ wr.ownsRow w.heap.size 3 1 v k ((I (S.take k)).map (Value.int .i64)) ∧ Up w wr
theorem list_step {wr wD : World} {v : Value} {k gg cap : Nat} (hk : k < S.length) (hown : wr.ownsRow w.heap.size 3 1 v k ((I (S.take k)).map (Value.int .i64))) (hu : Up w wr) {o : Obj}
    (hD : wD.ownsRow w.heap.size 3 1 (.slice (some ⟨gg, 0, none⟩) (k + 1) cap) (k + 1) ((I (S.take k)).map (Value.int .i64) ++ [.int .i64 ((S.getD k 0 : Nat) : Int)])) (hg : (wr.alloc o).grownBy wD v.ownBlock) :
    wD.ownsRow w.heap.size 3 1 (.slice (some ⟨gg, 0, none⟩) (k + 1) cap) (k + 1) ((I (S.take (k + 1))).map (Value.int .i64)) ∧ Up w wD := by
  refine ⟨by rw [I_take hk]; simpa using hD, (hu.then_alloc o).grown hg (own_ge hown)⟩
end
end Go.Proofs.Ytalglhgngedjoaa

/-
  The reference's stack (rundaleref5): Top, Below, next; new machines; Got.
-/
namespace Go.Proofs.Ytalglhgngedjoaa
open Go.RowKit
open W64
set_option maxRecDepth 100000

/-- The reference's stack lies at q, over the memory at p, whose cells lie at g. -/
structure REnv (w : World) (p g q hd ln n : Nat) (xs : List Int) (c : Int) : Prop where
  mem : Ref w p g xs c
  stk : Whole w q 89 #[.pointer (some ⟨p, 0, none⟩), .int .i64 hd, .int .i64 ln, .int .i64 n]
  ok : ∀ i, 0 ≤ xs.getD i 0 ∧ xs.getD i 0 < 18446744073709551616
  np : q ≠ p
  ng : q ≠ g
  n0 : 1 ≤ n
  n1 : n ≤ 4096
  hh : hd < xs.length
  hl : ln + n ≤ xs.length
  top : xs.length ≤ 8388608
section
variable {w w' : World} {p g q hd ln n b most i : Nat} {xs : List Int} {c : Int} {v : Value} {l : List Nat} {old deep : Int}
theorem REnv.up (E : REnv w p g q hd ln n xs c) (u : Up w w') : REnv w' p g q hd ln n xs c := ⟨E.mem.up u, E.stk.up u, E.ok, E.np, E.ng, E.n0, E.n1, E.hh, E.hl, E.top⟩
theorem REnv.else (E : REnv w p g q hd ln n xs c) {x : List Nat} (u : Else x w w') (h1 : p ∉ x) (h2 : g ∉ x) (h3 : q ∉ x) : REnv w' p g q hd ln n xs c :=
  ⟨E.mem.else u h1 h2, u.whole E.stk h3, E.ok, E.np, E.ng, E.n0, E.n1, E.hh, E.hl, E.top⟩
theorem REnv.turn (E : REnv w p g q hd ln n xs c) {xs' : List Int} {c' : Int} (m : Ref w' p g xs' c') {x : List Nat} (u : Else x w w') (hq : q ∉ x) (ok : ∀ i, 0 ≤ xs'.getD i 0 ∧ xs'.getD i 0 < 18446744073709551616) (hl : xs'.length = xs.length) : REnv w' p g q hd ln n xs' c' :=
  ⟨m, u.whole E.stk hq, ok, E.np, E.ng, E.n0, E.n1, hl ▸ E.hh, hl ▸ E.hl, hl ▸ E.top⟩
theorem REnv.cells (E : REnv w p g q hd ln n xs c) : w.cell? ⟨q, 0, none⟩ = some (.pointer (some ⟨p, 0, none⟩)) ∧ w.cell? ⟨q, 1, none⟩ = some (.int .i64 hd) ∧ w.cell? ⟨q, 2, none⟩ = some (.int .i64 ln) ∧ w.cell? ⟨q, 3, none⟩ = some (.int .i64 n) :=
  ⟨E.stk.cell rfl, E.stk.cell rfl, E.stk.cell rfl, E.stk.cell rfl⟩
theorem ok_set {xs : List Int} (h : ∀ i, 0 ≤ xs.getD i 0 ∧ xs.getD i 0 < 18446744073709551616) {j : Nat} {v : Int} (h0 : 0 ≤ v) (h1 : v < 18446744073709551616) : ∀ i, 0 ≤ (xs.set j v).getD i 0 ∧ (xs.set j v).getD i 0 < 18446744073709551616 := by
  intro i
  rw [getD_set]
  split
  · exact ⟨h0, h1⟩
  · exact h i

theorem run_rindex (i t : Int) (w : World) : (Instr.field 110 (.agg #[.int .i64 i, .int .i64 t]) 0).run Try.prog w = .ok (.int .i64 i) w := by
  rfl
/-! ### The machines -/
end
end Go.Proofs.Ytalglhgngedjoaa

/-
  The reference's stack: one Step of a Push, way by way.
-/
namespace Go.Proofs.Ytalglhgngedjoaa
open Go.RowKit
open W64
set_option maxRecDepth 100000
section
variable {w w' : World} {p g q hd ln n b i : Nat} {xs : List Int} {c : Int} {v : Value} {l : List Nat} {old : Int}
theorem Ref.self (M : Ref w p g xs c) (h1 : b ≠ p) (h2 : b ≠ g) (i : Nat) (u : Value) : Ref (w.setCell ⟨b, i, none⟩ u) p g xs c :=
  M.else (l := [b]) ((Else.refl [b] w).set (p := ⟨b, i, none⟩) (.inl (by simp)) u) (by simp [h1.symm]) (by simp [h2.symm])
theorem wrapS {a b : Nat} (h : a + b ≤ 8400000) : IntKind.i64.wrap ((a : Int) + b) = a + b ∧ wrap64 ((a : Int) + b) = a + b := ⟨IntWalk.i64_in _ (by omega), wrap64_in (by omega) (by omega)⟩
end
end Go.Proofs.Ytalglhgngedjoaa

/-
  The reference's stack: one Step of a Pop, way by way.
-/
namespace Go.Proofs.Ytalglhgngedjoaa
open Go.RowKit
open W64
set_option maxRecDepth 100000
section
variable {w w' : World} {p g q hd ln n b i most : Nat} {xs : List Int} {c : Int} {v v' : Value} {l l' : List Nat} {old deep : Int}
theorem REnv.self (E : REnv w p g q hd ln n xs c) (h1 : b ≠ p) (h2 : b ≠ g) (h3 : b ≠ q) (i : Nat) (u : Value) : REnv (w.setCell ⟨b, i, none⟩ u) p g q hd ln n xs c :=
  E.else (x := [b]) ((Else.refl [b] w).set (p := ⟨b, i, none⟩) (.inl (by simp)) u) (by simp [h1.symm]) (by simp [h2.symm]) (by simp [h3.symm])
end
end Go.Proofs.Ytalglhgngedjoaa

/-
  The reference's stack: one Step of a Pop, way by way.
-/
namespace Go.Proofs.Ytalglhgngedjoaa
open Go.RowKit
open W64
set_option maxRecDepth 100000
section
variable {w w' : World} {p g q hd ln n b i most : Nat} {xs : List Int} {c : Int} {v v' : Value} {l l' : List Nat} {old deep : Int}
end
end Go.Proofs.Ytalglhgngedjoaa

/-
  The reference's stack: Step, Got of a Pop, Step of a Push, told by the same plain data (Po, Pu), at any memory; both begin.
-/
namespace Go.Proofs.Ytalglhgngedjoaa
open Go.RowKit
open W64
set_option maxRecDepth 100000
section
variable {w w' : World} {p g q hd ln n b r : Nat} {xs xs' : List Int} {c c' : Int} {v v' : Value} {P : Po} {U : Pu} {l : List Nat} {own : List Nat}
theorem REnv.went (E : REnv w p g q hd ln n xs c) (m : Ref w' p g xs' c') {t : List Nat} (u : Else t w w') (hq : q ∉ t) (ok : Words xs') (hl : xs'.length = xs.length) : REnv w' p g q hd ln n xs' c' := E.turn m u hq ok hl
def RAcc (w : World) (p g q hd ln n : Nat) (c : Int) (xs : List Int) (own : List Nat) (M : World → Prop) (w' : World) : Prop :=
  REnv w' p g q hd ln n xs (wrap64 (c + 1)) ∧ M w' ∧ Else (own ++ [p, g]) w w'
theorem rapart_own (A : Apart b p g q v) (E : REnv w p g q hd ln n xs c) : q ∉ [b, p, g] := by simp [A.bq.symm, E.np, E.ng]
end
end Go.Proofs.Ytalglhgngedjoaa

/-
  The contracts of the document's own answers about cells (rundaleref1, P4.1, P4.2).
-/
namespace Go.Proofs.Ytalglhgngedjoaa
open Go.RowKit

set_option maxHeartbeats 400000 in
theorem in_any (v a b : Int) (w : World) :
    Calls Try.prog 80 #[.int .i64 v, .int .i64 a, .int .i64 b] w fun e w' => e = .returned (.bool (decide (a ≤ v ∧ v ≤ b))) ∧ w = w' := by
  go_enter Try.func80, Try.ntmps80
  go_wp2
  all_goals
    go_ret
    refine ⟨ret_bool ?_, rfl⟩
    simp [*]
  all_goals omega
theorem in_is {a n b : Int} {r : Bool} (e : decide (a ≤ n ∧ n ≤ b) = r) (w : World) :
    Calls Try.prog 80 #[.int .i64 n, .int .i64 a, .int .i64 b] w fun e w' => e = .returned (.bool r) ∧ w = w' := e ▸ in_any n a b w

set_option maxHeartbeats 2000000 in
theorem rmay_any (c : Cf) (w : World) :
    Calls Try.prog 66 #[c.v] w fun e w' => e = .returned (.bool (mayB c)) ∧ Up w w' := by
  have A := may_ways c
  obtain ⟨b1, f1⟩ : ∃ b, decide (1 ≤ c.wk ∧ c.wk ≤ 64) = b := ⟨_, rfl⟩
  obtain ⟨b2, f2⟩ : ∃ b, decide (1 ≤ c.ch ∧ c.ch ≤ 4096) = b := ⟨_, rfl⟩
  obtain ⟨b3, f3⟩ : ∃ b, decide (8 ≤ c.wo ∧ c.wo ≤ 1024) = b := ⟨_, rfl⟩
  obtain ⟨b4, f4⟩ : ∃ b, decide (1 ≤ c.sl ∧ c.sl ≤ 4096) = b := ⟨_, rfl⟩
  obtain ⟨b5, f5⟩ : ∃ b, decide (0 ≤ c.ca ∧ c.ca ≤ 64) = b := ⟨_, rfl⟩
  obtain ⟨b6, f6⟩ : ∃ b, decide (1 ≤ c.ba ∧ c.ba ≤ 8) = b := ⟨_, rfl⟩
  obtain ⟨r, fr⟩ : ∃ b, mayB c = b := ⟨_, rfl⟩
  rw [f1, f2, f3, f4, f5, f6, fr] at A
  rw [fr]
  have e1 := Lib.hid f1
  have e2 := Lib.hid f2
  have e3 := Lib.hid f3
  have e4 := Lib.hid f4
  have e5 := Lib.hid f5
  have e6 := Lib.hid f6
  clear f1 f2 f3 f4 f5 f6 fr
  rcases A with ⟨rfl, rfl⟩ | ⟨rfl, rfl, rfl⟩ | ⟨rfl, rfl, rfl, rfl⟩ | ⟨rfl, rfl, rfl, g0, g1, g2, rfl⟩ | ⟨rfl, rfl, rfl, g0, g1, g2, rfl, rfl⟩ | ⟨rfl, rfl, rfl, g0, g1, g2, rfl, rfl, rfl⟩ | ⟨rfl, rfl, rfl, g0, g1, g2, rfl, rfl, rfl⟩
  all_goals
    go_enter Try.func66, Try.ntmps66
    go_wp2_with (first
      | (go_at_call 80; (with_reducible refine (in_is e1.out _).mono ?_); rintro e w' ⟨rfl, rfl⟩)
      | (go_at_call 80; (with_reducible refine (in_is e2.out _).mono ?_); rintro e w' ⟨rfl, rfl⟩)
      | (go_at_call 80; (with_reducible refine (in_is e3.out _).mono ?_); rintro e w' ⟨rfl, rfl⟩)
      | (go_at_call 80; (with_reducible refine (in_is e4.out _).mono ?_); rintro e w' ⟨rfl, rfl⟩)
      | (go_at_call 80; (with_reducible refine (in_is e5.out _).mono ?_); rintro e w' ⟨rfl, rfl⟩)
      | (go_at_call 80; (with_reducible refine (in_is e6.out _).mono ?_); rintro e w' ⟨rfl, rfl⟩))
    go_ret
    exact ⟨rfl, Up.alloc _ _⟩


set_option maxHeartbeats 1000000 in
theorem rlen_any (c : Cf) (w : World) :
    Calls Try.prog 43 #[c.v] w fun e w' => e = .returned (.int .i64 (lenN c)) ∧ Up w w' := by
  have hat := c.at_new w
  cases hm : mayB c
  · rw [lenN_no hm]
    have H := Lib.hid hm
    clear hm
    go_enter Try.func43, Try.ntmps43
    go_wp2_with (go_at_call 66; refine (rmay_any c _).mono ?_; rw [H.out]; rintro e wA ⟨rfl, uA⟩)
    go_ret
    exact ⟨rfl, (Up.alloc _ _).trans uA⟩
  · rw [lenN_is hm]
    have H := Lib.hid hm
    obtain ⟨⟨_, _⟩, ⟨_, m1⟩, ⟨_, n1⟩, ⟨_, _⟩, ⟨f0, f1⟩, ⟨_, _⟩⟩ := may_small hm
    have s1 : IntKind.i64.wrap (c.ch * c.wo) = c.ch * c.wo := wrap_in (by omega) (by omega)
    have s2 : IntKind.i64.wrap (3 + c.wk + 2 * c.sl + c.ch + c.ch * c.wo) = 3 + c.wk + 2 * c.sl + c.ch + c.ch * c.wo := wrap_in (by omega) (by omega)
    clear hm
    go_enter Try.func43, Try.ntmps43
    go_wp2_with (go_at_call 66; refine (rmay_any c _).mono ?_; rw [H.out]; rintro e wA ⟨rfl, uA⟩; obtain ⟨h0, h1, h2, h3, h4, h5⟩ := hat.up uA)
    go_ret
    exact ⟨ret_int (by unfold fwN; rfl), (Up.alloc _ _).trans uA⟩

set_option maxHeartbeats 1000000 in
theorem rat_any (c : Cf) (f m i : Int) (w : World) (h : mayB c = true → (0 ≤ f ∧ f ≤ 100000000) ∧ (0 ≤ m ∧ m ≤ 100000000)) :
    Calls Try.prog 47 #[c.v, .int .i64 f, .int .i64 m, .int .i64 i] w fun e w' => e = .returned (.int .i64 (atN c f m i)) ∧ Up w w' := by
  cases hm : mayB c
  · rw [atN_no (.inl hm)]
    have H := Lib.hid hm
    clear hm h
    go_enter Try.func47, Try.ntmps47
    go_wp2_with (go_at_call 66; refine (rmay_any c _).mono ?_; rw [H.out]; rintro e wA ⟨rfl, uA⟩)
    go_ret
    exact ⟨rfl, (Up.alloc _ _).trans uA⟩
  · obtain ⟨⟨f0, f1⟩, m0, m1⟩ := h hm
    have H := Lib.hid hm
    by_cases hi : 0 ≤ i ∧ i < m
    · obtain ⟨i0, i1⟩ := hi
      rw [atN_is hm i0 i1]
      clear hm h
      go_enter Try.func47, Try.ntmps47
      go_wp2_with (go_at_call 66; refine (rmay_any c _).mono ?_; rw [H.out]; rintro e wA ⟨rfl, uA⟩)
      go_ret
      exact ⟨rfl, (Up.alloc _ _).trans uA⟩
    · rw [atN_no (.inr hi)]
      clear hm h
      rcases (show i < 0 ∨ (0 ≤ i ∧ m ≤ i) by omega) with hj | ⟨hj, hk⟩
      all_goals
        clear hi
        go_enter Try.func47, Try.ntmps47
        go_wp2_with (go_at_call 66; refine (rmay_any c _).mono ?_; rw [H.out]; rintro e wA ⟨rfl, uA⟩)
        go_ret
        exact ⟨rfl, (Up.alloc _ _).trans uA⟩
theorem rat_no (c : Cf) (f m i : Int) (w : World) (h : mayB c = false) :
    Calls Try.prog 47 #[c.v, .int .i64 f, .int .i64 m, .int .i64 i] w fun e w' => e = .returned (.int .i64 (-1)) ∧ Up w w' := by
  have k := rat_any c f m i w (fun hm => by rw [h] at hm; cases hm)
  rw [atN_no (.inl h)] at k
  exact k

set_option maxHeartbeats 1000000 in
theorem rpin_any (c : Cf) (i : Int) (w : World) :
    Calls Try.prog 45 #[c.v, .int .i64 i] w fun e w' => e = .returned (.int .i64 (lpinN c i)) ∧ Up w w' := by
  have hat := c.at_new w
  cases hm : mayB c
  · unfold lpinN
    rw [atN_no (.inl hm)]
    have H := Lib.hid hm
    clear hm
    go_enter Try.func45, Try.ntmps45
    go_wp2_with (go_at_call 47; refine (rat_no c _ _ _ _ H.out).mono ?_; rintro e wA ⟨rfl, uA⟩)
    go_ret
    exact ⟨rfl, (Up.alloc _ _).trans uA⟩
  · obtain ⟨⟨_, _⟩, ⟨_, _⟩, ⟨_, _⟩, ⟨_, _⟩, _⟩ := may_small hm
    have B' := Lib.hid (show mayB c = true → (0 ≤ (3 : Int) ∧ (3 : Int) ≤ 100000000) ∧ (0 ≤ c.wk ∧ c.wk ≤ 100000000) from fun _ => by omega)
    clear hm
    go_enter Try.func45, Try.ntmps45
    go_wp2_with (go_at_call 47; refine (rat_any c _ _ _ _ B'.out).mono ?_; rintro e wA ⟨rfl, uA⟩)
    go_ret
    exact ⟨rfl, (Up.alloc _ _).trans uA⟩

set_option maxHeartbeats 1000000 in
theorem rslot_any (c : Cf) (i : Int) (w : World) :
    Calls Try.prog 44 #[c.v, .int .i64 i] w fun e w' => e = .returned (.int .i64 (lslotN c i)) ∧ Up w w' := by
  have hat := c.at_new w
  cases hm : mayB c
  · unfold lslotN
    rw [atN_no (.inl hm)]
    have H := Lib.hid hm
    clear hm
    go_enter Try.func44, Try.ntmps44
    go_wp2_with (go_at_call 47; refine (rat_no c _ _ _ _ H.out).mono ?_; rintro e wA ⟨rfl, uA⟩)
    go_ret
    exact ⟨rfl, (Up.alloc _ _).trans uA⟩
  · obtain ⟨⟨_, _⟩, ⟨_, _⟩, ⟨_, _⟩, ⟨_, _⟩, _⟩ := may_small hm
    have B' := Lib.hid (show mayB c = true → (0 ≤ (3 + c.wk + c.sl) ∧ (3 + c.wk + c.sl) ≤ 100000000) ∧ (0 ≤ c.sl ∧ c.sl ≤ 100000000) from fun _ => by omega)
    clear hm
    go_enter Try.func44, Try.ntmps44
    go_wp2_with (go_at_call 47; refine (rat_any c _ _ _ _ B'.out).mono ?_; rintro e wA ⟨rfl, uA⟩)
    go_ret
    exact ⟨rfl, (Up.alloc _ _).trans uA⟩

set_option maxHeartbeats 1000000 in
theorem rlink_any (c : Cf) (i : Int) (w : World) :
    Calls Try.prog 26 #[c.v, .int .i64 i] w fun e w' => e = .returned (.int .i64 (llinkN c i)) ∧ Up w w' := by
  have hat := c.at_new w
  cases hm : mayB c
  · unfold llinkN
    rw [atN_no (.inl hm)]
    have H := Lib.hid hm
    clear hm
    go_enter Try.func26, Try.ntmps26
    go_wp2_with (go_at_call 47; refine (rat_no c _ _ _ _ H.out).mono ?_; rintro e wA ⟨rfl, uA⟩)
    go_ret
    exact ⟨rfl, (Up.alloc _ _).trans uA⟩
  · obtain ⟨⟨_, _⟩, ⟨_, _⟩, ⟨_, _⟩, ⟨_, _⟩, _⟩ := may_small hm
    have B' := Lib.hid (show mayB c = true → (0 ≤ (3 + c.wk + 2 * c.sl) ∧ (3 + c.wk + 2 * c.sl) ≤ 100000000) ∧ (0 ≤ c.ch ∧ c.ch ≤ 100000000) from fun _ => by omega)
    clear hm
    go_enter Try.func26, Try.ntmps26
    go_wp2_with (go_at_call 47; refine (rat_any c _ _ _ _ B'.out).mono ?_; rintro e wA ⟨rfl, uA⟩)
    go_ret
    exact ⟨rfl, (Up.alloc _ _).trans uA⟩

theorem ret_what' {t : Int × Int × Int} {a b d a' b' d' : Int} (h : t = (a, b, d)) (ha : a' = a) (hb : b' = b) (hd : d' = d) : Ending.returned (.tuple #[.int .i64 a', .int .i64 b', .int .i64 d']) = .returned (whatV t) := by subst h ha hb hd; rfl

end Go.Proofs.Ytalglhgngedjoaa

/-
  The reference's memory laid out by a configuration (RW); its Look.
-/
namespace Go.Proofs.Ytalglhgngedjoaa
open Go.RowKit
open W64
set_option maxRecDepth 100000
/-- The document's W lies at k: over the memory at p (its cells at g), its stacks at qp, qs, its epoch at qe; the roots begin at r0; n slots. -/
structure RW (w : World) (k p g qp qs qe : Nat) (c : Cf) (r0 n : Nat) (xs : List Int) (cnt : Int) : Prop where
  obj : Whole w k 63 #[.int .i64 c.wk, .int .i64 c.ch, .int .i64 c.wo, .int .i64 c.sl, .int .i64 c.ca, .int .i64 c.ba, .pointer (some ⟨p, 0, none⟩), .pointer (some ⟨qp, 0, none⟩), .pointer (some ⟨qs, 0, none⟩), .pointer (some ⟨qe, 0, none⟩)]
  env : REnv w p g qs 1 (r0 + n) n xs cnt
  may : mayB c = true
  hr : (r0 : Int) = 3 + c.wk
  hn : (n : Int) = c.sl
section
variable {w w' : World} {k p g qp qs qe r0 n b : Nat} {c : Cf} {xs xs' : List Int} {cnt cnt' : Int} {K : Lk}
theorem RW.kp (R : RW w k p g qp qs qe c r0 n xs cnt) : k ≠ p := R.obj.ne_type R.env.mem.top (by decide)
theorem RW.kg (R : RW w k p g qp qs qe c r0 n xs cnt) : k ≠ g := R.obj.ne_type R.env.mem.row (by decide)
theorem RW.kq (R : RW w k p g qp qs qe c r0 n xs cnt) : k ≠ qs := R.obj.ne_type R.env.stk (by decide)
theorem RW.turn (R : RW w k p g qp qs qe c r0 n xs cnt) (m : Ref w' p g xs' cnt') {x : List Nat} (u : Else x w w') (h1 : k ∉ x) (h2 : qs ∉ x) (ok : Words xs') (hl : xs'.length = xs.length) : RW w' k p g qp qs qe c r0 n xs' cnt' :=
  ⟨u.whole R.obj h1, R.env.turn m u h2 ok hl, R.may, R.hr, R.hn⟩
theorem RW.else (R : RW w k p g qp qs qe c r0 n xs cnt) {x : List Nat} (u : Else x w w') (h : p ∉ x ∧ g ∉ x ∧ qs ∉ x ∧ k ∉ x) : RW w' k p g qp qs qe c r0 n xs cnt :=
  ⟨u.whole R.obj h.2.2.2, R.env.else u h.1 h.2.1 h.2.2.1, R.may, R.hr, R.hn⟩
theorem RW.up (R : RW w k p g qp qs qe c r0 n xs cnt) (u : Up w w') : RW w' k p g qp qs qe c r0 n xs cnt := ⟨R.obj.up u, R.env.up u, R.may, R.hr, R.hn⟩
theorem RW.at (R : RW w k p g qp qs qe c r0 n xs cnt) {s : Nat} (h : s < n) : lrootN c (s : Int) = ((r0 + s : Nat) : Int) ∧ r0 + s < xs.length := by
  have h1 := R.hr
  have h2 := R.hn
  have h3 := R.env.hl
  refine ⟨?_, by omega⟩
  unfold lrootN
  rw [atN_is R.may (by omega) (by omega)]
  omega
/-- What one access of a machine leaves. -/
def ROut (w : World) (k p g qp qs qe : Nat) (c : Cf) (r0 n : Nat) (xs : List Int) (cnt : Int) (own : List Nat) (M : World → Prop) (w' : World) : Prop :=
  RW w' k p g qp qs qe c r0 n xs (wrap64 (cnt + 1)) ∧ M w' ∧ Else (own ++ [p, g]) w w'
abbrev cfV (c : Cf) : Value := .agg #[.int .i64 c.wk, .int .i64 c.ch, .int .i64 c.wo, .int .i64 c.sl, .int .i64 c.ca, .int .i64 c.ba]
/-- A variable of the call's own, newer than n blocks. -/
structure Var (n : Nat) (a : World) (d : Nat) (t : TypeId) (cs : Array Value) : Prop where
  at_ : Whole a d t cs
  new : n ≤ d
theorem var_up {a : World} {t : TypeId} {cs : Array Value} {m : Nat} (u : Up (a.alloc (.cells cs t)) w') (h : m ≤ a.heap.size) : Var m w' a.heap.size t cs := ⟨(Whole.new a t cs).up u, h⟩
theorem var_upd {a : World} {t : TypeId} {cs : Array Value} {m : Nat} (u : Up (a.alloc (.cells cs t)).drew w') (h : m ≤ a.heap.size) : Var m w' a.heap.size t cs := ⟨(show Whole (a.alloc (.cells cs t)).drew a.heap.size t cs from Whole.new a t cs).up u, h⟩
theorem var_else {a : World} {t : TypeId} {cs : Array Value} {m : Nat} (u : Else [p, g] (a.alloc (.cells cs t)) w') (h : m ≤ a.heap.size) (hp : p < m) (hg : g < m) : Var m w' a.heap.size t cs := ⟨u.whole (Whole.new a t cs) (by simp; omega), h⟩
theorem Var.up {a : World} {t : TypeId} {cs : Array Value} {m d : Nat} (V : Var m a d t cs) (u : Up a w') : Var m w' d t cs := ⟨V.at_.up u, V.new⟩
theorem Var.else {a : World} {t : TypeId} {cs : Array Value} {m d : Nat} (V : Var m a d t cs) (u : Else [p, g] a w') (hp : p < m) (hg : g < m) : Var m w' d t cs := ⟨u.whole V.at_ (by have := V.new; simp; omega), V.new⟩
theorem go_world {K : Exit → Act → World → Prop} {x : Exit} {a : Act} {W : World} {F : World → Prop} (h : F W) (k : ∀ w4, F w4 → K x a w4) : K x a W := k W h
end
end Go.Proofs.Ytalglhgngedjoaa

/-
  The reference's End: its Step, told by plain data (Ed).
-/
namespace Go.Proofs.Ytalglhgngedjoaa
open Go.RowKit
open W64
set_option maxRecDepth 100000
/-- An object of type t lies at b beside W at k and the memory at p, g: of what there was in w0 nothing else has turned. -/
structure Ob (w0 : World) (b k p g : Nat) (t : TypeId) (rb rk : Array Value) (xs : List Int) (cnt : Int) (w : World) : Prop where
  hb : Whole w b t rb
  hk : Whole w k 63 rk
  hm : Ref w p g xs cnt
  he : Else [b, p, g] w0 w
  n1 : b ≠ k
  n2 : b ≠ p
  n3 : b ≠ g
  n4 : k ≠ p
  n5 : k ≠ g
def wRow (c : Cf) (p qp qs qe : Nat) : Array Value := #[.int .i64 c.wk, .int .i64 c.ch, .int .i64 c.wo, .int .i64 c.sl, .int .i64 c.ca, .int .i64 c.ba, .pointer (some ⟨p, 0, none⟩), .pointer (some ⟨qp, 0, none⟩), .pointer (some ⟨qs, 0, none⟩), .pointer (some ⟨qe, 0, none⟩)]
def edRow (k : Nat) (K : Ed) : Array Value := #[.pointer (some ⟨k, 0, none⟩), .int .i64 (K.slot : Int), .int .i64 K.gen, .int .i64 (K.i : Int), .int .i64 (K.steps : Int), .int .i64 (K.point : Int), .int .i64 K.chunk, .int .u64 K.old, .int .i64 K.code, .bool K.fin]
section
variable {w0 w w' : World} {k p g qp qs qe r0 n b d : Nat} {c : Cf} {xs xs' : List Int} {cnt cnt' : Int} {K : Ed} {t : TypeId} {rb rk : Array Value} {M : World → Prop}
theorem Ob.up (O : Ob w0 b k p g t rb rk xs cnt w) (u : Up w w') : Ob w0 b k p g t rb rk xs cnt w' := ⟨O.hb.up u, O.hk.up u, O.hm.up u, O.he.up u, O.n1, O.n2, O.n3, O.n4, O.n5⟩
theorem Ob.put (O : Ob w0 b k p g t rb rk xs cnt w) (i : Nat) (v : Value) : Ob w0 b k p g t (rb.setIfInBounds i v) rk xs cnt (w.setCell ⟨b, i, none⟩ v) := by
  have u : Else [b] w (w.setCell ⟨b, i, none⟩ v) := (Else.refl [b] w).set (.inl (by simp)) _
  exact ⟨O.hb.set i v, u.whole O.hk (by simp [O.n1.symm]), O.hm.else u (by simp [O.n2.symm]) (by simp [O.n3.symm]), O.he.trans (u.more (by simp)), O.n1, O.n2, O.n3, O.n4, O.n5⟩
theorem Ob.turn (O : Ob w0 b k p g t rb rk xs cnt w) (m : Ref w' p g xs' cnt') (u : Else [p, g] w w') : Ob w0 b k p g t rb rk xs' cnt' w' :=
  ⟨u.whole O.hb (by simp [O.n2, O.n3]), u.whole O.hk (by simp [O.n4, O.n5]), m, O.he.trans (u.wide b), O.n1, O.n2, O.n3, O.n4, O.n5⟩
theorem Ob.out (O : Ob w0 b k p g t rb rk xs' (wrap64 (cnt + 1)) w) (R : RW w0 k p g qp qs qe c r0 n xs cnt) (hq : b ≠ qs) (ok : Words xs') (hl : xs'.length = xs.length) (hM : M w) : ROut w0 k p g qp qs qe c r0 n xs' cnt [b] M w :=
  ⟨R.turn O.hm O.he (by simp [O.n1.symm, O.n4, O.n5]) (by simp [hq.symm, R.env.np, R.env.ng]) ok hl, hM, O.he⟩
theorem rt_in (x : Int) (h0 : 0 ≤ x) (h1 : x < 18446744073709551616) : (0 ≤ (rtOf x).g ∧ (rtOf x).g ≤ 4294967295) ∧ (0 ≤ (rtOf x).m ∧ (rtOf x).m ≤ 65535) := by
  unfold rtOf; dsimp only; omega
end
end Go.Proofs.Ytalglhgngedjoaa

/-
  The reference's Create: the Load of the root and its Store, told by plain data (Cr).
-/
namespace Go.Proofs.Ytalglhgngedjoaa
open Go.RowKit
open W64
set_option maxRecDepth 100000
def crRow (k rb : Nat) (K : Cr) : Array Value := #[.pointer (some ⟨k, 0, none⟩), .int .i64 K.cls, .int .i64 (K.i : Int), .int .i64 (K.steps : Int), .int .i64 (K.point : Int), .int .i64 (K.slot : Int), .int .i64 K.gen, .pointer (some ⟨rb, 0, none⟩), .int .i64 K.rt.g, .int .i64 K.rt.m, .int .i64 K.rt.c, .int .i64 K.rt.o, .int .i64 K.code, .bool K.fin]
/-- What a Create's numbers keep to. -/
structure Cr.Ok (n : Nat) (K : Cr) : Prop where
  c0 : 0 ≤ K.cls
  c1 : K.cls ≤ 3
  i2 : K.i ≤ 2
  s1 : K.i ≠ 0 → K.slot < n
  g0 : 0 ≤ K.rt.g
  g1 : K.rt.g ≤ 4294967295
  pf : K.i = 0 → K.fin = false → K.pop.fin = false
section
variable {w0 w w' : World} {k p g qp qs qe r0 n b rb d : Nat} {c : Cf} {xs xs' : List Int} {cnt cnt' : Int} {K : Cr} {t : TypeId} {ra rw rk : Array Value} {M : World → Prop} {v : Value} {ys : List Int}
theorem Ints.ne_block (h : Ints w v ys) {cs : Array Value} (B : Whole w b t cs) (ht : 3 ≠ t) : v.ownBlock ≠ some b := by
  rcases h.2 with ⟨rfl, _⟩ | ⟨a, cap, cur, rfl, _, hh, _⟩
  · simp [Value.ownBlock]
  · intro e
    simp [Value.ownBlock] at e
    exact (show Whole w a 3 cur from hh).ne_type B ht e
theorem ob_cells {c : Cf} {i : Nat} {x0 x5 : Value} (O : Ob w0 b k p g t rw (wRow c p qp qs qe) xs cnt w) (h0 : rw[0]? = some x0) (h5 : rw[i]? = some x5) :
    w.cell? ⟨b, 0, none⟩ = some x0 ∧ w.cell? ⟨b, i, none⟩ = some x5 ∧ w.cell? ⟨k, 0, none⟩ = some (.int .i64 c.wk) ∧ w.cell? ⟨k, 1, none⟩ = some (.int .i64 c.ch) ∧ w.cell? ⟨k, 2, none⟩ = some (.int .i64 c.wo) ∧ w.cell? ⟨k, 3, none⟩ = some (.int .i64 c.sl) ∧ w.cell? ⟨k, 4, none⟩ = some (.int .i64 c.ca) ∧ w.cell? ⟨k, 5, none⟩ = some (.int .i64 c.ba) :=
  ⟨O.hb.cell h0, O.hb.cell h5, O.hk.cell rfl, O.hk.cell rfl, O.hk.cell rfl, O.hk.cell rfl, O.hk.cell rfl, O.hk.cell rfl⟩
end
end Go.Proofs.Ytalglhgngedjoaa

/-
  The reference's Create: the Store of the root, told by plain data (Cr).
-/
namespace Go.Proofs.Ytalglhgngedjoaa
open Go.RowKit
open W64
set_option maxRecDepth 100000
section
variable {w0 w w' : World} {k p g qp qs qe r0 n b rb d : Nat} {c : Cf} {xs xs' : List Int} {cnt cnt' : Int} {K : Cr} {t : TypeId} {ra rw rk : Array Value} {M : World → Prop} {v : Value} {ys : List Int}
end
end Go.Proofs.Ytalglhgngedjoaa

/-
  The reference's Create: the accesses of its Pop, told by plain data (Cr); Step in one contract.
-/
namespace Go.Proofs.Ytalglhgngedjoaa
open Go.RowKit
open W64
set_option maxRecDepth 100000
section
variable {w0 w w1 w2 w' : World} {k p g qp qs qe r0 n b rb d : Nat} {c : Cf} {xs xs' : List Int} {cnt cnt' : Int} {K : Cr} {t : TypeId} {ra rw rk : Array Value} {M : World → Prop} {v v' : Value} {ys : List Int}
theorem rnear_le (h : Near w1 v v') (u : w.heap.size ≤ w1.heap.size) : Near w v v' := by
  rcases h with h | h | ⟨r, h1, h2⟩
  · exact .inl h
  · exact .inr (.inl h)
  · exact .inr (.inr ⟨r, h1, Nat.le_trans u h2⟩)
theorem ROut.wide {own own' : List Nat} (H : ROut w k p g qp qs qe c r0 n xs cnt own M w') (h : ∀ j ∈ own, j ∈ own') : ROut w k p g qp qs qe c r0 n xs cnt own' M w' :=
  ⟨H.1, H.2.1, H.2.2.more (by intro j hj; simp at hj ⊢; rcases hj with h1 | h1 | h1 <;> first | exact .inl (h j h1) | simp [h1])⟩
end
end Go.Proofs.Ytalglhgngedjoaa

/-
  The reference's End: its Cas fails.
-/
namespace Go.Proofs.Ytalglhgngedjoaa
open Go.RowKit
open W64
set_option maxRecDepth 100000
section
variable {w0 w w' : World} {k p g qp qs qe r0 n b d : Nat} {c : Cf} {xs xs' : List Int} {cnt cnt' : Int} {K : Ed} {t : TypeId} {rb rk : Array Value} {M : World → Prop}
end
end Go.Proofs.Ytalglhgngedjoaa

/-
  The reference's End: its Cas goes through; Step in one contract.
-/
namespace Go.Proofs.Ytalglhgngedjoaa
open Go.RowKit
open W64
set_option maxRecDepth 100000
section
variable {w0 w w' : World} {k p g qp qs qe r0 n b d : Nat} {c : Cf} {xs xs' : List Int} {cnt cnt' : Int} {K : Ed} {t : TypeId} {rb rk : Array Value} {M : World → Prop}
end
end Go.Proofs.Ytalglhgngedjoaa

/-
  The reference's machines over slots begin (W.Create, W.End); W.Root.
-/
namespace Go.Proofs.Ytalglhgngedjoaa
open Go.RowKit
open W64
set_option maxRecDepth 100000
section
variable {w0 w w' : World} {k p g qp qs qe r0 n b rb d : Nat} {c : Cf} {xs xs' : List Int} {cnt cnt' : Int} {t : TypeId} {ra rw rk : Array Value} {M : World → Prop} {v : Value} {ys : List Int}
theorem Cr.new_ok (n : Nat) (a : Int) : (Cr.new (cutC a)).Ok n := ⟨(cutC_in a).1, (cutC_in a).2, by simp [Cr.new], by simp [Cr.new], by simp [Cr.new], by simp [Cr.new], by simp [Cr.new]⟩
theorem RW.looks (R : RW w k p g qp qs qe c r0 n xs cnt) {slot N j : Nat} {x : Int} (hN : xs.length = N) (hj : r0 + slot = j) (hx : xs.getD j 0 = x) (hs : slot < n) (u : Up w w') :
    w'.cell? ⟨k, 0, none⟩ = some (.int .i64 c.wk) ∧ w'.cell? ⟨k, 1, none⟩ = some (.int .i64 c.ch) ∧ w'.cell? ⟨k, 2, none⟩ = some (.int .i64 c.wo) ∧ w'.cell? ⟨k, 3, none⟩ = some (.int .i64 c.sl) ∧ w'.cell? ⟨k, 4, none⟩ = some (.int .i64 c.ca) ∧ w'.cell? ⟨k, 5, none⟩ = some (.int .i64 c.ba) ∧ w'.cell? ⟨k, 6, none⟩ = some (.pointer (some ⟨p, 0, none⟩)) ∧ w'.cell? ⟨p, 0, none⟩ = some (.slice (some ⟨g, 0, none⟩) N N) ∧ w'.cell? ⟨g, j, none⟩ = some (.int .u64 x) := by
  have h1 := R.env.mem.cells.1
  rw [hN] at h1
  have h2 := R.env.mem.cell (R.at hs).2
  rw [hj, hx] at h2
  exact ⟨u.kept (R.obj.cell rfl), u.kept (R.obj.cell rfl), u.kept (R.obj.cell rfl), u.kept (R.obj.cell rfl), u.kept (R.obj.cell rfl), u.kept (R.obj.cell rfl), u.kept (R.obj.cell rfl), u.kept h1, u.kept h2⟩
end
end Go.Proofs.Ytalglhgngedjoaa
