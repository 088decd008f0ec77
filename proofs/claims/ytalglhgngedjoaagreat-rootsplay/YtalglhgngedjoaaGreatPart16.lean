/-
  Texts beneath RootsPlay, part 16: RefLay, RefRoots.
-/
import Derived.Test.YtalglhgngedjoaaGreatPart15
/-
  The contracts of the document's own answers about cells (rundaleref1, P4.1, P4.2).
-/
namespace Go.Proofs.YtalglhgngedjoaaGreat
open Go.RowKit

set_option maxHeartbeats 400000 in
theorem in_any (v a b : Int) (w : World) :
    Calls Tryz.prog 119 #[.int .i64 v, .int .i64 a, .int .i64 b] w fun e w' => e = .returned (.bool (decide (a ≤ v ∧ v ≤ b))) ∧ w = w' := by
  go_enter Tryz.func119, Tryz.ntmps119
  go_wp2
  all_goals
    go_ret
    refine ⟨ret_bool ?_, rfl⟩
    simp [*]
  all_goals omega
theorem in_is {a n b : Int} {r : Bool} (e : decide (a ≤ n ∧ n ≤ b) = r) (w : World) :
    Calls Tryz.prog 119 #[.int .i64 n, .int .i64 a, .int .i64 b] w fun e w' => e = .returned (.bool r) ∧ w = w' := e ▸ in_any n a b w

set_option maxHeartbeats 2000000 in
theorem rmay_any (c : Cf) (w : World) :
    Calls Tryz.prog 117 #[c.v] w fun e w' => e = .returned (.bool (mayB c)) ∧ Up w w' := by
  have A := may_ways c
  obtain ⟨b1, f1⟩ : ∃ b, decide (1 ≤ c.wk ∧ c.wk ≤ 64) = b := ⟨_, rfl⟩
  obtain ⟨b2, f2⟩ : ∃ b, decide (1 ≤ c.ch ∧ c.ch ≤ 4096) = b := ⟨_, rfl⟩
  obtain ⟨b3, f3⟩ : ∃ b, decide (8 ≤ c.wo ∧ c.wo ≤ 1024) = b := ⟨_, rfl⟩
  obtain ⟨b4, f4⟩ : ∃ b, decide (1 ≤ c.sl ∧ c.sl ≤ 4096) = b := ⟨_, rfl⟩
  obtain ⟨b5, f5⟩ : ∃ b, decide (0 ≤ c.ca ∧ c.ca ≤ 64) = b := ⟨_, rfl⟩
  obtain ⟨b6, f6⟩ : ∃ b, decide (1 ≤ c.ba ∧ c.ba ≤ 8) = b := ⟨_, rfl⟩
  obtain ⟨r, fr⟩ : ∃ b, mayB c = b := ⟨_, rfl⟩
  rw [f1, f2, f3, f4, f5, f6, fr] at A
  rw [fr]
  have e1 := Lib.hid f1
  have e2 := Lib.hid f2
  have e3 := Lib.hid f3
  have e4 := Lib.hid f4
  have e5 := Lib.hid f5
  have e6 := Lib.hid f6
  clear f1 f2 f3 f4 f5 f6 fr
  rcases A with ⟨rfl, rfl⟩ | ⟨rfl, rfl, rfl⟩ | ⟨rfl, rfl, rfl, rfl⟩ | ⟨rfl, rfl, rfl, g0, g1, g2, rfl⟩ | ⟨rfl, rfl, rfl, g0, g1, g2, rfl, rfl⟩ | ⟨rfl, rfl, rfl, g0, g1, g2, rfl, rfl, rfl⟩ | ⟨rfl, rfl, rfl, g0, g1, g2, rfl, rfl, rfl⟩
  all_goals
    go_enter Tryz.func117, Tryz.ntmps117
    go_wp2_with (first
      | (go_at_call 119; (with_reducible refine (in_is e1.out _).mono ?_); rintro e w' ⟨rfl, rfl⟩)
      | (go_at_call 119; (with_reducible refine (in_is e2.out _).mono ?_); rintro e w' ⟨rfl, rfl⟩)
      | (go_at_call 119; (with_reducible refine (in_is e3.out _).mono ?_); rintro e w' ⟨rfl, rfl⟩)
      | (go_at_call 119; (with_reducible refine (in_is e4.out _).mono ?_); rintro e w' ⟨rfl, rfl⟩)
      | (go_at_call 119; (with_reducible refine (in_is e5.out _).mono ?_); rintro e w' ⟨rfl, rfl⟩)
      | (go_at_call 119; (with_reducible refine (in_is e6.out _).mono ?_); rintro e w' ⟨rfl, rfl⟩))
    go_ret
    exact ⟨rfl, Up.alloc _ _⟩


set_option maxHeartbeats 1000000 in
theorem rlen_any (c : Cf) (w : World) :
    Calls Tryz.prog 72 #[c.v] w fun e w' => e = .returned (.int .i64 (lenN c)) ∧ Up w w' := by
  have hat := c.at_new w
  cases hm : mayB c
  · rw [lenN_no hm]
    have H := Lib.hid hm
    clear hm
    go_enter Tryz.func72, Tryz.ntmps72
    go_wp2_with (go_at_call 117; refine (rmay_any c _).mono ?_; rw [H.out]; rintro e wA ⟨rfl, uA⟩)
    go_ret
    exact ⟨rfl, (Up.alloc _ _).trans uA⟩
  · rw [lenN_is hm]
    have H := Lib.hid hm
    obtain ⟨⟨_, _⟩, ⟨_, m1⟩, ⟨_, n1⟩, ⟨_, _⟩, ⟨f0, f1⟩, ⟨_, _⟩⟩ := may_small hm
    have s1 : IntKind.i64.wrap (c.ch * c.wo) = c.ch * c.wo := wrap_in (by omega) (by omega)
    have s2 : IntKind.i64.wrap (3 + c.wk + 2 * c.sl + c.ch + c.ch * c.wo) = 3 + c.wk + 2 * c.sl + c.ch + c.ch * c.wo := wrap_in (by omega) (by omega)
    clear hm
    go_enter Tryz.func72, Tryz.ntmps72
    go_wp2_with (go_at_call 117; refine (rmay_any c _).mono ?_; rw [H.out]; rintro e wA ⟨rfl, uA⟩; obtain ⟨h0, h1, h2, h3, h4, h5⟩ := hat.up uA)
    go_ret
    exact ⟨ret_int (by unfold fwN; rfl), (Up.alloc _ _).trans uA⟩

set_option maxHeartbeats 1000000 in
theorem rat_any (c : Cf) (f m i : Int) (w : World) (h : mayB c = true → (0 ≤ f ∧ f ≤ 100000000) ∧ (0 ≤ m ∧ m ≤ 100000000)) :
    Calls Tryz.prog 76 #[c.v, .int .i64 f, .int .i64 m, .int .i64 i] w fun e w' => e = .returned (.int .i64 (atN c f m i)) ∧ Up w w' := by
  cases hm : mayB c
  · rw [atN_no (.inl hm)]
    have H := Lib.hid hm
    clear hm h
    go_enter Tryz.func76, Tryz.ntmps76
    go_wp2_with (go_at_call 117; refine (rmay_any c _).mono ?_; rw [H.out]; rintro e wA ⟨rfl, uA⟩)
    go_ret
    exact ⟨rfl, (Up.alloc _ _).trans uA⟩
  · obtain ⟨⟨f0, f1⟩, m0, m1⟩ := h hm
    have H := Lib.hid hm
    by_cases hi : 0 ≤ i ∧ i < m
    · obtain ⟨i0, i1⟩ := hi
      rw [atN_is hm i0 i1]
      clear hm h
      go_enter Tryz.func76, Tryz.ntmps76
      go_wp2_with (go_at_call 117; refine (rmay_any c _).mono ?_; rw [H.out]; rintro e wA ⟨rfl, uA⟩)
      go_ret
      exact ⟨rfl, (Up.alloc _ _).trans uA⟩
    · rw [atN_no (.inr hi)]
      clear hm h
      rcases (show i < 0 ∨ (0 ≤ i ∧ m ≤ i) by omega) with hj | ⟨hj, hk⟩
      all_goals
        clear hi
        go_enter Tryz.func76, Tryz.ntmps76
        go_wp2_with (go_at_call 117; refine (rmay_any c _).mono ?_; rw [H.out]; rintro e wA ⟨rfl, uA⟩)
        go_ret
        exact ⟨rfl, (Up.alloc _ _).trans uA⟩
theorem rat_no (c : Cf) (f m i : Int) (w : World) (h : mayB c = false) :
    Calls Tryz.prog 76 #[c.v, .int .i64 f, .int .i64 m, .int .i64 i] w fun e w' => e = .returned (.int .i64 (-1)) ∧ Up w w' := by
  have k := rat_any c f m i w (fun hm => by rw [h] at hm; cases hm)
  rw [atN_no (.inl h)] at k
  exact k

set_option maxHeartbeats 1000000 in
theorem rpin_any (c : Cf) (i : Int) (w : World) :
    Calls Tryz.prog 74 #[c.v, .int .i64 i] w fun e w' => e = .returned (.int .i64 (lpinN c i)) ∧ Up w w' := by
  have hat := c.at_new w
  cases hm : mayB c
  · unfold lpinN
    rw [atN_no (.inl hm)]
    have H := Lib.hid hm
    clear hm
    go_enter Tryz.func74, Tryz.ntmps74
    go_wp2_with (go_at_call 76; refine (rat_no c _ _ _ _ H.out).mono ?_; rintro e wA ⟨rfl, uA⟩)
    go_ret
    exact ⟨rfl, (Up.alloc _ _).trans uA⟩
  · obtain ⟨⟨_, _⟩, ⟨_, _⟩, ⟨_, _⟩, ⟨_, _⟩, _⟩ := may_small hm
    have B' := Lib.hid (show mayB c = true → (0 ≤ (3 : Int) ∧ (3 : Int) ≤ 100000000) ∧ (0 ≤ c.wk ∧ c.wk ≤ 100000000) from fun _ => by omega)
    clear hm
    go_enter Tryz.func74, Tryz.ntmps74
    go_wp2_with (go_at_call 76; refine (rat_any c _ _ _ _ B'.out).mono ?_; rintro e wA ⟨rfl, uA⟩)
    go_ret
    exact ⟨rfl, (Up.alloc _ _).trans uA⟩

set_option maxHeartbeats 1000000 in
theorem rroot_any (c : Cf) (i : Int) (w : World) :
    Calls Tryz.prog 81 #[c.v, .int .i64 i] w fun e w' => e = .returned (.int .i64 (lrootN c i)) ∧ Up w w' := by
  have hat := c.at_new w
  cases hm : mayB c
  · unfold lrootN
    rw [atN_no (.inl hm)]
    have H := Lib.hid hm
    clear hm
    go_enter Tryz.func81, Tryz.ntmps81
    go_wp2_with (go_at_call 76; refine (rat_no c _ _ _ _ H.out).mono ?_; rintro e wA ⟨rfl, uA⟩)
    go_ret
    exact ⟨rfl, (Up.alloc _ _).trans uA⟩
  · obtain ⟨⟨_, _⟩, ⟨_, _⟩, ⟨_, _⟩, ⟨_, _⟩, _⟩ := may_small hm
    have B' := Lib.hid (show mayB c = true → (0 ≤ (3 + c.wk) ∧ (3 + c.wk) ≤ 100000000) ∧ (0 ≤ c.sl ∧ c.sl ≤ 100000000) from fun _ => by omega)
    clear hm
    go_enter Tryz.func81, Tryz.ntmps81
    go_wp2_with (go_at_call 76; refine (rat_any c _ _ _ _ B'.out).mono ?_; rintro e wA ⟨rfl, uA⟩)
    go_ret
    exact ⟨rfl, (Up.alloc _ _).trans uA⟩

set_option maxHeartbeats 1000000 in
theorem rslot_any (c : Cf) (i : Int) (w : World) :
    Calls Tryz.prog 73 #[c.v, .int .i64 i] w fun e w' => e = .returned (.int .i64 (lslotN c i)) ∧ Up w w' := by
  have hat := c.at_new w
  cases hm : mayB c
  · unfold lslotN
    rw [atN_no (.inl hm)]
    have H := Lib.hid hm
    clear hm
    go_enter Tryz.func73, Tryz.ntmps73
    go_wp2_with (go_at_call 76; refine (rat_no c _ _ _ _ H.out).mono ?_; rintro e wA ⟨rfl, uA⟩)
    go_ret
    exact ⟨rfl, (Up.alloc _ _).trans uA⟩
  · obtain ⟨⟨_, _⟩, ⟨_, _⟩, ⟨_, _⟩, ⟨_, _⟩, _⟩ := may_small hm
    have B' := Lib.hid (show mayB c = true → (0 ≤ (3 + c.wk + c.sl) ∧ (3 + c.wk + c.sl) ≤ 100000000) ∧ (0 ≤ c.sl ∧ c.sl ≤ 100000000) from fun _ => by omega)
    clear hm
    go_enter Tryz.func73, Tryz.ntmps73
    go_wp2_with (go_at_call 76; refine (rat_any c _ _ _ _ B'.out).mono ?_; rintro e wA ⟨rfl, uA⟩)
    go_ret
    exact ⟨rfl, (Up.alloc _ _).trans uA⟩

set_option maxHeartbeats 1000000 in
theorem rlink_any (c : Cf) (i : Int) (w : World) :
    Calls Tryz.prog 36 #[c.v, .int .i64 i] w fun e w' => e = .returned (.int .i64 (llinkN c i)) ∧ Up w w' := by
  have hat := c.at_new w
  cases hm : mayB c
  · unfold llinkN
    rw [atN_no (.inl hm)]
    have H := Lib.hid hm
    clear hm
    go_enter Tryz.func36, Tryz.ntmps36
    go_wp2_with (go_at_call 76; refine (rat_no c _ _ _ _ H.out).mono ?_; rintro e wA ⟨rfl, uA⟩)
    go_ret
    exact ⟨rfl, (Up.alloc _ _).trans uA⟩
  · obtain ⟨⟨_, _⟩, ⟨_, _⟩, ⟨_, _⟩, ⟨_, _⟩, _⟩ := may_small hm
    have B' := Lib.hid (show mayB c = true → (0 ≤ (3 + c.wk + 2 * c.sl) ∧ (3 + c.wk + 2 * c.sl) ≤ 100000000) ∧ (0 ≤ c.ch ∧ c.ch ≤ 100000000) from fun _ => by omega)
    clear hm
    go_enter Tryz.func36, Tryz.ntmps36
    go_wp2_with (go_at_call 76; refine (rat_any c _ _ _ _ B'.out).mono ?_; rintro e wA ⟨rfl, uA⟩)
    go_ret
    exact ⟨rfl, (Up.alloc _ _).trans uA⟩

theorem ret_what' {t : Int × Int × Int} {a b d a' b' d' : Int} (h : t = (a, b, d)) (ha : a' = a) (hb : b' = b) (hd : d' = d) : Ending.returned (.tuple #[.int .i64 a', .int .i64 b', .int .i64 d']) = .returned (whatV t) := by subst h ha hb hd; rfl

end Go.Proofs.YtalglhgngedjoaaGreat

/-
  The reference's memory laid out by a configuration (RW); its Look.
-/
namespace Go.Proofs.YtalglhgngedjoaaGreat
open Go.RowKit
open W64
set_option maxRecDepth 100000
/-- The document's W lies at k: over the memory at p (its cells at g), its stacks at qp, qs, its epoch at qe; the roots begin at r0; n slots. -/
structure RW (w : World) (k p g qp qs qe : Nat) (c : Cf) (r0 n : Nat) (xs : List Int) (cnt : Int) : Prop where
  obj : Whole w k 60 #[.int .i64 c.wk, .int .i64 c.ch, .int .i64 c.wo, .int .i64 c.sl, .int .i64 c.ca, .int .i64 c.ba, .pointer (some ⟨p, 0, none⟩), .pointer (some ⟨qp, 0, none⟩), .pointer (some ⟨qs, 0, none⟩), .pointer (some ⟨qe, 0, none⟩)]
  env : REnv w p g qs 1 (r0 + n) n xs cnt
  may : mayB c = true
  hr : (r0 : Int) = 3 + c.wk
  hn : (n : Int) = c.sl
structure RLkM (w : World) (b k : Nat) (K : Lk) : Prop where
  row : Whole w b 102 #[.pointer (some ⟨k, 0, none⟩), .int .i64 (K.slot : Int), .int .i64 K.gen, .int .i64 K.off, .int .i64 K.code, .bool K.fin]
section
variable {w w' : World} {k p g qp qs qe r0 n b : Nat} {c : Cf} {xs xs' : List Int} {cnt cnt' : Int} {K : Lk}
theorem RW.kp (R : RW w k p g qp qs qe c r0 n xs cnt) : k ≠ p := R.obj.ne_type R.env.mem.top (by decide)
theorem RW.kg (R : RW w k p g qp qs qe c r0 n xs cnt) : k ≠ g := R.obj.ne_type R.env.mem.row (by decide)
theorem RW.kq (R : RW w k p g qp qs qe c r0 n xs cnt) : k ≠ qs := R.obj.ne_type R.env.stk (by decide)
theorem RW.turn (R : RW w k p g qp qs qe c r0 n xs cnt) (m : Ref w' p g xs' cnt') {x : List Nat} (u : Else x w w') (h1 : k ∉ x) (h2 : qs ∉ x) (ok : Words xs') (hl : xs'.length = xs.length) : RW w' k p g qp qs qe c r0 n xs' cnt' :=
  ⟨u.whole R.obj h1, R.env.turn m u h2 ok hl, R.may, R.hr, R.hn⟩
theorem RW.else (R : RW w k p g qp qs qe c r0 n xs cnt) {x : List Nat} (u : Else x w w') (h : p ∉ x ∧ g ∉ x ∧ qs ∉ x ∧ k ∉ x) : RW w' k p g qp qs qe c r0 n xs cnt :=
  ⟨u.whole R.obj h.2.2.2, R.env.else u h.1 h.2.1 h.2.2.1, R.may, R.hr, R.hn⟩
theorem RW.up (R : RW w k p g qp qs qe c r0 n xs cnt) (u : Up w w') : RW w' k p g qp qs qe c r0 n xs cnt := ⟨R.obj.up u, R.env.up u, R.may, R.hr, R.hn⟩
theorem RW.at (R : RW w k p g qp qs qe c r0 n xs cnt) {s : Nat} (h : s < n) : lrootN c (s : Int) = ((r0 + s : Nat) : Int) ∧ r0 + s < xs.length := by
  have h1 := R.hr
  have h2 := R.hn
  have h3 := R.env.hl
  refine ⟨?_, by omega⟩
  unfold lrootN
  rw [atN_is R.may (by omega) (by omega)]
  omega
/-- What one access of a machine leaves. -/
def ROut (w : World) (k p g qp qs qe : Nat) (c : Cf) (r0 n : Nat) (xs : List Int) (cnt : Int) (own : List Nat) (M : World → Prop) (w' : World) : Prop :=
  RW w' k p g qp qs qe c r0 n xs (wrap64 (cnt + 1)) ∧ M w' ∧ Else (own ++ [p, g]) w w'
abbrev cfV (c : Cf) : Value := .agg #[.int .i64 c.wk, .int .i64 c.ch, .int .i64 c.wo, .int .i64 c.sl, .int .i64 c.ca, .int .i64 c.ba]
theorem rrootat_to (c : Cf) {i y : Int} (h : lrootN c i = y) (w : World) : Calls Tryz.prog 81 #[cfV c, .int .i64 i] w fun e w' => e = .returned (.int .i64 y) ∧ Up w w' := h ▸ rroot_any c i w
theorem rloadc_to {a x : Int} {j : Nat} (ha : a = (j : Int)) (m : Ref w p g xs cnt) (h : j < xs.length) (hx : xs.getD j 0 = x) :
    Calls Tryz.prog 80 #[.pointer (some ⟨p, 0, none⟩), .int .i64 a] w fun e w' => e = .returned (.int .u64 x) ∧ Ref w' p g xs (wrap64 (cnt + 1)) ∧ Else [p, g] w w' := by
  subst ha hx; exact rload_in m h
theorem rgetRoot_to {x : Int} (h0 : 0 ≤ x) (h1 : x < 18446744073709551616) {g m c o : Int} (hg : (rtOf x).g = g) (hm : (rtOf x).m = m) (hc : (rtOf x).c = c) (ho : (rtOf x).o = o) (w : World) :
    Calls Tryz.prog 79 #[.int .u64 x] w fun e w' => e = .returned (.agg #[.int .i64 g, .int .i64 m, .int .i64 c, .int .i64 o]) ∧ Up w w' := by
  subst hg hm hc ho; exact rgetRoot_any x w h0 h1
theorem rlive_to {g m c o gen : Int} {y : Bool} (h : liveB g m gen = y) (w : World) :
    Calls Tryz.prog 85 #[.agg #[.int .i64 g, .int .i64 m, .int .i64 c, .int .i64 o], .int .i64 gen] w fun e w' => e = .returned (.bool y) ∧ Up w w' := h ▸ rlive_any g m c o gen w
/-- A variable of the call's own, newer than n blocks. -/
structure Var (n : Nat) (a : World) (d : Nat) (t : TypeId) (cs : Array Value) : Prop where
  at_ : Whole a d t cs
  new : n ≤ d
theorem var_up {a : World} {t : TypeId} {cs : Array Value} {m : Nat} (u : Up (a.alloc (.cells cs t)) w') (h : m ≤ a.heap.size) : Var m w' a.heap.size t cs := ⟨(Whole.new a t cs).up u, h⟩
theorem var_upd {a : World} {t : TypeId} {cs : Array Value} {m : Nat} (u : Up (a.alloc (.cells cs t)).drew w') (h : m ≤ a.heap.size) : Var m w' a.heap.size t cs := ⟨(show Whole (a.alloc (.cells cs t)).drew a.heap.size t cs from Whole.new a t cs).up u, h⟩
theorem var_else {a : World} {t : TypeId} {cs : Array Value} {m : Nat} (u : Else [p, g] (a.alloc (.cells cs t)) w') (h : m ≤ a.heap.size) (hp : p < m) (hg : g < m) : Var m w' a.heap.size t cs := ⟨u.whole (Whole.new a t cs) (by simp; omega), h⟩
theorem Var.up {a : World} {t : TypeId} {cs : Array Value} {m d : Nat} (V : Var m a d t cs) (u : Up a w') : Var m w' d t cs := ⟨V.at_.up u, V.new⟩
theorem Var.else {a : World} {t : TypeId} {cs : Array Value} {m d : Nat} (V : Var m a d t cs) (u : Else [p, g] a w') (hp : p < m) (hg : g < m) : Var m w' d t cs := ⟨u.whole V.at_ (by have := V.new; simp; omega), V.new⟩
/-- The cells of a Look and of W that it reads. -/
theorem lk_cells {v3 v4 v5 : Value} {slot gen : Int} {q8 q9 q7 : Value} {a : World} (h : Whole a b 102 #[.pointer (some ⟨k, 0, none⟩), .int .i64 slot, .int .i64 gen, v3, v4, v5]) (hk : Whole a k 60 #[.int .i64 c.wk, .int .i64 c.ch, .int .i64 c.wo, .int .i64 c.sl, .int .i64 c.ca, .int .i64 c.ba, .pointer (some ⟨p, 0, none⟩), q7, q8, q9]) (u : Up a w') :
    w'.cell? ⟨b, 0, none⟩ = some (.pointer (some ⟨k, 0, none⟩)) ∧ w'.cell? ⟨b, 1, none⟩ = some (.int .i64 slot) ∧ w'.cell? ⟨k, 0, none⟩ = some (.int .i64 c.wk) ∧ w'.cell? ⟨k, 1, none⟩ = some (.int .i64 c.ch) ∧ w'.cell? ⟨k, 2, none⟩ = some (.int .i64 c.wo) ∧ w'.cell? ⟨k, 3, none⟩ = some (.int .i64 c.sl) ∧ w'.cell? ⟨k, 4, none⟩ = some (.int .i64 c.ca) ∧ w'.cell? ⟨k, 5, none⟩ = some (.int .i64 c.ba) ∧ w'.cell? ⟨k, 6, none⟩ = some (.pointer (some ⟨p, 0, none⟩)) :=
  ⟨u.kept (h.cell rfl), u.kept (h.cell rfl), u.kept (hk.cell rfl), u.kept (hk.cell rfl), u.kept (hk.cell rfl), u.kept (hk.cell rfl), u.kept (hk.cell rfl), u.kept (hk.cell rfl), u.kept (hk.cell rfl)⟩
theorem lk_else {v3 v4 v5 : Value} {slot gen : Int} {q8 q9 q7 : Value} {a : World} {d m : Nat} {t : TypeId} {cs : Array Value} (h : Whole a b 102 #[.pointer (some ⟨k, 0, none⟩), .int .i64 slot, .int .i64 gen, v3, v4, v5]) (hk : Whole a k 60 #[.int .i64 c.wk, .int .i64 c.ch, .int .i64 c.wo, .int .i64 c.sl, .int .i64 c.ca, .int .i64 c.ba, .pointer (some ⟨p, 0, none⟩), q7, q8, q9]) (V : Var m a d t cs) (hb : b < m) (hk2 : k < m) (u : Else [d] a w') :
    w'.cell? ⟨b, 0, none⟩ = some (.pointer (some ⟨k, 0, none⟩)) ∧ w'.cell? ⟨b, 1, none⟩ = some (.int .i64 slot) ∧ w'.cell? ⟨k, 0, none⟩ = some (.int .i64 c.wk) ∧ w'.cell? ⟨k, 1, none⟩ = some (.int .i64 c.ch) ∧ w'.cell? ⟨k, 2, none⟩ = some (.int .i64 c.wo) ∧ w'.cell? ⟨k, 3, none⟩ = some (.int .i64 c.sl) ∧ w'.cell? ⟨k, 4, none⟩ = some (.int .i64 c.ca) ∧ w'.cell? ⟨k, 5, none⟩ = some (.int .i64 c.ba) ∧ w'.cell? ⟨k, 6, none⟩ = some (.pointer (some ⟨p, 0, none⟩)) := by
  have hn := V.new
  exact lk_cells (u.whole h (by simp; omega)) (u.whole hk (by simp; omega)) (Up.refl _)
/-- Behind the region: the document's root lies in the variable at d. -/
structure LkEnd (w : World) (b k p g d : Nat) (rb rk : Array Value) (xs : List Int) (cnt : Int) (r0 r1 r2 r3 : Int) (w4 : World) : Prop where
  hb : Whole w4 b 102 rb
  hk : Whole w4 k 60 rk
  hm : Ref w4 p g xs cnt
  he : Else [p, g] w w4
  hv : Whole w4 d 96 #[.int .i64 r0, .int .i64 r1, .int .i64 r2, .int .i64 r3]
  dn : w.heap.size ≤ d
theorem lk_endA {w3 : World} {d : Nat} {rb rk : Array Value} {z0 z1 z2 z3 : Value} {y0 y1 y2 y3 : Int} (HB : Whole w3 b 102 rb) (HK : Whole w3 k 60 rk) (M : Ref w3 p g xs cnt) (E : Else [p, g] w w3) (V : Var w.heap.size w3 d 96 #[z0, z1, z2, z3]) (h : b < w.heap.size ∧ k < w.heap.size ∧ p < w.heap.size ∧ g < w.heap.size) :
    LkEnd w b k p g d rb rk xs cnt y0 y1 y2 y3 ((((w3.setCell ⟨d, 0, none⟩ (.int .i64 y0)).setCell ⟨d, 1, none⟩ (.int .i64 y1)).setCell ⟨d, 2, none⟩ (.int .i64 y2)).setCell ⟨d, 3, none⟩ (.int .i64 y3)) := by
  have hn := V.new
  have u : Else [d] w3 ((((w3.setCell ⟨d, 0, none⟩ (.int .i64 y0)).setCell ⟨d, 1, none⟩ (.int .i64 y1)).setCell ⟨d, 2, none⟩ (.int .i64 y2)).setCell ⟨d, 3, none⟩ (.int .i64 y3)) :=
    ((((Else.refl [d] w3).set (.inl (by simp)) _).set (.inl (by simp)) _).set (.inl (by simp)) _).set (.inl (by simp)) _
  refine ⟨u.whole HB (by simp; omega), u.whole HK (by simp; omega), M.else u (by simp; omega) (by simp; omega), ?_, ?_, hn⟩
  · exact (((E.set (.inr hn) _).set (.inr hn) _).set (.inr hn) _).set (.inr hn) _
  · exact (((V.at_.set 0 _).set 1 _).set 2 _).set 3 _
theorem lk_endB {w3 : World} {rb rk : Array Value} {y0 y1 y2 y3 : Int} (HB : Whole w3 b 102 rb) (HK : Whole w3 k 60 rk) (M : Ref w3 p g xs cnt) (E : Else [p, g] w w3) :
    LkEnd w b k p g w3.heap.size rb rk xs cnt y0 y1 y2 y3 (w3.alloc (.cells #[.int .i64 y0, .int .i64 y1, .int .i64 y2, .int .i64 y3] 96)) :=
  ⟨HB.up (Up.alloc _ _), HK.up (Up.alloc _ _), M.up (Up.alloc _ _), E.alloc _, Whole.new _ _ _, E.size⟩
theorem LkEnd.up {d : Nat} {rb rk : Array Value} {r0 r1 r2 r3 : Int} {w4 w5 : World} (F : LkEnd w b k p g d rb rk xs cnt r0 r1 r2 r3 w4) (u : Up w4 w5) : LkEnd w b k p g d rb rk xs cnt r0 r1 r2 r3 w5 :=
  ⟨F.hb.up u, F.hk.up u, F.hm.up u, F.he.up u, F.hv.up u, F.dn⟩
/-- A store into the Look. -/
structure LkFin (w : World) (b k p g d : Nat) (rb rk : Array Value) (xs : List Int) (cnt : Int) (r0 r1 r2 r3 : Int) (w4 : World) : Prop where
  hb : Whole w4 b 102 rb
  hk : Whole w4 k 60 rk
  hm : Ref w4 p g xs cnt
  he : Else [b, p, g] w w4
  hv : Whole w4 d 96 #[.int .i64 r0, .int .i64 r1, .int .i64 r2, .int .i64 r3]
theorem LkEnd.put {d : Nat} {rb rk : Array Value} {r0 r1 r2 r3 : Int} {w4 : World} (F : LkEnd w b k p g d rb rk xs cnt r0 r1 r2 r3 w4) (i : Nat) (v : Value) : LkFin w b k p g d (rb.setIfInBounds i v) rk xs cnt r0 r1 r2 r3 (w4.setCell ⟨b, i, none⟩ v) := by
  have u : Else [b] w4 (w4.setCell ⟨b, i, none⟩ v) := (Else.refl [b] w4).set (.inl (by simp)) _
  have h1 := F.hb.ne_type F.hk (by decide)
  have h2 := F.hb.ne_type F.hm.top (by decide)
  have h3 := F.hb.ne_type F.hm.row (by decide)
  have h4 := F.hb.ne_type F.hv (by decide)
  exact ⟨F.hb.set i v, u.whole F.hk (by simp [h1.symm]), F.hm.else u (by simp [h2.symm]) (by simp [h3.symm]), (F.he.wide b).trans (u.more (by simp)), u.whole F.hv (by simp [h4.symm])⟩
theorem LkFin.up {d : Nat} {rb rk : Array Value} {r0 r1 r2 r3 : Int} {w4 w5 : World} (F : LkFin w b k p g d rb rk xs cnt r0 r1 r2 r3 w4) (u : Up w4 w5) : LkFin w b k p g d rb rk xs cnt r0 r1 r2 r3 w5 :=
  ⟨F.hb.up u, F.hk.up u, F.hm.up u, F.he.up u, F.hv.up u⟩
theorem LkFin.put {d : Nat} {rb rk : Array Value} {r0 r1 r2 r3 : Int} {w4 : World} (F : LkFin w b k p g d rb rk xs cnt r0 r1 r2 r3 w4) (i : Nat) (v : Value) : LkFin w b k p g d (rb.setIfInBounds i v) rk xs cnt r0 r1 r2 r3 (w4.setCell ⟨b, i, none⟩ v) := by
  have u : Else [b] w4 (w4.setCell ⟨b, i, none⟩ v) := (Else.refl [b] w4).set (.inl (by simp)) _
  have h1 := F.hb.ne_type F.hk (by decide)
  have h2 := F.hb.ne_type F.hm.top (by decide)
  have h3 := F.hb.ne_type F.hm.row (by decide)
  have h4 := F.hb.ne_type F.hv (by decide)
  exact ⟨F.hb.set i v, u.whole F.hk (by simp [h1.symm]), F.hm.else u (by simp [h2.symm]) (by simp [h3.symm]), F.he.trans (u.more (by simp)), u.whole F.hv (by simp [h4.symm])⟩
theorem LkFin.out {d : Nat} {rb rb' rk : Array Value} {r0' r1 r2 r3 : Int} {w4 : World} (F : LkFin w b k p g d rb rk xs (wrap64 (cnt + 1)) r0' r1 r2 r3 w4) (R : RW w k p g qp qs qe c r0 n xs cnt) (B : Whole w b 102 rb') (K : Lk) (hK : rb = #[.pointer (some ⟨k, 0, none⟩), .int .i64 (K.slot : Int), .int .i64 K.gen, .int .i64 K.off, .int .i64 K.code, .bool K.fin]) :
    ROut w k p g qp qs qe c r0 n xs cnt [b] (fun w' => RLkM w' b k K) w4 := by
  subst hK
  have h1 := B.ne_type R.obj (by decide)
  have h2 := B.ne_type R.env.stk (by decide)
  refine ⟨R.turn F.hm F.he ?_ ?_ R.env.ok rfl, ⟨F.hb⟩, F.he⟩
  · simp [h1.symm, R.kp, R.kg]
  · simp [h2.symm, R.env.np, R.env.ng]
theorem go_world {K : Exit → Act → World → Prop} {x : Exit} {a : Act} {W : World} {F : World → Prop} (h : F W) (k : ∀ w4, F w4 → K x a w4) : K x a W := k W h
set_option maxHeartbeats 4000000 in
theorem rlkStep (R : RW w k p g qp qs qe c r0 n xs cnt) (M : RLkM w b k K) (hs : K.slot < n) (hf : K.fin = false) :
    Calls Tryz.prog 44 #[.pointer (some ⟨b, 0, none⟩)] w fun e w' => e = .returned (.bool true) ∧ ROut w k p g qp qs qe c r0 n xs cnt [b] (fun w' => RLkM w' b k (K.go r0 xs)) w' := by
  obtain ⟨slot, gen, off, code, fin⟩ := K
  dsimp only at hf hs
  subst hf
  have b0 := M.row.cell (i := 0) rfl
  have b1 := M.row.cell (i := 1) rfl
  have b2 := M.row.cell (i := 2) rfl
  have b5 := M.row.cell (i := 5) rfl
  have k0 := R.obj.cell (i := 0) rfl
  have k1 := R.obj.cell (i := 1) rfl
  have k2 := R.obj.cell (i := 2) rfl
  have k3 := R.obj.cell (i := 3) rfl
  have k4 := R.obj.cell (i := 4) rfl
  have k5 := R.obj.cell (i := 5) rfl
  have k6 := R.obj.cell (i := 6) rfl
  obtain ⟨x, hx⟩ : ∃ x, xs.getD (r0 + slot) 0 = x := ⟨_, rfl⟩
  have hw := R.env.ok (r0 + slot)
  rw [hx] at hw
  obtain ⟨rg, hrg⟩ : ∃ y, (rtOf x).g = y := ⟨_, rfl⟩
  obtain ⟨rm, hrm⟩ : ∃ y, (rtOf x).m = y := ⟨_, rfl⟩
  obtain ⟨rc, hrc⟩ : ∃ y, (rtOf x).c = y := ⟨_, rfl⟩
  obtain ⟨ro, hro⟩ : ∃ y, (rtOf x).o = y := ⟨_, rfl⟩
  obtain ⟨hra, hrl⟩ := R.at hs
  have H0 := Lib.hid hra
  have H1 := Lib.hid hrl
  have H2 := Lib.hid hx
  have H3 := Lib.hid hw
  have H4 := Lib.hid (And.intro hrg (And.intro hrm (And.intro hrc hro)))
  obtain ⟨lv, hlv⟩ : ∃ y, liveB rg rm gen = y := ⟨_, rfl⟩
  have H5 := Lib.hid hlv
  have HR := Lib.hid R
  have HM := Lib.hid M
  have eg : Lk.go r0 xs ⟨slot, gen, off, code, false⟩ = if lv = true then ⟨slot, gen, ro, code, true⟩ else ⟨slot, gen, off, 3, true⟩ := by
    unfold Lk.go Lk.live; dsimp only; rw [hx, hrg, hrm, hlv, hro]
  have HG := Lib.hid eg
  have NB := Lib.hid (show b ∉ [p, g] by have h1 := M.row.ne_type R.env.mem.top (by decide); have h2 := M.row.ne_type R.env.mem.row (by decide); simp [h1, h2])
  have HBL := Lib.hid (And.intro M.row.lt (And.intro R.obj.lt (And.intro R.env.mem.top.lt R.env.mem.row.lt)))
  have HPL := Lib.hid (And.intro R.env.mem.top.lt R.env.mem.row.lt)
  have NK := Lib.hid (show k ∉ [p, g] by simp [R.kp, R.kg])
  clear hra hrl hx hw hrg hrm hrc hro hlv R M eg
  go_enter Tryz.func44, Tryz.ntmps44
  go_upto_region 3 with fail
  clear b2 b5
  go_region_held3 (fun w' => w'.cell? ⟨b, 0, none⟩ = some (.pointer (some ⟨k, 0, none⟩)) ∧ w'.cell? ⟨b, 1, none⟩ = some (.int .i64 (slot : Int)) ∧ w'.cell? ⟨k, 0, none⟩ = some (.int .i64 c.wk) ∧ w'.cell? ⟨k, 1, none⟩ = some (.int .i64 c.ch) ∧ w'.cell? ⟨k, 2, none⟩ = some (.int .i64 c.wo) ∧ w'.cell? ⟨k, 3, none⟩ = some (.int .i64 c.sl) ∧ w'.cell? ⟨k, 4, none⟩ = some (.int .i64 c.ca) ∧ w'.cell? ⟨k, 5, none⟩ = some (.int .i64 c.ba) ∧ w'.cell? ⟨k, 6, none⟩ = some (.pointer (some ⟨p, 0, none⟩)))
    ((first
      | (refine lk_else HB3.out HK3.out HV3.out HBL.out.1 HBL.out.2.1 ?_; (repeat (first | (with_reducible exact Else.refl _ _) | (refine Else.set ?_ (.inl (by first | simp | fail)) _) | (with_reducible refine Else.drew ?_) | fail)); done)
      | (refine lk_cells HB3.out HK3.out ?_; (repeat (first | (with_reducible exact Up.refl _) | (with_reducible refine Up.then_drew ?_) | (with_reducible refine Up.then_alloc ?_ _) | (refine Up.setCell ?_ (by first | simp | fail) _) | fail)); done)
      | (refine lk_cells HB2.out HK2.out ?_; (repeat (first | (with_reducible exact Up.refl _) | (with_reducible refine Up.then_drew ?_) | (with_reducible refine Up.then_alloc ?_ _) | (refine Up.setCell ?_ (by first | simp | fail) _) | fail)); done)
      | (refine lk_cells HB1.out HK1.out ?_; (repeat (first | (with_reducible exact Up.refl _) | (with_reducible refine Up.then_drew ?_) | (with_reducible refine Up.then_alloc ?_ _) | (refine Up.setCell ?_ (by first | simp | fail) _) | fail)); done)
      | (refine lk_cells HM.out.row HR.out.obj ?_; (repeat (first | (with_reducible exact Up.refl _) | (with_reducible refine Up.then_drew ?_) | (with_reducible refine Up.then_alloc ?_ _) | (refine Up.setCell ?_ (by first | simp | fail) _) | fail)); done)))
    (first
      | (go_at_call 81; refine (rrootat_to c H0.out _).mono ?_; rintro e w1 ⟨rfl, U1⟩; have HU1 := Lib.hid (Up.trans (show Up w _ from by (repeat (first | (with_reducible exact Up.refl _) | (with_reducible refine Up.then_drew ?_) | (with_reducible refine Up.then_alloc ?_ _) | (refine Up.setCell ?_ (by first | simp | fail) _) | fail)); done) U1); have HB1 := Lib.hid (HM.out.row.up HU1.out); have HK1 := Lib.hid (HR.out.obj.up HU1.out); (first | have HV1 := Lib.hid (var_up U1 (Nat.le_refl w.heap.size)) | have HV1 := Lib.hid (var_upd U1 (Nat.le_refl w.heap.size)) | skip); clear U1)
      | (go_at_call 80; refine (rloadc_to (j := r0 + slot) rfl (HR.out.env.mem.up (HU1.out.trans (by (repeat (first | (with_reducible exact Up.refl _) | (with_reducible refine Up.then_drew ?_) | (with_reducible refine Up.then_alloc ?_ _) | (refine Up.setCell ?_ (by first | simp | fail) _) | fail)); done))) H1.out H2.out).mono ?_; rintro e w2 ⟨rfl, M2, E2⟩; have HE2 := Lib.hid ((Else.of_up (HU1.out.trans (show Up w1 _ from by (repeat (first | (with_reducible exact Up.refl _) | (with_reducible refine Up.then_drew ?_) | (with_reducible refine Up.then_alloc ?_ _) | (refine Up.setCell ?_ (by first | simp | fail) _) | fail)); done))).trans E2); have HM2 := Lib.hid M2; have HB2 := Lib.hid (HE2.out.whole HM.out.row NB.out); have HK2 := Lib.hid (HE2.out.whole HR.out.obj NK.out); (first | have HV2 := Lib.hid (HV1.out.else E2 HPL.out.1 HPL.out.2) | have HV2 := Lib.hid (var_else E2 HU1.out.size HPL.out.1 HPL.out.2) | skip); clear M2 E2)
      | (go_at_call 79; refine (rgetRoot_to H3.out.1 H3.out.2 H4.out.1 H4.out.2.1 H4.out.2.2.1 H4.out.2.2.2 _).mono ?_; rintro e w3 ⟨rfl, U3⟩; have HU3 := Lib.hid (Up.trans (show Up w2 _ from by (repeat (first | (with_reducible exact Up.refl _) | (with_reducible refine Up.then_drew ?_) | (with_reducible refine Up.then_alloc ?_ _) | (refine Up.setCell ?_ (by first | simp | fail) _) | fail)); done) U3); have HE3 := Lib.hid (HE2.out.up HU3.out); have HM3 := Lib.hid (HM2.out.up HU3.out); have HB3 := Lib.hid (HB2.out.up HU3.out); have HK3 := Lib.hid (HK2.out.up HU3.out); (first | (have HV3 := Lib.hid (HV2.out.up U3); have z0 := HV3.out.at_.cell (i := 0) rfl; have z1 := HV3.out.at_.cell (i := 1) rfl; have z2 := HV3.out.at_.cell (i := 2) rfl; have z3 := HV3.out.at_.cell (i := 3) rfl; have y0 := HV3.out.at_.frozen 0; have y1 := HV3.out.at_.frozen 1; have y2 := HV3.out.at_.frozen 2; have y3 := HV3.out.at_.frozen 3) | (have HV3 := Lib.hid (var_up U3 (show w.heap.size ≤ _ from HE2.out.size)); have z0 := HV3.out.at_.cell (i := 0) rfl; have z1 := HV3.out.at_.cell (i := 1) rfl; have z2 := HV3.out.at_.cell (i := 2) rfl; have z3 := HV3.out.at_.cell (i := 3) rfl; have y0 := HV3.out.at_.frozen 0; have y1 := HV3.out.at_.frozen 1; have y2 := HV3.out.at_.frozen 2; have y3 := HV3.out.at_.frozen 3) | skip); clear U3))
  all_goals
    first
      | refine go_world (lk_endA HB3.out HK3.out HM3.out HE3.out HV3.out HBL.out) ?_
      | refine go_world (lk_endB HB3.out HK3.out HM3.out HE3.out) ?_
      | (trace_state; fail)
  all_goals
    clear b0 b1 k0 k1 k2 k3 k4 k5 k6
    intro w4 F4
    have HF4 := Lib.hid F4
    have e5 := F4.hb.cell (i := 5) rfl
    have f5 := F4.hb.frozen 5
    clear F4
    go_upto_region 5 with fail
    have F5 := HF4.out.put 5 (.bool true)
    have HF5 := Lib.hid F5
    generalize w4.setCell ⟨b, 5, none⟩ (.bool true) = w5 at *
    clear e5 f5
    have v0 := cell_class (F5.hv.cell (i := 0) rfl)
    have v1 := cell_class (F5.hv.cell (i := 1) rfl)
    have v2 := cell_class (F5.hv.cell (i := 2) rfl)
    have v3 := cell_class (F5.hv.cell (i := 3) rfl)
    have c2 := cell_class (F5.hb.cell (i := 2) rfl)
    clear F5
    refine wp_region_up (Up.refl w5) (by kernel_rfl) (by kernel_rfl) ?_
    repeat (go_big_quiet_step (first
      | (go_at_call 85; (with_reducible exact up_class (rlive_to H5.out _)))))
    refine wpQuiet_nil ?_
    rintro _ ⟨y, rfl⟩
    have F6 := HF5.out.up y.up
    have HF6 := Lib.hid F6
    have d3 := F6.hb.cell (i := 3) rfl
    have d4 := F6.hb.cell (i := 4) rfl
    have g3 := F6.hb.frozen 3
    have g4 := F6.hb.frozen 4
    have u3 := F6.hv.cell (i := 3) rfl
    clear F6 v0 v1 v2 v3 c2
    generalize y.w = w6 at *
    cases lv
    · go_wp2_with fail
      go_ret
      rw [HG.out]
      exact ⟨rfl, (HF6.out.put 4 (.int .i64 3)).out HR.out HM.out.row _ rfl⟩
    · go_wp2_with fail
      go_ret
      rw [HG.out]
      exact ⟨rfl, (HF6.out.put 3 (.int .i64 ro)).out HR.out HM.out.row _ rfl⟩
end
end Go.Proofs.YtalglhgngedjoaaGreat
