/-
  Texts beneath ChainBack, part 9: ChObj, ChList, ChSet.
-/
import Derived.Test.YteofgnifpkcgmaaPart8
/-
  Package chain: the chains over their cells (Cha); an object beside them (Cx); has, ofLink, asLink, Pool, Fill; a course's step.
-/
namespace Go.Proofs.Yteofgnifpkcgmaa
open Go.RowKit
open W64
set_option maxRecDepth 100000
/-- The chains lie at q, over the memory at p (its cells at g), the pool's stack at qs; the links begin at lk; n chunks. -/
structure Cha (w : World) (q p g qs : Nat) (c : Cf) (lk n : Nat) (s : St) : Prop where
  obj : Whole w q 86 (rooRow c p qs)
  env : Env w p g qs 0 lk n s
  may : mayB c = true
  hk : (lk : Int) = 3 + c.wk + 2 * c.sl
  hn : (n : Int) = c.ch
/-- An object at b beside the chains and their memory: nothing else has turned. -/
structure Cx (w0 : World) (b q p g : Nat) (t : TypeId) (rb rq : Array Value) (s : St) (w : World) : Prop where
  hb : Whole w b t rb
  hq : Whole w q 86 rq
  hm : Mem w p g s
  he : Else [b, p, g] w0 w
  n1 : b ≠ q
  n2 : b ≠ p
  n3 : b ≠ g
  n4 : q ≠ p
  n5 : q ≠ g
/-- A slice's block, as a list. -/
def blk (v : Value) : List Nat := v.ownBlock.toList
theorem mem_blk {v : Value} {k : Nat} : k ∈ blk v ↔ v.ownBlock = some k := by unfold blk; cases v.ownBlock <;> simp [eq_comm]
theorem Else.new_too {s t : List Nat} {a w w' : World} (h : Else s a w) (k : Else t w w') (ht : ∀ x ∈ t, x ∈ s ∨ a.heap.size ≤ x) : Else s a w' :=
  ⟨k.os.trans h.os, k.tape.trans h.tape, k.output.trans h.output, Nat.le_trans h.size k.size, fun i hi hs => (k.block i (Nat.lt_of_lt_of_le hi h.size) (fun hit => by rcases ht i hit with h1 | h1; exact hs h1; omega)).trans (h.block i hi hs)⟩
theorem ints_off {w : World} {v : Value} {xs : List Int} {b : Nat} {t : TypeId} {cs : Array Value} (J : Ints w v xs) (B : Whole w b t cs) (ht : 3 ≠ t) : v.ownBlock ≠ some b := by
  rcases J.2 with ⟨rfl, _⟩ | ⟨a, cap, cur, rfl, _, hh, _⟩
  · simp [Value.ownBlock]
  · intro e
    simp [Value.ownBlock] at e
    exact (show Whole w a 3 cur from hh).ne_type B ht e
section
variable {w0 w w' : World} {q p g qs lk n b d : Nat} {c : Cf} {s s' : St} {t : TypeId} {rb rq : Array Value} {M : World → Prop} {xs : List Int} {own : List Nat}
theorem Cha.qp (R : Cha w q p g qs c lk n s) : q ≠ p := R.obj.ne_type R.env.mem.top (by decide)
theorem Cha.qg (R : Cha w q p g qs c lk n s) : q ≠ g := R.obj.ne_type R.env.mem.row (by decide)
theorem Cha.qq (R : Cha w q p g qs c lk n s) : q ≠ qs := R.obj.ne_type R.env.stk (by decide)
theorem Cha.turn (R : Cha w q p g qs c lk n s) (m : Mem w' p g s') {x : List Nat} (u : Else x w w') (h1 : q ∉ x) (h2 : qs ∉ x) (ok : s'.Ok) (hl : s'.xs.length = s.xs.length) : Cha w' q p g qs c lk n s' :=
  ⟨u.whole R.obj h1, R.env.went m u h2 ok hl, R.may, R.hk, R.hn⟩
theorem Cha.else (R : Cha w q p g qs c lk n s) {x : List Nat} (u : Else x w w') (h : p ∉ x ∧ g ∉ x ∧ qs ∉ x ∧ q ∉ x) : Cha w' q p g qs c lk n s :=
  ⟨u.whole R.obj h.2.2.2, R.env.else u h.1 h.2.1 h.2.2.1, R.may, R.hk, R.hn⟩
theorem Cha.up (R : Cha w q p g qs c lk n s) (u : Up w w') : Cha w' q p g qs c lk n s := ⟨R.obj.up u, R.env.up u, R.may, R.hk, R.hn⟩
theorem Cha.at (R : Cha w q p g qs c lk n s) {k : Nat} (h : k < n) : llinkN c (k : Int) = ((lk + k : Nat) : Int) ∧ lk + k < s.xs.length := by
  have h1 := R.hk
  have h2 := R.hn
  have h3 := R.env.hl
  refine ⟨?_, by omega⟩
  unfold llinkN
  rw [atN_is R.may (by omega) (by omega)]
  omega
theorem Cha.nn (R : Cha w q p g qs c lk n s) : 6 ≤ lk ∧ 1 ≤ n ∧ n ≤ 4096 ∧ s.xs.length ≤ 8388608 := by
  have h1 := R.hk
  obtain ⟨h2, _, _, h3, _⟩ := may_small R.may
  exact ⟨by omega, R.env.n0, R.env.n1, R.env.top⟩
theorem Cha.cells (R : Cha w q p g qs c lk n s) (u : Up w w') : w'.cell? ⟨q, 0, none⟩ = some (.pointer (some ⟨p, 0, none⟩)) ∧ w'.cell? ⟨q, 1, none⟩ = some (.int .i64 c.wk) ∧ w'.cell? ⟨q, 2, none⟩ = some (.int .i64 c.ch) ∧ w'.cell? ⟨q, 3, none⟩ = some (.int .i64 c.wo) ∧ w'.cell? ⟨q, 4, none⟩ = some (.int .i64 c.sl) ∧ w'.cell? ⟨q, 5, none⟩ = some (.int .i64 c.ca) ∧ w'.cell? ⟨q, 6, none⟩ = some (.int .i64 c.ba) :=
  ⟨u.kept (R.obj.cell rfl), u.kept (R.obj.cell rfl), u.kept (R.obj.cell rfl), u.kept (R.obj.cell rfl), u.kept (R.obj.cell rfl), u.kept (R.obj.cell rfl), u.kept (R.obj.cell rfl)⟩
theorem Cx.up (O : Cx w0 b q p g t rb rq s w) (u : Up w w') : Cx w0 b q p g t rb rq s w' := ⟨O.hb.up u, O.hq.up u, O.hm.up u, O.he.up u, O.n1, O.n2, O.n3, O.n4, O.n5⟩
theorem Cx.put (O : Cx w0 b q p g t rb rq s w) (i : Nat) (v : Value) : Cx w0 b q p g t (rb.setIfInBounds i v) rq s (w.setCell ⟨b, i, none⟩ v) := by
  have u : Else [b] w (w.setCell ⟨b, i, none⟩ v) := (Else.refl [b] w).set (.inl (by simp)) _
  exact ⟨O.hb.set i v, u.whole O.hq (by simp [O.n1.symm]), O.hm.else u (by simp [O.n2.symm]) (by simp [O.n3.symm]), O.he.trans (u.more (by simp)), O.n1, O.n2, O.n3, O.n4, O.n5⟩
theorem Cx.turn (O : Cx w0 b q p g t rb rq s w) (m : Mem w' p g s') (u : Else [p, g] w w') : Cx w0 b q p g t rb rq s' w' :=
  ⟨u.whole O.hb (by simp [O.n2, O.n3]), u.whole O.hq (by simp [O.n4, O.n5]), m, O.he.trans (u.wide b), O.n1, O.n2, O.n3, O.n4, O.n5⟩
theorem Cha.cx (R : Cha w q p g qs c lk n s) (B : Whole w b t rb) (h1 : t ≠ 86) (h2 : t ≠ 92) (h3 : t ≠ 41) : Cx w b q p g t rb (rooRow c p qs) s w :=
  ⟨B, R.obj, R.env.mem, Else.refl _ _, B.ne_type R.obj h1, B.ne_type R.env.mem.top h2, B.ne_type R.env.mem.row h3, R.qp, R.qg⟩
theorem chHas {k : Int} {y : Bool} (R : Cha w q p g qs c lk n s) (h : decide (0 ≤ k ∧ k < n) = y) :
    Calls Try.prog 46 #[.pointer (some ⟨q, 0, none⟩), .int .i64 k] w fun e w' => e = .returned (.bool y) ∧ w = w' := by
  have c4 := R.obj.cell (i := 2) (v := .int .i64 c.ch) rfl
  have hn := R.hn
  clear R
  subst h
  by_cases h0 : 0 ≤ k
  · by_cases h1 : k < n
    · have hk : k < c.ch := by omega
      rw [decide_eq_true (And.intro h0 h1)]
      clear h1 hn
      go_enter Try.func46, Try.ntmps46
      go_wp2_with fail
      go_ret
      exact ⟨rfl, rfl⟩
    · have hk : ¬ k < c.ch := by omega
      rw [decide_eq_false (fun h => h1 h.2)]
      clear h1 hn
      go_enter Try.func46, Try.ntmps46
      go_wp2_with fail
      go_ret
      exact ⟨rfl, rfl⟩
  · rw [decide_eq_false (fun h => h0 h.1)]
    clear hn
    go_enter Try.func46, Try.ntmps46
    go_wp2_with fail
    go_ret
    exact ⟨rfl, rfl⟩
set_option maxHeartbeats 1000000 in
theorem chOf {x y : Int} (R : Cha w q p g qs c lk n s) (h0 : 0 ≤ x) (h1 : x < 18446744073709551616) (e : belowN n x = y) :
    Calls Try.prog 47 #[.pointer (some ⟨q, 0, none⟩), .int .u64 x] w fun e w' => e = .returned (.int .i64 y) ∧ w = w' := by
  have c2 := R.obj.cell (i := 2) (v := .int .i64 c.ch) rfl
  obtain ⟨_, n0, n1, _⟩ := R.nn
  have hn := R.hn
  rw [← hn] at c2
  clear R hn
  have e1 : IntKind.u64.wrap (n : Int) = n := IntWalk.u64_in _ (by omega)
  subst e
  by_cases h : (n : Int) < x
  · rw [show belowN n x = -1 by unfold belowN; rw [if_pos h]]
    go_enter Try.func47, Try.ntmps47
    go_wp2_with fail
    go_ret
    exact ⟨rfl, rfl⟩
  · rw [show belowN n x = x - 1 by unfold belowN; rw [if_neg h]]
    have e2 : IntKind.i64.wrap x = x := IntWalk.i64_in _ (by omega)
    have e3 : IntKind.i64.wrap (x - 1) = x - 1 := IntWalk.i64_in _ (by omega)
    go_enter Try.func47, Try.ntmps47
    go_wp2_with fail
    go_ret
    refine ⟨ret_int ?_, rfl⟩
    first | rfl | (rw [wrap64_in (by omega) (by omega)]) | (rw [wrap64_in (by omega) (by omega)]; exact e3)
set_option maxHeartbeats 400000 in
theorem chAs {x y : Int} (e : x + 1 = y) (h0 : -1 ≤ x) (h1 : x < 9223372036854775807) (w : World) :
    Calls Try.prog 73 #[.int .i64 x] w fun e w' => e = .returned (.int .u64 y) ∧ w = w' := by
  subst e
  have e1 : IntKind.i64.wrap (x + 1) = x + 1 := IntWalk.i64_in _ (by omega)
  have e2 : IntKind.u64.wrap (x + 1) = x + 1 := IntWalk.u64_in _ (by omega)
  go_enter Try.func73, Try.ntmps73
  go_wp2
  go_ret
  refine ⟨ret_int ?_, rfl⟩
  first | rfl | (rw [wrap64_in (by omega) (by omega)]; exact e2)
theorem chPool (R : Cha w q p g qs c lk n s) :
    Calls Try.prog 11 #[.pointer (some ⟨q, 0, none⟩)] w fun e w' => e = .returned (.pointer (some ⟨qs, 0, none⟩)) ∧ w = w' := by
  have c7 := R.obj.cell (i := 7) (v := .pointer (some ⟨qs, 0, none⟩)) rfl
  clear R
  go_enter Try.func11, Try.ntmps11
  go_wp2_with fail
  go_ret
  exact ⟨rfl, rfl⟩
theorem fillS_len (s : St) (hd ln n : Nat) : (fillS s hd ln n).xs.length = s.xs.length := by unfold fillS; rw [lay_len, lay_len, fillK_len]
theorem fillS_c (s : St) (hd ln n : Nat) : (fillS s hd ln n).c = s.c := fillK_c s ln (n - 1)
theorem fillS_ok {s : St} (h : s.Ok) (hd ln n : Nat) (hn : n ≤ 4096) : (fillS s hd ln n).Ok :=
  ((fillK_ok h ln (n - 1) (by omega)).lay _ (by decide) (by decide)).lay _ (by decide) (by decide)
theorem chFill (R : Cha w q p g qs c lk n s) :
    Calls Try.prog 33 #[.pointer (some ⟨q, 0, none⟩)] w fun e w' => e = .returned (.tuple #[]) ∧ Cha w' q p g qs c lk n (fillS s 0 lk n) ∧ Else [p, g] w w' := by
  have c7 := R.obj.cell (i := 7) (v := .pointer (some ⟨qs, 0, none⟩)) rfl
  have HR := Lib.hid R
  clear R
  go_enter Try.func33, Try.ntmps33
  go_wp2_with (first
    | (go_at_call 62; refine (fill_in HR.out.env).mono ?_; rintro e w1 ⟨rfl, M1, E1⟩; have HM := Lib.hid M1; have HE := Lib.hid E1; clear M1 E1))
  go_end0
  exact ⟨rfl, HR.out.turn HM.out HE.out (by simp [HR.out.qp, HR.out.qg]) (by simp [HR.out.env.np, HR.out.env.ng]) (fillS_ok HR.out.env.ok _ _ _ HR.out.nn.2.2.1) (fillS_len _ _ _ _), HE.out⟩
theorem cstep_end (c0 : w.cell? ⟨b, 0, none⟩ = some .nilFunc) : Calls Try.prog 65 #[.pointer (some ⟨b, 0, none⟩)] w fun e w' => e = .returned (.bool false) ∧ w = w' := by
  have h1 := run_eql_nilFunc
  go_enter Try.func65, Try.ntmps65
  go_wp2_with fail
  go_ret
  exact ⟨rfl, rfl⟩
theorem setStep_end (c0 : w.cell? ⟨b, 0, none⟩ = some .nilFunc) : Calls Try.prog 40 #[.pointer (some ⟨b, 0, none⟩)] w fun e w' => e = .returned (.bool false) ∧ w = w' := by
  have H := Lib.hid (cstep_end c0)
  clear c0
  go_enter Try.func40, Try.ntmps40
  go_wp2_with (go_at_call 65; refine H.out.mono ?_; rintro e w2 ⟨rfl, rfl⟩)
  go_ret
  exact ⟨rfl, rfl⟩
theorem walkStep_end (c0 : w.cell? ⟨b, 0, none⟩ = some .nilFunc) : Calls Try.prog 50 #[.pointer (some ⟨b, 0, none⟩)] w fun e w' => e = .returned (.bool false) ∧ w = w' := by
  have H := Lib.hid (cstep_end c0)
  clear c0
  go_enter Try.func50, Try.ntmps50
  go_wp2_with (go_at_call 65; refine H.out.mono ?_; rintro e w2 ⟨rfl, rfl⟩)
  go_ret
  exact ⟨rfl, rfl⟩
theorem setDone_yes (c0 : w.cell? ⟨b, 0, none⟩ = some .nilFunc) : Calls Try.prog 39 #[.pointer (some ⟨b, 0, none⟩)] w fun e w' => e = .returned (.bool true) ∧ w = w' := by
  have h1 := run_eql_nilFunc
  go_enter Try.func39, Try.ntmps39
  go_wp2_with fail
  go_ret
  exact ⟨rfl, rfl⟩
theorem setDone_no {f : FuncId} (c0 : w.cell? ⟨b, 0, none⟩ = some (meth f b)) : Calls Try.prog 39 #[.pointer (some ⟨b, 0, none⟩)] w fun e w' => e = .returned (.bool false) ∧ w = w' := by
  have h1 := run_eql_func
  unfold meth at c0
  go_enter Try.func39, Try.ntmps39
  go_wp2_with fail
  go_ret
  exact ⟨rfl, rfl⟩
theorem walkDone_yes (c0 : w.cell? ⟨b, 0, none⟩ = some .nilFunc) : Calls Try.prog 51 #[.pointer (some ⟨b, 0, none⟩)] w fun e w' => e = .returned (.bool true) ∧ w = w' := by
  have h1 := run_eql_nilFunc
  go_enter Try.func51, Try.ntmps51
  go_wp2_with fail
  go_ret
  exact ⟨rfl, rfl⟩
theorem walkDone_no {f : FuncId} (c0 : w.cell? ⟨b, 0, none⟩ = some (meth f b)) : Calls Try.prog 51 #[.pointer (some ⟨b, 0, none⟩)] w fun e w' => e = .returned (.bool false) ∧ w = w' := by
  have h1 := run_eql_func
  unfold meth at c0
  go_enter Try.func51, Try.ntmps51
  go_wp2_with fail
  go_ret
  exact ⟨rfl, rfl⟩
theorem cstep_set {R : World → Prop} (c0 : w.cell? ⟨b, 0, none⟩ = some (meth 60 b)) (h : Calls Try.prog 60 #[.pointer (some ⟨b, 0, none⟩)] w fun e w' => e = .returned (.tuple #[]) ∧ R w') :
    Calls Try.prog 65 #[.pointer (some ⟨b, 0, none⟩)] w fun e w' => e = .returned (.bool true) ∧ R w' := by
  have H := Lib.hid h
  have q1 := run_eql_func
  unfold meth at c0
  clear h
  go_enter Try.func65, Try.ntmps65
  go_wp2_with (go_at_call 60; refine H.out.mono ?_; rintro e w2 ⟨rfl, r2⟩)
  go_ret
  exact ⟨rfl, r2⟩
theorem step_set {R : World → Prop} (c0 : w.cell? ⟨b, 0, none⟩ = some (meth 60 b)) (h : Calls Try.prog 60 #[.pointer (some ⟨b, 0, none⟩)] w fun e w' => e = .returned (.tuple #[]) ∧ R w') :
    Calls Try.prog 40 #[.pointer (some ⟨b, 0, none⟩)] w fun e w' => e = .returned (.bool true) ∧ R w' := by
  have H := Lib.hid (cstep_set c0 h)
  clear h c0
  go_enter Try.func40, Try.ntmps40
  go_wp2_with (go_at_call 65; refine H.out.mono ?_; rintro e w2 ⟨rfl, r2⟩)
  go_ret
  exact ⟨rfl, r2⟩
theorem cstep_walk {R : World → Prop} (c0 : w.cell? ⟨b, 0, none⟩ = some (meth 61 b)) (h : Calls Try.prog 61 #[.pointer (some ⟨b, 0, none⟩)] w fun e w' => e = .returned (.tuple #[]) ∧ R w') :
    Calls Try.prog 65 #[.pointer (some ⟨b, 0, none⟩)] w fun e w' => e = .returned (.bool true) ∧ R w' := by
  have H := Lib.hid h
  have q1 := run_eql_func
  unfold meth at c0
  clear h
  go_enter Try.func65, Try.ntmps65
  go_wp2_with (go_at_call 61; refine H.out.mono ?_; rintro e w2 ⟨rfl, r2⟩)
  go_ret
  exact ⟨rfl, r2⟩
theorem step_walk {R : World → Prop} (c0 : w.cell? ⟨b, 0, none⟩ = some (meth 61 b)) (h : Calls Try.prog 61 #[.pointer (some ⟨b, 0, none⟩)] w fun e w' => e = .returned (.tuple #[]) ∧ R w') :
    Calls Try.prog 50 #[.pointer (some ⟨b, 0, none⟩)] w fun e w' => e = .returned (.bool true) ∧ R w' := by
  have H := Lib.hid (cstep_walk c0 h)
  clear h c0
  go_enter Try.func50, Try.ntmps50
  go_wp2_with (go_at_call 65; refine H.out.mono ?_; rintro e w2 ⟨rfl, r2⟩)
  go_ret
  exact ⟨rfl, r2⟩
end
end Go.Proofs.Yteofgnifpkcgmaa

/-
  Package chain: List: the chunks behind one, whatever the cells hold.
-/
namespace Go.Proofs.Yteofgnifpkcgmaa
open Go.RowKit
open W64
set_option maxRecDepth 100000
section
variable {w w' : World} {q p g qs lk n b d : Nat} {c : Cf} {s s' : St}
theorem chList_no (R : Cha w q p g qs c lk n s) {k : Int} (h : ¬ (0 ≤ k ∧ k < n)) :
    Calls Try.prog 19 #[.pointer (some ⟨q, 0, none⟩), .int .i64 k] w fun e w' => e = .returned (.slice none 0 0) ∧ w = w' := by
  have HH := Lib.hid (chHas R (decide_eq_false h))
  clear R h
  go_enter Try.func19, Try.ntmps19
  go_wp2_with (go_at_call 46; refine HH.out.mono ?_; rintro e w2 ⟨rfl, rfl⟩)
  go_ret
  exact ⟨rfl, rfl⟩
set_option maxHeartbeats 4000000 in
theorem chList_in (R : Cha w q p g qs c lk n s) {k : Nat} (hk : k < n) :
    Calls Try.prog 19 #[.pointer (some ⟨q, 0, none⟩), .int .i64 (k : Int)] w fun e w' => ∃ v, e = .returned v ∧ Ints w' v (I (walkL n lk s.xs n (k : Int))) ∧ Fresh w v ∧ Up w w' := by
  obtain ⟨_, n0, n1, ht⟩ := R.nn
  have hn := Lib.hid R.hn
  have HW := Lib.hid R.env.ok.words
  have HE := Lib.hid R
  have HH := Lib.hid (chHas R (decide_eq_true (And.intro (Int.natCast_nonneg k) (show (k : Int) < (n : Int) by omega))))
  obtain ⟨S, hS⟩ : ∃ S, walkL n lk s.xs n (k : Int) = S := ⟨_, rfl⟩
  rw [hS]
  have HS := Lib.hid hS
  have HKN := Lib.hid hk
  clear R hS
  go_enter Try.func19, Try.ntmps19
  go_wp2_with (go_at_call 46; refine HH.out.mono ?_; rintro e w2 ⟨rfl, rfl⟩)
  clear hk
  go_loopw [5, 6] (fun v i wr => WalkRel w n lk s.xs S v i wr) (fun v _ _ => n - nOf v)
  case atStart => exact ⟨[], (k : Int), Nat.zero_le _, rfl, by omega, by have := HKN.out; omega, HS.out, Ints.nil _, fresh_nil _, Up.refl _⟩
  case round =>
    obtain ⟨T, j, hT, rfl, j0, j1, hS, J, F, hup⟩ := hrel
    obtain ⟨A, cp, rfl⟩ := J.slice
    obtain ⟨m, hm⟩ : ∃ m, T.length = m := ⟨_, rfl⟩
    rw [I_len, hm] at J F ⊢
    have HEr := Lib.hid (HE.out.up hup)
    obtain ⟨c0, c1, c2, c3, c4, c5, c6⟩ := HEr.out.cells (Up.refl _)
    rw [← hn.out] at c2
    have HJ := Lib.hid J
    have HF := Lib.hid F
    have HUP := Lib.hid hup
    have HSS := Lib.hid hS
    have HK := Lib.hid hm
    rw [hm] at hT
    clear J F hup hS hm
    by_cases hj : j = -1
    · subst hj
      have HFI := Lib.hid (walk_end HSS.out (.inl (by decide)))
      go_wp2_with fail
      go_ret
      rw [HFI.out] at HJ
      have hk2 := HK.out
      rw [HFI.out] at hk2
      exact ⟨_, rfl, HJ.out, HF.out, HUP.out⟩
    · have g1 : (j == -1) = false := by simpa using hj
      by_cases hlt : m < n
      · have g2 : (m : Int) < (n : Int) := by omega
        obtain ⟨x, rfl⟩ : ∃ x : Nat, j = x := ⟨j.toNat, by omega⟩
        have hx : x < n := by omega
        have hz := HW.out (lk + x)
        have gz := Lib.hid (get_ln s lk x)
        have HAT := Lib.hid (HE.out.at hx)
        obtain ⟨z, ez⟩ : ∃ z, s.xs.getD (lk + x) 0 = z := ⟨_, rfl⟩
        obtain ⟨y, ey⟩ : ∃ y, belowN n z = y := ⟨_, rfl⟩
        rw [ez] at hz
        have HN := Lib.hid (show (T ++ [x]) ++ walkL n lk s.xs (n - (T ++ [x]).length) y = S by
          rw [← ey, ← ez]; exact walk_more HSS.out (by rw [HK.out]; exact hlt))
        have HY := Lib.hid (show -1 ≤ y ∧ y < n by rw [← ey]; exact belowN_in hz.1 (by omega))
        have HB := Lib.hid (And.intro ey hz)
        have HZ := Lib.hid (show s.get ((lk + x : Nat) : Int) = z by rw [get_at, ez])
        have hh := Lib.hid (show s.has ((lk + x : Nat) : Int) from ⟨by omega, by have := HAT.out.2; omega⟩)
        have i0 : (0 : Int) ≤ (x : Int) := Int.natCast_nonneg _
        clear ez ey hz
        go_upto_region 7 with (at_builtin; refine wpList_app rfl _ _ rfl rfl rfl (HJ.out.up (Up.alloc _ _)) (rd_one _ (x : Int)) (by rw [I_len, HK.out]; simp; omega) ?_; intro v5 w5 J5 G5 A5; obtain ⟨A5v, N5, c5', rfl⟩ := shapeI J5; have HJ5 := Lib.hid J5; have HU5 := Lib.hid (up_app (HUP.out.then_alloc _) G5 HF.out); have HF5 := Lib.hid (fresh_app HF.out (HUP.out.then_alloc (.cells #[.int .i64 (x : Int)] 3)).size A5); clear J5 G5 A5)
        clear c0 c1 c2 c3 c4 c5 c6
        have HED := Lib.hid (HE.out.up (HU5.out.trans (up_drew w5)))
        have HC0 := Lib.hid (HED.out.cells (Up.refl _))
        go_region_held3 (fun w' => w'.cell? ⟨q, 0, none⟩ = some (.pointer (some ⟨p, 0, none⟩)) ∧ w'.cell? ⟨q, 1, none⟩ = some (.int .i64 c.wk) ∧ w'.cell? ⟨q, 2, none⟩ = some (.int .i64 c.ch) ∧ w'.cell? ⟨q, 3, none⟩ = some (.int .i64 c.wo) ∧ w'.cell? ⟨q, 4, none⟩ = some (.int .i64 c.sl) ∧ w'.cell? ⟨q, 5, none⟩ = some (.int .i64 c.ca) ∧ w'.cell? ⟨q, 6, none⟩ = some (.int .i64 c.ba))
          ((first | with_reducible exact HC6.out | with_reducible exact HC0.out))
          (first
            | (go_at_call 16; refine (link_is HAT.out.1 _).mono ?_; rintro e w6 ⟨rfl, U6⟩; have HU6 := Lib.hid ((up_drew w5).trans U6); have HE6 := Lib.hid (HED.out.up U6); have HC6 := Lib.hid (HE6.out.cells (Up.refl _)); clear U6)
            | (go_at_call 15; refine (peek_to HE6.out.env.mem hh.out HZ.out).mono ?_; rintro e w9 ⟨rfl, rfl⟩)
            | (go_at_call 47; refine (chOf HE6.out HB.out.2.1 HB.out.2.2 HB.out.1).mono ?_; rintro e w9 ⟨rfl, rfl⟩))
        have hN5 : N5 = m + 1 := by
          obtain ⟨A9, c9, e9⟩ := HJ5.out.slice
          injection e9 with _ e9 _
          rw [e9, List.length_append, I_len, HK.out]; rfl
        subst hN5
        go_wp2_with fail
        go_roundw
        case rel => exact ⟨T ++ [x], y, by rw [List.length_append, HK.out]; simp; omega, rfl, HY.out.1, HY.out.2, HN.out, by rw [I_app]; exact HJ5.out.up HU6.out, HF5.out, HU5.out.trans HU6.out⟩
        case measure => simp [nOf]; omega
      · have g2 : ¬ (m : Int) < (n : Int) := by omega
        have HFI := Lib.hid (walk_end HSS.out (.inr (by rw [HK.out]; omega)))
        go_wp2_with fail
        go_ret
        rw [HFI.out] at HJ
        exact ⟨_, rfl, HJ.out, HF.out, HUP.out⟩
theorem chList (R : Cha w q p g qs c lk n s) {k : Int} (h0 : -1 ≤ k) (h1 : k < n) :
    Calls Try.prog 19 #[.pointer (some ⟨q, 0, none⟩), .int .i64 k] w fun e w' => ∃ v, e = .returned v ∧ Ints w' v (I (walkL n lk s.xs n k)) ∧ Fresh w v ∧ Up w w' := by
  by_cases h : 0 ≤ k
  · obtain ⟨x, rfl⟩ : ∃ x : Nat, k = x := ⟨k.toNat, by omega⟩
    exact chList_in R (by omega)
  · refine (chList_no R (fun h2 => h h2.1)).mono ?_
    rintro e w' ⟨rfl, rfl⟩
    rw [walkL_neg (by omega)]
    exact ⟨_, rfl, Ints.nil _, fresh_nil _, Up.refl _⟩
end
end Go.Proofs.Yteofgnifpkcgmaa

/-
  Package chain: a Set: one Store (SeM: it lies at b); it begins; where it is refused.
-/
namespace Go.Proofs.Yteofgnifpkcgmaa
open Go.RowKit
open W64
set_option maxRecDepth 100000
/-- A Set of chunk ahead of bh lies at b; fin: it is done. -/
structure SeM (w : World) (b q : Nat) (chunk bh : Int) (fin : Bool) : Prop where
  row : Whole w b 103 #[if fin = true then .nilFunc else meth 60 b, .pointer (some ⟨q, 0, none⟩), .int .i64 chunk, .int .i64 bh]
/-- What a Set leaves. -/
def setS (s : St) (lk k : Nat) (bh : Int) : St := s.hit 2 ((lk + k : Nat) : Int) (bh + 1) true
section
variable {w w' : World} {q p g qs lk n b : Nat} {c : Cf} {s s' : St}
theorem setS_xs (s : St) (lk k : Nat) (bh : Int) : (setS s lk k bh).xs = s.xs.set (lk + k) (bh + 1) := by
  unfold setS St.hit; dsimp only; rw [Int.toNat_natCast]
theorem setS_c (s : St) (lk k : Nat) (bh : Int) : (setS s lk k bh).c = wrap64 (s.c + 1) := rfl
theorem SeM.up {chunk bh : Int} {fin : Bool} (M : SeM w b q chunk bh fin) (u : Up w w') : SeM w' b q chunk bh fin := ⟨M.row.up u⟩
set_option maxHeartbeats 4000000 in
theorem set_store {nx : Value} {k : Nat} {bh : Int} (R : Cha w q p g qs c lk n s) (B : Whole w b 103 #[nx, .pointer (some ⟨q, 0, none⟩), .int .i64 (k : Int), .int .i64 bh]) (hk : k < n) (h0 : -1 ≤ bh) (h1 : bh < n) :
    Calls Try.prog 60 #[.pointer (some ⟨b, 0, none⟩)] w fun e w' => e = .returned (.tuple #[]) ∧ Cx w b q p g 103 #[.nilFunc, .pointer (some ⟨q, 0, none⟩), .int .i64 (k : Int), .int .i64 bh] (rooRow c p qs) (setS s lk k bh) w' := by
  have HO := Lib.hid (R.cx B (by decide) (by decide) (by decide))
  have HAT := Lib.hid (R.at hk)
  have hnn := R.nn
  have HT := Lib.hid (show -1 ≤ bh ∧ bh < 9223372036854775807 from ⟨h0, by omega⟩)
  have HR := Lib.hid R
  have HB := Lib.hid B
  have HC0 := Lib.hid (show w.drew.cell? ⟨b, 1, none⟩ = some (.pointer (some ⟨q, 0, none⟩)) ∧ w.drew.cell? ⟨b, 2, none⟩ = some (.int .i64 (k : Int)) ∧ w.drew.cell? ⟨b, 3, none⟩ = some (.int .i64 bh) ∧ w.drew.cell? ⟨q, 0, none⟩ = some (.pointer (some ⟨p, 0, none⟩)) ∧ w.drew.cell? ⟨q, 1, none⟩ = some (.int .i64 c.wk) ∧ w.drew.cell? ⟨q, 2, none⟩ = some (.int .i64 c.ch) ∧ w.drew.cell? ⟨q, 3, none⟩ = some (.int .i64 c.wo) ∧ w.drew.cell? ⟨q, 4, none⟩ = some (.int .i64 c.sl) ∧ w.drew.cell? ⟨q, 5, none⟩ = some (.int .i64 c.ca) ∧ w.drew.cell? ⟨q, 6, none⟩ = some (.int .i64 c.ba) from
    ⟨(up_drew w).kept (B.cell rfl), (up_drew w).kept (B.cell rfl), (up_drew w).kept (B.cell rfl), R.cells (up_drew w)⟩)
  clear R B
  go_enter Try.func60, Try.ntmps60
  go_upto_region 0 with fail
  go_region_held3 (fun w' => w'.cell? ⟨b, 1, none⟩ = some (.pointer (some ⟨q, 0, none⟩)) ∧ w'.cell? ⟨b, 2, none⟩ = some (.int .i64 (k : Int)) ∧ w'.cell? ⟨b, 3, none⟩ = some (.int .i64 bh) ∧ w'.cell? ⟨q, 0, none⟩ = some (.pointer (some ⟨p, 0, none⟩)) ∧ w'.cell? ⟨q, 1, none⟩ = some (.int .i64 c.wk) ∧ w'.cell? ⟨q, 2, none⟩ = some (.int .i64 c.ch) ∧ w'.cell? ⟨q, 3, none⟩ = some (.int .i64 c.wo) ∧ w'.cell? ⟨q, 4, none⟩ = some (.int .i64 c.sl) ∧ w'.cell? ⟨q, 5, none⟩ = some (.int .i64 c.ca) ∧ w'.cell? ⟨q, 6, none⟩ = some (.int .i64 c.ba))
    ((first | with_reducible exact HC3.out | with_reducible exact HC2.out | with_reducible exact HC0.out))
    (first
      | (go_at_call 16; refine (link_is HAT.out.1 _).mono ?_; rintro e w2 ⟨rfl, U2⟩; have HU2 := Lib.hid ((up_drew w).trans U2); have HC2 := Lib.hid (show w2.cell? ⟨b, 1, none⟩ = some (.pointer (some ⟨q, 0, none⟩)) ∧ w2.cell? ⟨b, 2, none⟩ = some (.int .i64 (k : Int)) ∧ w2.cell? ⟨b, 3, none⟩ = some (.int .i64 bh) ∧ w2.cell? ⟨q, 0, none⟩ = some (.pointer (some ⟨p, 0, none⟩)) ∧ w2.cell? ⟨q, 1, none⟩ = some (.int .i64 c.wk) ∧ w2.cell? ⟨q, 2, none⟩ = some (.int .i64 c.ch) ∧ w2.cell? ⟨q, 3, none⟩ = some (.int .i64 c.wo) ∧ w2.cell? ⟨q, 4, none⟩ = some (.int .i64 c.sl) ∧ w2.cell? ⟨q, 5, none⟩ = some (.int .i64 c.ca) ∧ w2.cell? ⟨q, 6, none⟩ = some (.int .i64 c.ba) from ⟨HU2.out.kept (HB.out.cell rfl), HU2.out.kept (HB.out.cell rfl), HU2.out.kept (HB.out.cell rfl), HR.out.cells HU2.out⟩); clear U2)
      | (go_at_call 73; refine (chAs rfl HT.out.1 HT.out.2 _).mono ?_; rintro e w9 ⟨rfl, rfl⟩)
      | (go_at_call 72; refine (storej_to (bh + 1) rfl (HO.out.up HU2.out).hm HAT.out.2).mono ?_; rintro e w3 ⟨rfl, M3, E3⟩; have HO3 := Lib.hid ((HO.out.up HU2.out).turn M3 E3); have HC3 := Lib.hid (show w3.cell? ⟨b, 1, none⟩ = some (.pointer (some ⟨q, 0, none⟩)) ∧ w3.cell? ⟨b, 2, none⟩ = some (.int .i64 (k : Int)) ∧ w3.cell? ⟨b, 3, none⟩ = some (.int .i64 bh) ∧ w3.cell? ⟨q, 0, none⟩ = some (.pointer (some ⟨p, 0, none⟩)) ∧ w3.cell? ⟨q, 1, none⟩ = some (.int .i64 c.wk) ∧ w3.cell? ⟨q, 2, none⟩ = some (.int .i64 c.ch) ∧ w3.cell? ⟨q, 3, none⟩ = some (.int .i64 c.wo) ∧ w3.cell? ⟨q, 4, none⟩ = some (.int .i64 c.sl) ∧ w3.cell? ⟨q, 5, none⟩ = some (.int .i64 c.ca) ∧ w3.cell? ⟨q, 6, none⟩ = some (.int .i64 c.ba) from ⟨HO3.out.hb.cell rfl, HO3.out.hb.cell rfl, HO3.out.hb.cell rfl, HO3.out.hq.cell rfl, HO3.out.hq.cell rfl, HO3.out.hq.cell rfl, HO3.out.hq.cell rfl, HO3.out.hq.cell rfl, HO3.out.hq.cell rfl, HO3.out.hq.cell rfl⟩); clear M3 E3))
  have h0 := HO3.out.hb.frozen 0
  have q0 := HO3.out.hb.cell (i := 0) rfl
  go_wp2_with fail
  go_end0
  exact ⟨rfl, HO3.out.put 0 .nilFunc⟩
theorem seStep {k : Nat} {bh : Int} (R : Cha w q p g qs c lk n s) (M : SeM w b q (k : Int) bh false) (hk : k < n) (h0 : -1 ≤ bh) (h1 : bh < n) :
    Calls Try.prog 40 #[.pointer (some ⟨b, 0, none⟩)] w fun e w' => e = .returned (.bool true) ∧ Cha w' q p g qs c lk n (setS s lk k bh) ∧ SeM w' b q (k : Int) bh true ∧ Else [b, p, g] w w' := by
  have B := M.row
  simp only [Bool.false_eq_true, if_false] at B
  have hq := B.ne_type R.env.stk (by decide)
  refine (step_set (B.cell rfl) (set_store R B hk h0 h1)).mono ?_
  rintro e w' ⟨rfl, O⟩
  have ok : (setS s lk k bh).Ok := R.env.ok.hit _ _ _ (by omega) (by have := R.env.n1; omega)
  refine ⟨rfl, R.turn O.hm O.he (by simp [O.n1.symm, O.n4, O.n5]) (by simp [hq.symm, R.env.np, R.env.ng]) ok (hit_len _ _ _ _ _), ⟨?_⟩, O.he⟩
  simpa using O.hb
theorem seStep_no {chunk bh : Int} (M : SeM w b q chunk bh true) : Calls Try.prog 40 #[.pointer (some ⟨b, 0, none⟩)] w fun e w' => e = .returned (.bool false) ∧ w = w' := by
  have B := M.row
  simp only [if_true] at B
  exact setStep_end (B.cell rfl)
theorem seDone {chunk bh : Int} {fin : Bool} (M : SeM w b q chunk bh fin) : Calls Try.prog 39 #[.pointer (some ⟨b, 0, none⟩)] w fun e w' => e = .returned (.bool fin) ∧ w = w' := by
  have B := M.row
  cases fin
  · simp only [Bool.false_eq_true, if_false] at B
    exact setDone_no (B.cell rfl)
  · simp only [if_true] at B
    exact setDone_yes (B.cell rfl)
set_option maxHeartbeats 2000000 in
theorem chSet (R : Cha w q p g qs c lk n s) {k : Nat} {bh : Int} (hk : k < n) (h0 : -1 ≤ bh) (h1 : bh < n) :
    Calls Try.prog 31 #[.pointer (some ⟨q, 0, none⟩), .int .i64 (k : Int), .int .i64 bh] w fun e w' => ∃ b, e = .returned (.tuple #[.pointer (some ⟨b, 0, none⟩), .int .i64 0]) ∧ SeM w' b q (k : Int) bh false ∧ w.heap.size ≤ b ∧ Up w w' := by
  have HH := Lib.hid (chHas R (decide_eq_true (And.intro (Int.natCast_nonneg k) (show (k : Int) < (n : Int) by omega))))
  have hf := run_func
  by_cases ht : bh = -1
  · subst ht
    clear R h0 h1
    go_enter Try.func31, Try.ntmps31
    go_wp2_with (first
      | (go_at_call 46; (with_reducible refine HH.out.mono ?_); rintro e w2 ⟨rfl, rfl⟩))
    go_ret2
    refine ⟨_, rfl, ⟨?_⟩, Nat.le_refl _, ?_⟩
    · exact Whole.new w 103 #[meth 60 w.heap.size, .pointer (some ⟨q, 0, none⟩), .int .i64 (k : Int), .int .i64 (-1)]
    · exact Up.alloc _ _
  · have HT := Lib.hid (chHas R (decide_eq_true (And.intro (show 0 ≤ bh by omega) h1)))
    have g1 : (bh == -1) = false := by simpa using ht
    clear R h0 h1
    go_enter Try.func31, Try.ntmps31
    go_wp2_with (first
      | (go_at_call 46; (with_reducible refine HH.out.mono ?_); rintro e w2 ⟨rfl, rfl⟩)
      | (go_at_call 46; (with_reducible refine HT.out.mono ?_); rintro e w2 ⟨rfl, rfl⟩))
    go_ret2
    refine ⟨_, rfl, ⟨?_⟩, Nat.le_refl _, ?_⟩
    · exact Whole.new w 103 #[meth 60 w.heap.size, .pointer (some ⟨q, 0, none⟩), .int .i64 (k : Int), .int .i64 bh]
    · exact Up.alloc _ _
theorem chSet_no1 (R : Cha w q p g qs c lk n s) {k : Int} (bh : Int) (h : ¬ (0 ≤ k ∧ k < n)) :
    Calls Try.prog 31 #[.pointer (some ⟨q, 0, none⟩), .int .i64 k, .int .i64 bh] w fun e w' => e = .returned (.tuple #[.pointer none, .int .i64 1]) ∧ w = w' := by
  have HH := Lib.hid (chHas R (decide_eq_false h))
  clear R h
  go_enter Try.func31, Try.ntmps31
  go_wp2_with (first
    | (go_at_call 46; (with_reducible refine HH.out.mono ?_); rintro e w2 ⟨rfl, rfl⟩))
  go_ret2
  exact ⟨rfl, rfl⟩
theorem chSet_no2 (R : Cha w q p g qs c lk n s) {k : Nat} {bh : Int} (hk : k < n) (h : ¬ (-1 ≤ bh ∧ bh < n)) :
    Calls Try.prog 31 #[.pointer (some ⟨q, 0, none⟩), .int .i64 (k : Int), .int .i64 bh] w fun e w' => e = .returned (.tuple #[.pointer none, .int .i64 1]) ∧ w = w' := by
  have HH := Lib.hid (chHas R (decide_eq_true (And.intro (Int.natCast_nonneg k) (show (k : Int) < (n : Int) by omega))))
  have HT := Lib.hid (chHas (k := bh) R (decide_eq_false (fun h2 => h ⟨by omega, h2.2⟩)))
  have g0 : ¬ bh = -1 := fun e => h ⟨by omega, by omega⟩
  have g1 : (bh == -1) = false := by simpa using g0
  clear R h
  go_enter Try.func31, Try.ntmps31
  go_wp2_with (first
    | (go_at_call 46; (with_reducible refine HH.out.mono ?_); rintro e w2 ⟨rfl, rfl⟩)
    | (go_at_call 46; (with_reducible refine HT.out.mono ?_); rintro e w2 ⟨rfl, rfl⟩))
  go_ret2
  exact ⟨rfl, rfl⟩
end
end Go.Proofs.Yteofgnifpkcgmaa
