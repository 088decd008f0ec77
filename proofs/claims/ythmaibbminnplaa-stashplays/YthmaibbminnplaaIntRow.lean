/-
  Slices of ints: one that is read (Rd), one that is the beginning of a block of its own, or nil (Ints); append, slices.Clone, the reference's SameInts. (Layers without a stack; the stack's texts have the same in Ints, Stack1, App, Lists.)
-/
import Derived.Test.YthmaibbminnplaaNum
import Derived.Test.YthmaibbminnplaaMem
import Derived.OwnWalk
import Derived.Test.YthmaibbminnplaaQuietUp
import Derived.Deep.RegionHeld3
import Derived.Deep.DrawnRows
import Derived.StillTailTactics
import Derived.Deep.DeepCutAuto
import Derived.Deep.AppendLies
import Derived.Lib.SliceRun
namespace Go.Proofs.Ythmaibbminnplaa
open Go.RowKit
set_option maxRecDepth 100000

/-- The slice v reads as xs. -/
def Rd (w : World) (v : Value) (xs : List Int) : Prop :=
  ∃ A cap, v = .slice A xs.length cap ∧ xs.length ≤ maxLen ∧ ∀ j, j < xs.length → ∃ g off, A = some ⟨g, off, none⟩ ∧ w.cell? ⟨g, off + j, none⟩ = some (.int .i64 (xs.getD j 0))
/-- The slice v is the beginning of a block of its own, or nil, and reads as xs. -/
def Ints (w : World) (v : Value) (xs : List Int) : Prop := w.ownsRow 0 3 1 v xs.length (xs.map (Value.int .i64))
/-- None of the blocks l is the slice's. -/
def Away (v : Value) (l : List Nat) : Prop := ∀ k, k ∈ l → v.ownBlock ≠ some k
theorem Rd.else {w w' : World} {v : Value} {xs : List Int} {l : List Nat} (h : Rd w v xs) (u : Else l w w') (a : Away v l) : Rd w' v xs := by
  obtain ⟨A, cap, rfl, hm, hc⟩ := h
  refine ⟨A, cap, rfl, hm, fun j hj => ?_⟩
  obtain ⟨g, off, rfl, h1⟩ := hc j hj
  exact ⟨g, off, rfl, u.kept h1 (fun hk => a _ hk rfl)⟩
theorem Rd.up {w w' : World} {v : Value} {xs : List Int} (h : Rd w v xs) (u : Up w w') : Rd w' v xs := by
  obtain ⟨A, cap, rfl, hm, hc⟩ := h
  refine ⟨A, cap, rfl, hm, fun j hj => ?_⟩
  obtain ⟨g, off, rfl, h1⟩ := hc j hj
  exact ⟨g, off, rfl, u.kept h1⟩
theorem Rd.nil (w : World) : Rd w (.slice none 0 0) [] := ⟨none, 0, rfl, Nat.zero_le _, fun j hj => absurd hj (by simp)⟩
theorem Ints.nil (w : World) : Ints w (.slice none 0 0) [] := ⟨rfl, .inl ⟨rfl, rfl⟩⟩
theorem Ints.up {w w' : World} {v : Value} {xs : List Int} (h : Ints w v xs) (u : Up w w') : Ints w' v xs := own_up h u
theorem Ints.else {w w' : World} {v : Value} {xs : List Int} {l : List Nat} (h : Ints w v xs) (u : Else l w w') (a : Away v l) : Ints w' v xs := by
  refine ⟨h.1, ?_⟩
  rcases h.2 with h | ⟨g, cap, cur, rfl, hb, hh, r⟩
  · exact .inl h
  · exact .inr ⟨g, cap, cur, rfl, hb, u.heap hh (fun hk => a _ hk rfl), r⟩
theorem Ints.grown {w w' : World} {v : Value} {xs : List Int} {row : Option Nat} (h : Ints w v xs) (u : w.grownBy w' row) (a : row ≠ v.ownBlock ∨ v.ownBlock = none) : Ints w' v xs := by
  refine ⟨h.1, ?_⟩
  rcases h.2 with h | ⟨g, cap, cur, rfl, hb, hh, r⟩
  · exact .inl h
  · refine .inr ⟨g, cap, cur, rfl, hb, (u.block g (some_lt hh) ?_).trans hh, r⟩
    rcases a with a | a
    · intro e; exact a (by rw [← e]; rfl)
    · simp [Value.ownBlock] at a
theorem Ints.rd {w : World} {v : Value} {xs : List Int} (h : Ints w v xs) : Rd w v xs := by
  rcases h.2 with ⟨rfl, h0⟩ | ⟨g, cap, cur, rfl, hb, hh, hn, hm, hs, ht⟩
  · have : xs = [] := List.length_eq_zero_iff.1 h0
    subst this; exact Rd.nil w
  · refine ⟨_, _, rfl, Nat.le_trans hn hm, fun j hj => ⟨g, 0, rfl, ?_⟩⟩
    obtain ⟨g', e, hc⟩ := own_cell h hj
    injection e with e; injection e with e; subst e
    rw [Nat.zero_add, hc]
    simp [List.getD, hj]
theorem Ints.lt {w : World} {v : Value} {xs : List Int} (h : Ints w v xs) {k : Nat} (hk : v.ownBlock = some k) : k < w.heap.size := by
  rcases h.2 with ⟨rfl, _⟩ | ⟨g, cap, cur, rfl, _, hh, _⟩
  · simp [Value.ownBlock] at hk
  · simp [Value.ownBlock] at hk; subst hk; exact some_lt hh
theorem Ints.slice {w : World} {v : Value} {xs : List Int} (h : Ints w v xs) : ∃ A cap, v = .slice A xs.length cap := own_slice h
theorem Rd.slice {w : World} {v : Value} {xs : List Int} (h : Rd w v xs) : ∃ A cap, v = .slice A xs.length cap := by
  obtain ⟨A, cap, e, _⟩ := h; exact ⟨A, cap, e⟩
theorem Rd.len {w : World} {v : Value} {xs : List Int} (h : Rd w v xs) : xs.length ≤ maxLen := by
  obtain ⟨A, cap, _, e, _⟩ := h; exact e
theorem Rd.cell {w : World} {A : Option Addr} {cap n : Nat} {xs : List Int} (h : Rd w (.slice A n cap) xs) {j : Nat} (hj : j < xs.length) : ∃ g off, A = some ⟨g, off, none⟩ ∧ w.cell? ⟨g, off + j, none⟩ = some (.int .i64 (xs.getD j 0)) := by
  obtain ⟨A', cap', e, _, hc⟩ := h
  injection e with e1; subst e1; exact hc j hj

theorem take_get {xs : List Int} {k : Nat} (h : k < xs.length) : xs.take (k + 1) = xs.take k ++ [xs.getD k 0] := by
  rw [List.take_add_one]; simp [List.getD, h]
theorem get_mem {xs : List Int} {k : Nat} (h : k < xs.length) : xs.getD k 0 ∈ xs := by simp [List.getD, h]
theorem info_int : (Try.prog.info? 3).map (fun i => (i.zero, i.size, i.bytes)) = some (some (.int .i64 0), 1, 8) := by kernel_rfl
theorem one_ints (xs : List Int) : ∀ u ∈ xs.map (Value.int .i64), u.oneCell' = true := by
  intro u hu; obtain ⟨x, _, rfl⟩ := List.mem_map.1 hu; rfl
theorem Rd.news {w w' : World} {b off n cap : Nat} {xs : List Int} (h : Rd w (.slice (some ⟨b, off, none⟩) n cap) xs) (u : Up w w') : ∀ j x, (xs.map (Value.int .i64))[j]? = some x → w'.cell? ((⟨b, off, none⟩ : Addr).add j) = some x := by
  intro j x hx
  have hj : j < xs.length := by
    rcases Nat.lt_or_ge j xs.length with h | h
    · exact h
    · rw [List.getElem?_eq_none (by simpa using h)] at hx; cases hx
  obtain ⟨g, o, e, hc⟩ := h.cell hj
  injection e with e; injection e with e1 e2; subst e1 e2
  have hadd : (⟨b, off, none⟩ : Addr).add j = ⟨b, off + j, none⟩ := by
    unfold Addr.add; split
    · subst_vars; rfl
    · rfl
  rw [hadd, u.kept hc]
  simp [hj] at hx
  rw [← hx]
  simp [List.getD, hj]
theorem own_empty (w : World) : (w.alloc (.cells #[] 3)).ownsRow w.heap.size 3 1 (.slice (some ⟨w.heap.size, 0, none⟩) 0 0) 0 [] :=
  ⟨rfl, .inr ⟨w.heap.size, 0, #[], rfl, Nat.le_refl _, heap_alloc_new w _, Nat.le_refl _, Nat.zero_le _, rfl, rfl⟩⟩
theorem ints_of_own {w : World} {base n : Nat} {v : Value} {vs : List Value} {xs : List Int} (h : w.ownsRow base 3 1 v n vs) (hn : n = xs.length) (hv : vs = xs.map (Value.int .i64)) : Ints w v xs := by
  subst hn hv
  refine ⟨h.1, h.2.imp id fun ⟨g, cap, cur, hv, hb, r⟩ => ⟨g, cap, cur, hv, Nat.zero_le _, r⟩⟩
set_option maxHeartbeats 1000000 in
theorem clone_nil (w : World) : Calls Try.prog 22 #[.slice none 0 0] w fun e w' => e = .returned (.slice none 0 0) ∧ w = w' := by
  have q1 : ∀ (w : World) (a : Option Addr) (n c n' c' : Nat), (binOp .eql 28 (.slice a n c) (.slice none n' c')).run Try.prog w = .ok (.bool a.isNone) w := fun w a n c n' c' => Lib.run_eql_slice_nil w _ _ a n c n' c' Try.underlying28
  go_enter Try.func22, Try.ntmps22
  go_wp2_with fail
  go_ret
  exact ⟨rfl, rfl⟩
set_option maxHeartbeats 1000000 in
theorem clone_in {w : World} {v : Value} {xs : List Int} (R : Rd w v xs) (h : xs ≠ []) (hl : xs.length ≤ 8192) :
    Calls Try.prog 22 #[v] w fun e w' => ∃ b cap, e = .returned (.slice (some ⟨b, 0, none⟩) xs.length cap) ∧ Ints w' (.slice (some ⟨b, 0, none⟩) xs.length cap) xs ∧ w.heap.size ≤ b ∧ b < w'.heap.size ∧ Up w w' := by
  have hp := List.length_pos_iff.2 h
  obtain ⟨A, cap, rfl⟩ := R.slice
  obtain ⟨b, off, rfl, _⟩ := R.cell hp
  have HN := Lib.hid (R.news (Up.alloc w (.cells #[] 3)))
  have q1 : ∀ (w : World) (a : Option Addr) (n c n' c' : Nat), (binOp .eql 28 (.slice a n c) (.slice none n' c')).run Try.prog w = .ok (.bool a.isNone) w := fun w a n c n' c' => Lib.run_eql_slice_nil w _ _ a n c n' c' Try.underlying28
  obtain ⟨i9, hi, hz0, hz1, hz2⟩ := info_parts info_int
  have g63 : 0 + xs.length ≤ maxLen := by unfold maxLen; omega
  have gby : (0 + xs.length) * 8 ≤ 140737488355328 := by omega
  have gba : w.heap.size ≤ (w.alloc (.cells #[] 3)).heap.size := by simp
  have hb0 : (w.alloc (.cells #[] 3)).heap.size = w.heap.size + 1 := by simp
  clear R h
  go_enter Try.func22, Try.ntmps22
  go_wp2_with (at_builtin; refine wpList_append_lies _ rfl _ _ 28 rfl w.heap.size 3 i9 (.int .i64 0) 1 8 Try.underlying28 hi hz0 hz1 hz2 rfl (by decide) (.slice (some ⟨w.heap.size, 0, none⟩) 0 0) 0 [] rfl (own_empty w) ⟨b, off, none⟩ xs.length cap (xs.map (Value.int .i64)) rfl (by simp) HN.out (one_ints xs) hp g63 gby gba _ hb0 ?_; intro gg cap2 wD hownD hgrow hat hltD; have HO := Lib.hid hownD; have HG := Lib.hid hgrow; clear hownD hgrow)
  go_ret
  refine ⟨gg, cap2, by simp, by simpa using ints_of_own HO.out (by simp) (by simp), ?_, hltD, ((Up.refl _).then_alloc _).grown HG.out (fun k hk => by simp [Value.ownBlock] at hk; omega)⟩
  rcases hat with h | h
  · simp [Value.ownBlock] at h; omega
  · omega
/-- A slice in a new block, or nil. -/
def Fresh (w : World) (v : Value) : Prop := ∀ k, v.ownBlock = some k → w.heap.size ≤ k
theorem fresh_nil (w : World) : Fresh w (.slice none 0 0) := fun k hk => by simp [Value.ownBlock] at hk
section
variable {w w1 w' : World} {v v2 : Value} {xs ys : List Int}
theorem run_app (ty : TypeId) (J : Ints w v xs) (R : Rd w v2 ys) (hl : xs.length + ys.length ≤ 8192) :
    ∃ v' w', (Builtin.append_ #[28, 28] ty #[v, v2]).run Try.prog w = .ok v' w' ∧ Ints w' v' (xs ++ ys) ∧ w.grownBy w' v.ownBlock ∧ (v'.ownBlock = v.ownBlock ∨ v'.ownBlock = some w.heap.size) := by
  obtain ⟨i9, hi, hz0, hz1, hz2⟩ := info_parts info_int
  by_cases h0 : ys = []
  · subst h0
    obtain ⟨A, cap, rfl⟩ := R.slice
    refine ⟨v, w, ?_, by simpa using J, ⟨rfl, rfl, rfl, Nat.le_refl _, fun _ _ _ => rfl⟩, .inl rfl⟩
    have hf : (Builtin.firstCells i9.size 0 (.slice A 0 cap)).run Try.prog w = .ok #[] w := by
      cases A with
      | none => exact run_firstCells_none _ _ _ _ _
      | some a => exact run_firstCells_some (P := Try.prog) w i9.size 0 a 0 cap [] (by simp) (by simp)
    rcases J.2 with ⟨rfl, _⟩ | ⟨g, c, cur, rfl, _, hg, hc, _⟩
    · simp [Builtin.append_, run_underlying Try.underlying28, sizeOf, typeInfo, hi, Builtin.lenOf, hf]
    · have hc2 : xs.length ≤ c := hc
      simp [Builtin.append_, run_underlying Try.underlying28, sizeOf, typeInfo, hi, Builtin.lenOf, hf, hc2, storeCells]
  · have hp := List.length_pos_iff.2 h0
    obtain ⟨A, cap, rfl⟩ := R.slice
    obtain ⟨b, off, rfl, _⟩ := R.cell hp
    obtain ⟨g, c, w', hr, h2, h3, h4, h5⟩ := run_append_lies (P := Try.prog) w 28 ty 0 3 i9 (.int .i64 0) 1 8 Try.underlying28 hi hz0 hz1 hz2 rfl (by decide) v xs.length (xs.map (Value.int .i64)) J ⟨b, off, none⟩ ys.length cap (ys.map (Value.int .i64)) (by simp) (R.news (Up.refl _)) (one_ints ys) hp (by unfold maxLen; omega) (by omega) (Nat.zero_le _) _ rfl
    refine ⟨_, w', hr, ints_of_own h2 (by simp) (by simp), h3, ?_⟩
    rcases h4 with h | h
    · exact .inl h.symm
    · exact .inr (by rw [h]; rfl)
theorem wp_app {o : Oper} {a : Act} {K : Act → World → Prop} {Q : Exit → Act → World → Prop} (s x : Operand)
    (ho : o.op = .call { callee := .builtin .append, args := #[s, x], argTypes := #[28, 28] }) (hs : a.eval s = v) (hx : a.eval x = v2) (J : Ints w v xs) (R : Rd w v2 ys) (hl : xs.length + ys.length ≤ 8192)
    (h : ∀ v' w', Ints w' v' (xs ++ ys) → w.grownBy w' v.ownBlock → (v'.ownBlock = v.ownBlock ∨ v'.ownBlock = some w.heap.size) → K (a.put o.dst v') w') : o.wp Try.prog a w K Q := by
  obtain ⟨v', w', hr, h2, h3, h4⟩ := run_app o.type J R hl
  unfold Oper.wp execOp
  simp only [ho, resolve, invoke, builtin, Sem.run_bind, Sem.run_pure, Result.andThen_ok, List.map_toArray, List.map_cons, List.map_nil, hs, hx, hr]
  exact h v' w' h2 h3 h4
theorem wpList_app {ops : Array Oper} {rest : List Oper} {o : Oper} {a : Act} {Q : Exit → Act → World → Prop} (hgd : o.guard = none) (s x : Operand)
    (ho : o.op = .call { callee := .builtin .append, args := #[s, x], argTypes := #[28, 28] }) (hs : a.eval s = v) (hx : a.eval x = v2) (J : Ints w v xs) (R : Rd w v2 ys) (hl : xs.length + ys.length ≤ 8192)
    (h : ∀ v' w', Ints w' v' (xs ++ ys) → w.grownBy w' v.ownBlock → (v'.ownBlock = v.ownBlock ∨ v'.ownBlock = some w.heap.size) → wpList Try.prog ops Q rest (a.put o.dst v') w') : wpList Try.prog ops Q (o :: rest) a w :=
  wpList_plain hgd fun _ hK => wp_app s x ho hs hx J R hl fun v' w' h2 h3 h4 => hK _ _ (h v' w' h2 h3 h4)
/-- The same where the operation stands behind a guard that is met. -/
theorem wpList_appG {ops : Array Oper} {rest : List Oper} {o : Oper} {a : Act} {Q : Exit → Act → World → Prop} (hgd : Region.wanted o (yielded ops a.tmps) = true) (s x : Operand)
    (ho : o.op = .call { callee := .builtin .append, args := #[s, x], argTypes := #[28, 28] }) (hs : a.eval s = v) (hx : a.eval x = v2) (J : Ints w v xs) (R : Rd w v2 ys) (hl : xs.length + ys.length ≤ 8192)
    (h : ∀ v' w', Ints w' v' (xs ++ ys) → w.grownBy w' v.ownBlock → (v'.ownBlock = v.ownBlock ∨ v'.ownBlock = some w.heap.size) → wpList Try.prog ops Q rest (a.put o.dst v') w') : wpList Try.prog ops Q (o :: rest) a w :=
  wpList_step fun K hK => by
    rw [hgd, if_pos rfl]
    exact wp_app s x ho hs hx J R hl fun v' w' h2 h3 h4 => hK _ _ (h v' w' h2 h3 h4)
theorem ints_new (w : World) (a : Int) : Ints (w.alloc (.cells #[.int .i64 a] 3)) (.slice (some ⟨w.heap.size, 0, none⟩) 1 1) [a] :=
  ⟨rfl, .inr ⟨w.heap.size, 1, _, rfl, Nat.zero_le _, heap_alloc_new w _, Nat.le_refl _, by unfold maxLen; omega, rfl, rfl⟩⟩
/-- Whatever it was appended to: what was there is there, but for the row itself. -/
theorem up_app {a : World} (u : Up a w) (hg : w.grownBy w' v.ownBlock) (F : Fresh a v) : Up a w' := u.grown hg fun k hk => F k hk
theorem fresh_app {a : World} {v' : Value} (F : Fresh a v) (u : a.heap.size ≤ w.heap.size) (h : v'.ownBlock = v.ownBlock ∨ v'.ownBlock = some w.heap.size) : Fresh a v' := by
  intro k hk
  rcases h with h | h
  · exact F k (h ▸ hk)
  · rw [hk] at h; injection h with h; omega

theorem rd_one (w : World) (a : Int) : Rd (w.alloc (.cells #[.int .i64 a] 3)) (.slice (some ⟨w.heap.size, 0, none⟩) 1 1) [a] := by
  refine ⟨_, _, rfl, by unfold maxLen; simp, fun j hj => ⟨_, _, rfl, ?_⟩⟩
  simp at hj; subst hj
  exact cell_new rfl rfl
theorem rd_two (w : World) (a b : Int) : Rd (w.alloc (.cells #[.int .i64 a, .int .i64 b] 3)) (.slice (some ⟨w.heap.size, 0, none⟩) 2 2) [a, b] := by
  refine ⟨_, _, rfl, by unfold maxLen; simp, fun j hj => ⟨_, _, rfl, ?_⟩⟩
  have : j = 0 ∨ j = 1 := by simp at hj; omega
  rcases this with rfl | rfl
  · exact cell_new rfl rfl
  · exact cell_new rfl rfl
set_option maxHeartbeats 2000000 in
theorem same_in {xs : List Int} (R : Rd w v xs) (R2 : Rd w v2 xs) : Calls Try.prog 15 #[v, v2] w fun e w' => e = .returned (.bool true) ∧ Up w w' := by
  obtain ⟨A, cap, rfl⟩ := R.slice
  obtain ⟨A2, cap2, rfl⟩ := R2.slice
  have hm := R.len
  unfold maxLen at hm
  have HR := Lib.hid R
  have HR2 := Lib.hid R2
  clear R R2
  go_enter Try.func15, Try.ntmps15
  go_wp2_with fail
  go_loopw [5] (fun i wr => ∃ k : Nat, k ≤ xs.length ∧ i = .int .i64 k ∧ Up w wr) (fun i _ => xs.length - (intOf i).toNat)
  case atStart => exact ⟨0, Nat.zero_le _, rfl, Up.refl _⟩
  case round =>
    obtain ⟨k, hk, rfl, hu⟩ := hrel
    have HU := Lib.hid hu
    clear hu
    by_cases hlt : k < xs.length
    · obtain ⟨b, off, rfl, hc⟩ := HR.out.cell hlt
      obtain ⟨b2, off2, rfl, hc2⟩ := HR2.out.cell hlt
      replace hc := HU.out.kept hc
      replace hc2 := HU.out.kept hc2
      obtain ⟨y, hy⟩ : ∃ y, xs.getD k 0 = y := ⟨_, rfl⟩
      rw [hy] at hc hc2
      have i0 : (0 : Int) ≤ (k : Int) := Int.natCast_nonneg _
      have i1 : (k : Int) < (xs.length : Int) := by omega
      clear hy
      go_upto_region 6 with fail
      go_quiet (fail)
      go_wp2_with fail
      go_roundw
      case rel => exact ⟨k + 1, by omega, by go_num, HU.out.then_drewN nq⟩
      case measure => simp [intOf]; omega
    · have i1 : ¬ (k : Int) < (xs.length : Int) := by omega
      go_wp2_with fail
      go_ret
      exact ⟨rfl, HU.out⟩
end
end Go.Proofs.Ythmaibbminnplaa
