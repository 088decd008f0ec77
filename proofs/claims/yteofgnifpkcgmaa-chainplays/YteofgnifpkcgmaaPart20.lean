/-
  Texts beneath ChainPlays, part 20: Part3.
-/
import Derived.Test.YteofgnifpkcgmaaPart19
import Derived.BigQuiet
import Derived.Deep.RegionHeld3
import Derived.Deep.DrawnRows
import Derived.StillTailTactics
import Derived.Deep.DeepCutAuto
import Derived.Laws.EntriesVeiled
import Derived.OwnWalk
import Derived.Deep.AppendLies
import Derived.Lib.SliceRun
import Derived.WalkKit
import Derived.Deep.RegionLaw
/-
  Texts beneath ChainPlays, part 3: QuietUp, CellsMore, IntRow, Put, IntMore.
-/
/-
  A region that draws its order, whose operations only read and whose callees may make memory of their own: one walk in the order of the text, at the class of the worlds in which of W nothing has turned. No program is named here.
-/
namespace Go.Proofs.Yteofgnifpkcgmaa
open Go.RowKit

/-- The worlds in which of W nothing has turned. -/
structure UpOf (W : World) where
  w : World
  up : Up W w
instance (W : World) : Nonempty (UpOf W) := ⟨⟨W, Up.refl W⟩⟩
theorem up_drew (w : World) : Up w w.drew := Up.drewN w 1
theorem calls_up {P : Program} {f : FuncId} {args : Array Value} {v : Ending} {W w : World} (u : Up W w) (h : Calls P f args w fun e w' => e = v ∧ Up w w') : Calls P f args w fun e w' => e = v ∧ Up W w' :=
  h.mono fun _ _ ⟨he, hu⟩ => ⟨he, u.trans hu⟩
/-- The beginning. -/
theorem wp_region_up {P : Program} {id : Nat} {Q : Exit → Act → World → Prop} {a : Act} {W w : World} {l : List Oper} (u : Up W w) (hm : P.follows .mixedOrders = true) (hB : Region.lexB .any l.toArray = true)
    (h : wpQuiet P l.toArray (fun w' => ∃ x : UpOf W, w' = x.w) (fun a' => ∀ w', (∃ x : UpOf W, w' = x.w) → Q .normal a' w') l a) : (Code.region id l.toArray true).wp P Q a w :=
  wp_region_quiet (C := fun w' => ∃ x : UpOf W, w' = x.w) hm hB ⟨⟨w.drew, u.trans (up_drew _)⟩, rfl⟩ (by simpa using h)
/-- A region that only reads, its world written out. -/
theorem wp_region_one {P : Program} {id : Nat} {Q : Exit → Act → World → Prop} {a : Act} {w : World} {l : List Oper} (hm : P.follows .mixedOrders = true) (hB : Region.lexB .any l.toArray = true)
    (h : wpQuiet P l.toArray (fun w' => w' = w.drew) (fun a' => ∀ w', w' = w.drew → Q .normal a' w') l a) : (Code.region id l.toArray true).wp P Q a w :=
  wp_region_quiet (C := fun w' => w' = w.drew) hm hB rfl (by simpa using h)
/-- A contract, at the class. -/
theorem up_class {P : Program} {f : FuncId} {args : Array Value} {v : Value} {W : World} {x : UpOf W} (h : Calls P f args x.w fun e w' => e = .returned v ∧ Up x.w w') :
    Calls P f args x.w fun e w' => e = .returned v ∧ ∃ y : UpOf W, w' = y.w :=
  h.mono fun _ w' ⟨he, hu⟩ => ⟨he, ⟨w', x.up.trans hu⟩, rfl⟩
theorem same_class {P : Program} {f : FuncId} {args : Array Value} {v : Value} {W : World} {x : UpOf W} (h : Calls P f args x.w fun e w' => e = .returned v ∧ x.w = w') :
    Calls P f args x.w fun e w' => e = .returned v ∧ ∃ y : UpOf W, w' = y.w :=
  h.mono fun _ _ ⟨he, hu⟩ => ⟨he, x, hu.symm⟩
theorem class_first {P : Program} {f : FuncId} {args : Array Value} {v : Value} {W : World} (h : Calls P f args W fun e w' => e = .returned v ∧ Up W w') :
    Calls P f args W fun e w' => e = .returned v ∧ ∃ y : UpOf W, w' = y.w :=
  h.mono fun _ w' ⟨he, hu⟩ => ⟨he, ⟨w', hu⟩, rfl⟩
theorem cell_class {W : World} {p : Addr} {v : Value} (h : W.cell? p = some v) (x : UpOf W) : x.w.cell? p = some v := x.up.kept h
end Go.Proofs.Yteofgnifpkcgmaa

/-
  What every package over cells uses: words in each cell (St.Ok), method values, stores elsewhere.
-/
namespace Go.Proofs.Yteofgnifpkcgmaa
open Go.RowKit
open W64
set_option maxRecDepth 100000

/-- Each cell holds a word. -/
def St.Ok (s : St) : Prop := ∀ i, 0 ≤ s.get i ∧ s.get i < 18446744073709551616
theorem getD_set {xs : List Int} {i j : Nat} {v : Int} : (xs.set i v).getD j 0 = if i = j ∧ j < xs.length then v else xs.getD j 0 := by
  unfold List.getD
  by_cases e : i = j
  · subst e
    by_cases h : i < xs.length
    · simp [h]
    · simp [h]
  · simp [e]
theorem St.Ok.lay {s : St} (h : s.Ok) (i : Int) {v : Int} (h0 : 0 ≤ v) (h1 : v < 18446744073709551616) : (s.lay i v).Ok := by
  intro j
  unfold St.lay St.get
  dsimp only
  rw [getD_set]
  split
  · exact ⟨h0, h1⟩
  · exact h j
theorem St.Ok.hit {s : St} (h : s.Ok) (k i : Int) {v : Int} (y : Bool) (h0 : 0 ≤ v) (h1 : v < 18446744073709551616) : (s.hit k i v y).Ok := by
  have := h.lay i h0 h1
  exact this
theorem St.Ok.zero (n : Nat) : (St.zero n).Ok := by
  intro i
  unfold St.get St.zero
  dsimp only
  have : (List.replicate n (0 : Int)).getD i.toNat 0 = 0 := by
    unfold List.getD
    by_cases h : i.toNat < n <;> simp [h]
  rw [this]; decide
instance (s : St) (i : Int) : Decidable (s.has i) := inferInstanceAs (Decidable (_ ∧ _))
theorem hit_len (s : St) (k i v : Int) (y : Bool) : (s.hit k i v y).xs.length = s.xs.length := by simp [St.hit]
theorem lay_len (s : St) (i v : Int) : (s.lay i v).xs.length = s.xs.length := by simp [St.lay]
/-- A method value of the machine at b. -/
def meth (f : FuncId) (b : Nat) : Value := .func (.func f) #[.pointer (some ⟨b, 0, none⟩)] #[]
theorem run_func (fn : Fn) (first cap : Array Value) (w : World) : (Instr.makeFunc fn first cap).run Try.prog w = .ok (.func fn first cap) w := rfl
theorem run_eql_func (f : Fn) (x y : Array Value) (w : World) : (binOp .eql 1 (.func f x y) .nilFunc).run Try.prog w = .ok (.bool false) w := by rfl
theorem run_eql_nilFunc (w : World) : (binOp .eql 1 .nilFunc .nilFunc).run Try.prog w = .ok (.bool true) w := by rfl
theorem kept_set {w : World} {p a : Addr} {v x : Value} (h : p ≠ a) (hc : w.cell? a = some x) : (w.setCell p v).cell? a = some x := by rw [World.cell?_setCell_other (h := h)]; exact hc
theorem ad_ne {a b i j : Nat} (h : a ≠ b) : (⟨a, i, none⟩ : Addr) ≠ ⟨b, j, none⟩ := fun e => h (congrArg Addr.block e)
theorem off_ne {a i j : Nat} (h : i ≠ j) : (⟨a, i, none⟩ : Addr) ≠ ⟨a, j, none⟩ := fun e => h (congrArg Addr.off e)
theorem not_three {a b c d : Nat} (h1 : a ≠ b) (h2 : a ≠ c) (h3 : a ≠ d) : a ∉ [b, c, d] := by simp [h1, h2, h3]
theorem else_self {w a : World} {t : List Nat} {b o : Nat} {u : Value} (h : Else t w a) (hb : b ∈ t) : Else t w (a.setCell ⟨b, o, none⟩ u) := h.set (.inl hb) u
theorem Else.wide {p g : Nat} {a c : World} (h : Else [p, g] a c) (b : Nat) : Else [b, p, g] a c := h.more (by intro k hk; simp at hk ⊢; exact .inr hk)
theorem Else.wide1 {b : Nat} {a c : World} (h : Else [b] a c) (p g : Nat) : Else [b, p, g] a c := h.more (by intro k hk; simp at hk ⊢; exact .inl hk)
theorem read_xs (s : St) (k i : Int) (y : Bool) : (s.hit k i (s.get i) y).xs = s.xs := by
  unfold St.hit St.get
  dsimp only
  refine List.ext_getElem? fun j => ?_
  rw [List.getElem?_set]
  split
  · rename_i e; subst e
    split
    · rename_i h; simp [List.getD, h]
    · rename_i h; simp at h; simp [h]
  · rfl
end Go.Proofs.Yteofgnifpkcgmaa

/-
  Slices of ints: one that is read (Rd), one that is the beginning of a block of its own, or nil (Ints); append, slices.Clone, the reference's SameInts. (Layers without a stack; the stack's texts have the same in Ints, Stack1, App, Lists.)
-/
namespace Go.Proofs.Yteofgnifpkcgmaa
open Go.RowKit
set_option maxRecDepth 100000

/-- The slice v reads as xs. -/
def Rd (w : World) (v : Value) (xs : List Int) : Prop :=
  ∃ A cap, v = .slice A xs.length cap ∧ xs.length ≤ maxLen ∧ ∀ j, j < xs.length → ∃ g off, A = some ⟨g, off, none⟩ ∧ w.cell? ⟨g, off + j, none⟩ = some (.int .i64 (xs.getD j 0))
/-- The slice v is the beginning of a block of its own, or nil, and reads as xs. -/
def Ints (w : World) (v : Value) (xs : List Int) : Prop := w.ownsRow 0 3 1 v xs.length (xs.map (Value.int .i64))
/-- None of the blocks l is the slice's. -/
def Away (v : Value) (l : List Nat) : Prop := ∀ k, k ∈ l → v.ownBlock ≠ some k
theorem Rd.else {w w' : World} {v : Value} {xs : List Int} {l : List Nat} (h : Rd w v xs) (u : Else l w w') (a : Away v l) : Rd w' v xs := by
  obtain ⟨A, cap, rfl, hm, hc⟩ := h
  refine ⟨A, cap, rfl, hm, fun j hj => ?_⟩
  obtain ⟨g, off, rfl, h1⟩ := hc j hj
  exact ⟨g, off, rfl, u.kept h1 (fun hk => a _ hk rfl)⟩
theorem Rd.up {w w' : World} {v : Value} {xs : List Int} (h : Rd w v xs) (u : Up w w') : Rd w' v xs := by
  obtain ⟨A, cap, rfl, hm, hc⟩ := h
  refine ⟨A, cap, rfl, hm, fun j hj => ?_⟩
  obtain ⟨g, off, rfl, h1⟩ := hc j hj
  exact ⟨g, off, rfl, u.kept h1⟩
theorem Rd.nil (w : World) : Rd w (.slice none 0 0) [] := ⟨none, 0, rfl, Nat.zero_le _, fun j hj => absurd hj (by simp)⟩
theorem Ints.nil (w : World) : Ints w (.slice none 0 0) [] := ⟨rfl, .inl ⟨rfl, rfl⟩⟩
theorem Ints.up {w w' : World} {v : Value} {xs : List Int} (h : Ints w v xs) (u : Up w w') : Ints w' v xs := own_up h u
theorem Ints.else {w w' : World} {v : Value} {xs : List Int} {l : List Nat} (h : Ints w v xs) (u : Else l w w') (a : Away v l) : Ints w' v xs := by
  refine ⟨h.1, ?_⟩
  rcases h.2 with h | ⟨g, cap, cur, rfl, hb, hh, r⟩
  · exact .inl h
  · exact .inr ⟨g, cap, cur, rfl, hb, u.heap hh (fun hk => a _ hk rfl), r⟩
theorem Ints.grown {w w' : World} {v : Value} {xs : List Int} {row : Option Nat} (h : Ints w v xs) (u : w.grownBy w' row) (a : row ≠ v.ownBlock ∨ v.ownBlock = none) : Ints w' v xs := by
  refine ⟨h.1, ?_⟩
  rcases h.2 with h | ⟨g, cap, cur, rfl, hb, hh, r⟩
  · exact .inl h
  · refine .inr ⟨g, cap, cur, rfl, hb, (u.block g (some_lt hh) ?_).trans hh, r⟩
    rcases a with a | a
    · intro e; exact a (by rw [← e]; rfl)
    · simp [Value.ownBlock] at a
theorem Ints.rd {w : World} {v : Value} {xs : List Int} (h : Ints w v xs) : Rd w v xs := by
  rcases h.2 with ⟨rfl, h0⟩ | ⟨g, cap, cur, rfl, hb, hh, hn, hm, hs, ht⟩
  · have : xs = [] := List.length_eq_zero_iff.1 h0
    subst this; exact Rd.nil w
  · refine ⟨_, _, rfl, Nat.le_trans hn hm, fun j hj => ⟨g, 0, rfl, ?_⟩⟩
    obtain ⟨g', e, hc⟩ := own_cell h hj
    injection e with e; injection e with e; subst e
    rw [Nat.zero_add, hc]
    simp [List.getD, hj]
theorem Ints.lt {w : World} {v : Value} {xs : List Int} (h : Ints w v xs) {k : Nat} (hk : v.ownBlock = some k) : k < w.heap.size := by
  rcases h.2 with ⟨rfl, _⟩ | ⟨g, cap, cur, rfl, _, hh, _⟩
  · simp [Value.ownBlock] at hk
  · simp [Value.ownBlock] at hk; subst hk; exact some_lt hh
theorem Ints.slice {w : World} {v : Value} {xs : List Int} (h : Ints w v xs) : ∃ A cap, v = .slice A xs.length cap := own_slice h
theorem Rd.slice {w : World} {v : Value} {xs : List Int} (h : Rd w v xs) : ∃ A cap, v = .slice A xs.length cap := by
  obtain ⟨A, cap, e, _⟩ := h; exact ⟨A, cap, e⟩
theorem Rd.len {w : World} {v : Value} {xs : List Int} (h : Rd w v xs) : xs.length ≤ maxLen := by
  obtain ⟨A, cap, _, e, _⟩ := h; exact e
theorem Rd.cell {w : World} {A : Option Addr} {cap n : Nat} {xs : List Int} (h : Rd w (.slice A n cap) xs) {j : Nat} (hj : j < xs.length) : ∃ g off, A = some ⟨g, off, none⟩ ∧ w.cell? ⟨g, off + j, none⟩ = some (.int .i64 (xs.getD j 0)) := by
  obtain ⟨A', cap', e, _, hc⟩ := h
  injection e with e1; subst e1; exact hc j hj

theorem take_get {xs : List Int} {k : Nat} (h : k < xs.length) : xs.take (k + 1) = xs.take k ++ [xs.getD k 0] := by
  rw [List.take_add_one]; simp [List.getD, h]
theorem get_mem {xs : List Int} {k : Nat} (h : k < xs.length) : xs.getD k 0 ∈ xs := by simp [List.getD, h]
theorem info_int : (Try.prog.info? 3).map (fun i => (i.zero, i.size, i.bytes)) = some (some (.int .i64 0), 1, 8) := by kernel_rfl
theorem one_ints (xs : List Int) : ∀ u ∈ xs.map (Value.int .i64), u.oneCell' = true := by
  intro u hu; obtain ⟨x, _, rfl⟩ := List.mem_map.1 hu; rfl
theorem Rd.news {w w' : World} {b off n cap : Nat} {xs : List Int} (h : Rd w (.slice (some ⟨b, off, none⟩) n cap) xs) (u : Up w w') : ∀ j x, (xs.map (Value.int .i64))[j]? = some x → w'.cell? ((⟨b, off, none⟩ : Addr).add j) = some x := by
  intro j x hx
  have hj : j < xs.length := by
    rcases Nat.lt_or_ge j xs.length with h | h
    · exact h
    · rw [List.getElem?_eq_none (by simpa using h)] at hx; cases hx
  obtain ⟨g, o, e, hc⟩ := h.cell hj
  injection e with e; injection e with e1 e2; subst e1 e2
  have hadd : (⟨b, off, none⟩ : Addr).add j = ⟨b, off + j, none⟩ := by
    unfold Addr.add; split
    · subst_vars; rfl
    · rfl
  rw [hadd, u.kept hc]
  simp [hj] at hx
  rw [← hx]
  simp [List.getD, hj]
theorem own_empty (w : World) : (w.alloc (.cells #[] 3)).ownsRow w.heap.size 3 1 (.slice (some ⟨w.heap.size, 0, none⟩) 0 0) 0 [] :=
  ⟨rfl, .inr ⟨w.heap.size, 0, #[], rfl, Nat.le_refl _, heap_alloc_new w _, Nat.le_refl _, Nat.zero_le _, rfl, rfl⟩⟩
theorem ints_of_own {w : World} {base n : Nat} {v : Value} {vs : List Value} {xs : List Int} (h : w.ownsRow base 3 1 v n vs) (hn : n = xs.length) (hv : vs = xs.map (Value.int .i64)) : Ints w v xs := by
  subst hn hv
  refine ⟨h.1, h.2.imp id fun ⟨g, cap, cur, hv, hb, r⟩ => ⟨g, cap, cur, hv, Nat.zero_le _, r⟩⟩
set_option maxHeartbeats 1000000 in
theorem clone_nil (w : World) : Calls Try.prog 68 #[.slice none 0 0] w fun e w' => e = .returned (.slice none 0 0) ∧ w = w' := by
  have q1 : ∀ (w : World) (a : Option Addr) (n c n' c' : Nat), (binOp .eql 53 (.slice a n c) (.slice none n' c')).run Try.prog w = .ok (.bool a.isNone) w := fun w a n c n' c' => Lib.run_eql_slice_nil w _ _ a n c n' c' Try.underlying53
  go_enter Try.func68, Try.ntmps68
  go_wp2_with fail
  go_ret
  exact ⟨rfl, rfl⟩
set_option maxHeartbeats 1000000 in
theorem clone_in {w : World} {v : Value} {xs : List Int} (R : Rd w v xs) (h : xs ≠ []) (hl : xs.length ≤ 8192) :
    Calls Try.prog 68 #[v] w fun e w' => ∃ b cap, e = .returned (.slice (some ⟨b, 0, none⟩) xs.length cap) ∧ Ints w' (.slice (some ⟨b, 0, none⟩) xs.length cap) xs ∧ w.heap.size ≤ b ∧ b < w'.heap.size ∧ Up w w' := by
  have hp := List.length_pos_iff.2 h
  obtain ⟨A, cap, rfl⟩ := R.slice
  obtain ⟨b, off, rfl, _⟩ := R.cell hp
  have HN := Lib.hid (R.news (Up.alloc w (.cells #[] 3)))
  have q1 : ∀ (w : World) (a : Option Addr) (n c n' c' : Nat), (binOp .eql 53 (.slice a n c) (.slice none n' c')).run Try.prog w = .ok (.bool a.isNone) w := fun w a n c n' c' => Lib.run_eql_slice_nil w _ _ a n c n' c' Try.underlying53
  obtain ⟨i9, hi, hz0, hz1, hz2⟩ := info_parts info_int
  have g63 : 0 + xs.length ≤ maxLen := by unfold maxLen; omega
  have gby : (0 + xs.length) * 8 ≤ 140737488355328 := by omega
  have gba : w.heap.size ≤ (w.alloc (.cells #[] 3)).heap.size := by simp
  have hb0 : (w.alloc (.cells #[] 3)).heap.size = w.heap.size + 1 := by simp
  clear R h
  go_enter Try.func68, Try.ntmps68
  go_wp2_with (at_builtin; refine wpList_append_lies _ rfl _ _ 53 rfl w.heap.size 3 i9 (.int .i64 0) 1 8 Try.underlying53 hi hz0 hz1 hz2 rfl (by decide) (.slice (some ⟨w.heap.size, 0, none⟩) 0 0) 0 [] rfl (own_empty w) ⟨b, off, none⟩ xs.length cap (xs.map (Value.int .i64)) rfl (by simp) HN.out (one_ints xs) hp g63 gby gba _ hb0 ?_; intro gg cap2 wD hownD hgrow hat hltD; have HO := Lib.hid hownD; have HG := Lib.hid hgrow; clear hownD hgrow)
  go_ret
  refine ⟨gg, cap2, by simp, by simpa using ints_of_own HO.out (by simp) (by simp), ?_, hltD, ((Up.refl _).then_alloc _).grown HG.out (fun k hk => by simp [Value.ownBlock] at hk; omega)⟩
  rcases hat with h | h
  · simp [Value.ownBlock] at h; omega
  · omega
/-- A slice in a new block, or nil. -/
def Fresh (w : World) (v : Value) : Prop := ∀ k, v.ownBlock = some k → w.heap.size ≤ k
theorem fresh_nil (w : World) : Fresh w (.slice none 0 0) := fun k hk => by simp [Value.ownBlock] at hk
section
variable {w w1 w' : World} {v v2 : Value} {xs ys : List Int}
theorem run_app (ty : TypeId) (J : Ints w v xs) (R : Rd w v2 ys) (hl : xs.length + ys.length ≤ 8192) :
    ∃ v' w', (Builtin.append_ #[53, 53] ty #[v, v2]).run Try.prog w = .ok v' w' ∧ Ints w' v' (xs ++ ys) ∧ w.grownBy w' v.ownBlock ∧ (v'.ownBlock = v.ownBlock ∨ v'.ownBlock = some w.heap.size) := by
  obtain ⟨i9, hi, hz0, hz1, hz2⟩ := info_parts info_int
  by_cases h0 : ys = []
  · subst h0
    obtain ⟨A, cap, rfl⟩ := R.slice
    refine ⟨v, w, ?_, by simpa using J, ⟨rfl, rfl, rfl, Nat.le_refl _, fun _ _ _ => rfl⟩, .inl rfl⟩
    have hf : (Builtin.firstCells i9.size 0 (.slice A 0 cap)).run Try.prog w = .ok #[] w := by
      cases A with
      | none => exact run_firstCells_none _ _ _ _ _
      | some a => exact run_firstCells_some (P := Try.prog) w i9.size 0 a 0 cap [] (by simp) (by simp)
    rcases J.2 with ⟨rfl, _⟩ | ⟨g, c, cur, rfl, _, hg, hc, _⟩
    · simp [Builtin.append_, run_underlying Try.underlying53, sizeOf, typeInfo, hi, Builtin.lenOf, hf]
    · have hc2 : xs.length ≤ c := hc
      simp [Builtin.append_, run_underlying Try.underlying53, sizeOf, typeInfo, hi, Builtin.lenOf, hf, hc2, storeCells]
  · have hp := List.length_pos_iff.2 h0
    obtain ⟨A, cap, rfl⟩ := R.slice
    obtain ⟨b, off, rfl, _⟩ := R.cell hp
    obtain ⟨g, c, w', hr, h2, h3, h4, h5⟩ := run_append_lies (P := Try.prog) w 53 ty 0 3 i9 (.int .i64 0) 1 8 Try.underlying53 hi hz0 hz1 hz2 rfl (by decide) v xs.length (xs.map (Value.int .i64)) J ⟨b, off, none⟩ ys.length cap (ys.map (Value.int .i64)) (by simp) (R.news (Up.refl _)) (one_ints ys) hp (by unfold maxLen; omega) (by omega) (Nat.zero_le _) _ rfl
    refine ⟨_, w', hr, ints_of_own h2 (by simp) (by simp), h3, ?_⟩
    rcases h4 with h | h
    · exact .inl h.symm
    · exact .inr (by rw [h]; rfl)
theorem wp_app {o : Oper} {a : Act} {K : Act → World → Prop} {Q : Exit → Act → World → Prop} (s x : Operand)
    (ho : o.op = .call { callee := .builtin .append, args := #[s, x], argTypes := #[53, 53] }) (hs : a.eval s = v) (hx : a.eval x = v2) (J : Ints w v xs) (R : Rd w v2 ys) (hl : xs.length + ys.length ≤ 8192)
    (h : ∀ v' w', Ints w' v' (xs ++ ys) → w.grownBy w' v.ownBlock → (v'.ownBlock = v.ownBlock ∨ v'.ownBlock = some w.heap.size) → K (a.put o.dst v') w') : o.wp Try.prog a w K Q := by
  obtain ⟨v', w', hr, h2, h3, h4⟩ := run_app o.type J R hl
  unfold Oper.wp execOp
  simp only [ho, resolve, invoke, builtin, Sem.run_bind, Sem.run_pure, Result.andThen_ok, List.map_toArray, List.map_cons, List.map_nil, hs, hx, hr]
  exact h v' w' h2 h3 h4
theorem wpList_app {ops : Array Oper} {rest : List Oper} {o : Oper} {a : Act} {Q : Exit → Act → World → Prop} (hgd : o.guard = none) (s x : Operand)
    (ho : o.op = .call { callee := .builtin .append, args := #[s, x], argTypes := #[53, 53] }) (hs : a.eval s = v) (hx : a.eval x = v2) (J : Ints w v xs) (R : Rd w v2 ys) (hl : xs.length + ys.length ≤ 8192)
    (h : ∀ v' w', Ints w' v' (xs ++ ys) → w.grownBy w' v.ownBlock → (v'.ownBlock = v.ownBlock ∨ v'.ownBlock = some w.heap.size) → wpList Try.prog ops Q rest (a.put o.dst v') w') : wpList Try.prog ops Q (o :: rest) a w :=
  wpList_plain hgd fun _ hK => wp_app s x ho hs hx J R hl fun v' w' h2 h3 h4 => hK _ _ (h v' w' h2 h3 h4)
/-- The same where the operation stands behind a guard that is met. -/
theorem wpList_appG {ops : Array Oper} {rest : List Oper} {o : Oper} {a : Act} {Q : Exit → Act → World → Prop} (hgd : Region.wanted o (yielded ops a.tmps) = true) (s x : Operand)
    (ho : o.op = .call { callee := .builtin .append, args := #[s, x], argTypes := #[53, 53] }) (hs : a.eval s = v) (hx : a.eval x = v2) (J : Ints w v xs) (R : Rd w v2 ys) (hl : xs.length + ys.length ≤ 8192)
    (h : ∀ v' w', Ints w' v' (xs ++ ys) → w.grownBy w' v.ownBlock → (v'.ownBlock = v.ownBlock ∨ v'.ownBlock = some w.heap.size) → wpList Try.prog ops Q rest (a.put o.dst v') w') : wpList Try.prog ops Q (o :: rest) a w :=
  wpList_step fun K hK => by
    rw [hgd, if_pos rfl]
    exact wp_app s x ho hs hx J R hl fun v' w' h2 h3 h4 => hK _ _ (h v' w' h2 h3 h4)
theorem ints_new (w : World) (a : Int) : Ints (w.alloc (.cells #[.int .i64 a] 3)) (.slice (some ⟨w.heap.size, 0, none⟩) 1 1) [a] :=
  ⟨rfl, .inr ⟨w.heap.size, 1, _, rfl, Nat.zero_le _, heap_alloc_new w _, Nat.le_refl _, by unfold maxLen; omega, rfl, rfl⟩⟩
/-- Whatever it was appended to: what was there is there, but for the row itself. -/
theorem up_app {a : World} (u : Up a w) (hg : w.grownBy w' v.ownBlock) (F : Fresh a v) : Up a w' := u.grown hg fun k hk => F k hk
theorem fresh_app {a : World} {v' : Value} (F : Fresh a v) (u : a.heap.size ≤ w.heap.size) (h : v'.ownBlock = v.ownBlock ∨ v'.ownBlock = some w.heap.size) : Fresh a v' := by
  intro k hk
  rcases h with h | h
  · exact F k (h ▸ hk)
  · rw [hk] at h; injection h with h; omega

theorem rd_one (w : World) (a : Int) : Rd (w.alloc (.cells #[.int .i64 a] 3)) (.slice (some ⟨w.heap.size, 0, none⟩) 1 1) [a] := by
  refine ⟨_, _, rfl, by unfold maxLen; simp, fun j hj => ⟨_, _, rfl, ?_⟩⟩
  simp at hj; subst hj
  exact cell_new rfl rfl
theorem rd_two (w : World) (a b : Int) : Rd (w.alloc (.cells #[.int .i64 a, .int .i64 b] 3)) (.slice (some ⟨w.heap.size, 0, none⟩) 2 2) [a, b] := by
  refine ⟨_, _, rfl, by unfold maxLen; simp, fun j hj => ⟨_, _, rfl, ?_⟩⟩
  have : j = 0 ∨ j = 1 := by simp at hj; omega
  rcases this with rfl | rfl
  · exact cell_new rfl rfl
  · exact cell_new rfl rfl
set_option maxHeartbeats 2000000 in
theorem same_in {xs : List Int} (R : Rd w v xs) (R2 : Rd w v2 xs) : Calls Try.prog 18 #[v, v2] w fun e w' => e = .returned (.bool true) ∧ Up w w' := by
  obtain ⟨A, cap, rfl⟩ := R.slice
  obtain ⟨A2, cap2, rfl⟩ := R2.slice
  have hm := R.len
  unfold maxLen at hm
  have HR := Lib.hid R
  have HR2 := Lib.hid R2
  clear R R2
  go_enter Try.func18, Try.ntmps18
  go_wp2_with fail
  go_loopw [5] (fun i wr => ∃ k : Nat, k ≤ xs.length ∧ i = .int .i64 k ∧ Up w wr) (fun i _ => xs.length - (intOf i).toNat)
  case atStart => exact ⟨0, Nat.zero_le _, rfl, Up.refl _⟩
  case round =>
    obtain ⟨k, hk, rfl, hu⟩ := hrel
    have HU := Lib.hid hu
    clear hu
    by_cases hlt : k < xs.length
    · obtain ⟨b, off, rfl, hc⟩ := HR.out.cell hlt
      obtain ⟨b2, off2, rfl, hc2⟩ := HR2.out.cell hlt
      replace hc := HU.out.kept hc
      replace hc2 := HU.out.kept hc2
      obtain ⟨y, hy⟩ : ∃ y, xs.getD k 0 = y := ⟨_, rfl⟩
      rw [hy] at hc hc2
      have i0 : (0 : Int) ≤ (k : Int) := Int.natCast_nonneg _
      have i1 : (k : Int) < (xs.length : Int) := by omega
      clear hy
      go_upto_region 6 with fail
      go_quiet (fail)
      go_wp2_with fail
      go_roundw
      case rel => exact ⟨k + 1, by omega, by go_num, HU.out.then_drewN nq⟩
      case measure => simp [intOf]; omega
    · have i1 : ¬ (k : Int) < (xs.length : Int) := by omega
      go_wp2_with fail
      go_ret
      exact ⟨rfl, HU.out⟩
end
end Go.Proofs.Yteofgnifpkcgmaa

/-
  A function turned at one place. No program is named here.
-/
namespace Go.Proofs.Yteofgnifpkcgmaa
def put {α : Type} (f : Nat → α) (k : Nat) (x : α) : Nat → α := fun j => if j = k then x else f j
@[simp] theorem put_same {α : Type} (f : Nat → α) (k : Nat) (x : α) : put f k x k = x := by simp [put]
theorem put_other {α : Type} (f : Nat → α) {j k : Nat} (x : α) (h : j ≠ k) : put f k x j = f j := by simp [put, h]
theorem put_put {α : Type} (f : Nat → α) (k : Nat) (a b : α) : put (put f k a) k b = put f k b := by funext j; unfold put; split <;> rfl
theorem three {P : Nat → Prop} (h0 : P 0) (h1 : P 1) (h2 : P 2) : ∀ k, k < 3 → P k := by
  intro k hk
  have : k = 0 ∨ k = 1 ∨ k = 2 := by omega
  rcases this with rfl | rfl | rfl <;> assumption
end Go.Proofs.Yteofgnifpkcgmaa

/-
  More of slices of ints: slices.Clone of whatever list, append as a step of a region that draws, shapes, blocks of an object (Next, less). (Behind IntRow.)
-/
namespace Go.Proofs.Yteofgnifpkcgmaa
open Go.RowKit
set_option maxRecDepth 100000

/-- Blocks of before, or new ones. -/
def Next (w : World) (F F' : List Nat) : Prop := ∀ b, b ∈ F' → b ∈ F ∨ w.heap.size ≤ b
section
variable {w w1 w2 w' : World} {n : Nat} {F : List Nat} {v : Value} {a : Int} {xs : List Int}
theorem Next.refl (w : World) (F : List Nat) : Next w F F := fun _ h => .inl h
theorem Next.trans {F' F'' : List Nat} (h : Next w F F') (k : Next w' F' F'') (u : w.heap.size ≤ w'.heap.size) : Next w F F'' := fun b hb => (k b hb).elim (h b) (fun h => .inr (by omega))
set_option maxHeartbeats 1000000 in
theorem clone_any {xs : List Int} (R : Rd w v xs) (hl : xs.length ≤ 8192) :
    Calls Try.prog 68 #[v] w fun e w' => ∃ v', e = .returned v' ∧ Ints w' v' xs ∧ Fresh w v' ∧ Up w w' := by
  obtain ⟨A, cap, rfl⟩ := R.slice
  have q1 : ∀ (w : World) (a : Option Addr) (n c n' c' : Nat), (binOp .eql 53 (.slice a n c) (.slice none n' c')).run Try.prog w = .ok (.bool a.isNone) w := fun w a n c n' c' => Lib.run_eql_slice_nil w _ _ a n c n' c' Try.underlying53
  cases A with
  | none =>
    have e : xs = [] := by
      rcases xs with _ | ⟨x, xs⟩
      · rfl
      · obtain ⟨g, off, h, _⟩ := R.cell (j := 0) (by simp); cases h
    subst e
    clear R
    go_enter Try.func68, Try.ntmps68
    go_wp2_with fail
    go_ret
    exact ⟨_, rfl, Ints.nil _, fresh_nil _, Up.refl _⟩
  | some a =>
    have HR := Lib.hid R
    clear R
    have HO := Lib.hid (ints_of_own (xs := []) (own_empty w) rfl rfl)
    go_enter Try.func68, Try.ntmps68
    go_wp2_with (at_builtin; refine wpList_app rfl _ _ rfl rfl rfl HO.out (HR.out.up (Up.alloc _ _)) (by simpa using hl) ?_; intro v5 w5 J5 G5 A5; have HJ5 := Lib.hid J5; have HG5 := Lib.hid G5; have HA5 := Lib.hid A5; clear J5 G5 A5)
    go_ret
    have f0 : Fresh w (.slice (some ⟨w.heap.size, 0, none⟩) 0 0) := fun k hk => by simp [Value.ownBlock] at hk; omega
    exact ⟨_, rfl, by simpa using HJ5.out, fresh_app f0 (by simp) HA5.out, up_app (Up.alloc _ _) HG5.out f0⟩
/-- The blocks without one slice's. -/
def less (F : List Nat) (v : Value) : List Nat := F.filter (fun b => decide (v.ownBlock ≠ some b))
theorem mem_less {b : Nat} : b ∈ less F v ↔ b ∈ F ∧ v.ownBlock ≠ some b := by simp [less]
theorem fresh_of_le {a b : World} (Fr : Fresh b v) (h : a.heap.size ≤ b.heap.size) : Fresh a v := fun k hk => Nat.le_trans h (Fr k hk)
theorem shapeI {xs : List Int} (h : Ints w v xs) : ∃ A N c, v = .slice A N c := by obtain ⟨A, c, e⟩ := h.slice; exact ⟨A, _, c, e⟩
theorem Else.grown {s : List Nat} {a : World} {row : Option Nat} (h : Else s a w) (g : w.grownBy w' row) (hr : ∀ k, row = some k → k ∈ s ∨ a.heap.size ≤ k) : Else s a w' :=
  ⟨g.os.trans h.os, g.tape.trans h.tape, g.output.trans h.output, Nat.le_trans h.size g.size, fun k hk hs => (g.block k (Nat.lt_of_lt_of_le hk h.size) (fun e => by rcases hr k e.symm with h' | h'; exact hs h'; omega)).trans (h.block k hk hs)⟩
def nOf : Value → Nat
  | .slice _ n _ => n
  | _ => 0
theorem Ints.nOf {xs : List Int} (h : Ints w v xs) : nOf v = xs.length := by obtain ⟨A, c, rfl⟩ := h.slice; rfl
theorem Ints.one {c : Nat} {A : Option Addr} (J : Ints w (.slice A n c) [a]) : ∃ g, A = some ⟨g, 0, none⟩ ∧ w.cell? ⟨g, 0, none⟩ = some (.int .i64 a) := by
  obtain ⟨A', c', e⟩ := J.slice
  injection e with e1 e2 e3
  subst e1 e2 e3
  obtain ⟨g, h1, h2⟩ := own_cell (j := 0) J (by simp)
  exact ⟨g, h1, by simpa using h2⟩
theorem away_next {F' : List Nat} (A : Away v F) (N : Next w F F') (J : Ints w v xs) : Away v F' := fun b hb e => by
  rcases N b hb with h | h
  · exact A b h e
  · have := J.lt e; omega
/-- append as one step of a region that draws its order. -/
theorem step_app {v2 : Value} {xs ys : List Int} {ops : Array Oper} {o : Oper} {a : Act} {K : Act → World → Prop} {Q : Exit → Act → World → Prop} {E : Prop} (hgd : o.guard = none) (s x : Operand)
    (ho : o.op = .call { callee := .builtin .append, args := #[s, x], argTypes := #[53, 53] }) (hs : a.eval s = v) (hx : a.eval x = v2) (J : Ints w v xs) (Rd2 : Rd w v2 ys) (hl : xs.length + ys.length ≤ 8192)
    (h : ∀ v' w', Ints w' v' (xs ++ ys) → w.grownBy w' v.ownBlock → (v'.ownBlock = v.ownBlock ∨ v'.ownBlock = some w.heap.size) → K (a.put o.dst v') w') : if Region.wanted o (yielded ops a.tmps) = true then Oper.wp Try.prog o a w K Q else E := by
  have hw : Region.wanted o (yielded ops a.tmps) = true := by simp [Region.wanted, hgd]
  rw [if_pos hw]
  exact wp_app s x ho hs hx J Rd2 hl h
theorem wf_bounds {x : Int} (h : (Lit.int .i64 x).wf = true) : -9223372036854775808 ≤ x ∧ x < 9223372036854775808 := by
  simp [Lit.wf, IntKind.min, IntKind.max, IntKind.bits, IntKind.signed] at h; omega
theorem row_wf {w : World} {a : Option Addr} {len cap : Nat} {zs : List Int} (h : IsRow .i64 w a len cap zs) {k : Nat} (hk : k < len) : (Lit.int .i64 (zs.getD k 0)).wf = true := by
  rcases h with ⟨_, rfl, _, _⟩ | ⟨x, _, hl, hm, hz, _, hw⟩
  · omega
  · exact hw _ (get_mem (by omega))
end
end Go.Proofs.Yteofgnifpkcgmaa
