/-
  Texts beneath RootsPlay, part 29: RtGot, HeadQuiet, HeadHeld, RtGoes1.
-/
import Derived.Test.YtalglhgngedjoaaGreatPart28
import Derived.Deep.RegionHeld3
/-
  RootsPlay: what both machines tell behind a step; what is left of the table.
-/
namespace Go.Proofs.YtalglhgngedjoaaGreat
open Go.RowKit
open W64
set_option maxRecDepth 100000
def PlayOut (W : World) (l : Lie) (n bH D T : Nat) (w' : World) : Prop := ∃ m V o L s, Play W w' l n bH D T m V o L s ∧ ∀ u, u < 4 → (m u).live n T
abbrev TurnP (W : World) (l : Lie) (n bH D T u : Nat) (m : Nat → PM) (V : Nat → Value) (o L : Nat → List Nat) (M' : PM) (w2 : World) : Prop := ∃ s' o', Play W w2 l n bH D (T + 1) (updA m u M') V (updA o u o') L s'
theorem Cr.go_gen {n r0 : Nat} {xs : List Int} {K : Cr} (h2 : K.i ≤ 2) (hf : (K.go n r0 xs).fin = true) (hc : (K.go n r0 xs).code = 0) : pcrGen (K.go n r0 xs) = (K.go n r0 xs).gen := by
  revert hf hc
  unfold Cr.go
  split
  · split
    · intro hf; simp at hf
    · split
      · intro _ hc; simp at hc
      · intro hf; simp at hf
  · split
    · intro hf; simp at hf
    · intro _ _
      have : K.i = 2 := by omega
      unfold pcrGen; simp [this]
section
variable {W w w1 w2 w3 w6 w7 w' : World} {l : Lie} {n bH D T T' u k k' b rb : Nat} {m : Nat → PM} {V V' : Nat → Value} {o L : Nat → List Nat} {s s' : St} {M : PM} {xs : List Int} {P : World → Prop}
/-! ### Create -/
theorem CrGot.done {K : Cr} (Q : CrGot P b rb l n K w) (U : Up w w') {y : Bool} (h : K.fin = y) : Calls Tryz.prog 31 #[.pointer (some ⟨b, 0, none⟩)] w' fun e w'' => e = .returned (.bool y) ∧ w' = w'' := by
  obtain ⟨pb, v, M⟩ := Q.prog; exact crDone (M.up U) h
theorem CrGot.point {K : Cr} (Q : CrGot P b rb l n K w) (U : Up w w') {y : Nat} (h : K.point = y) : Calls Tryz.prog 33 #[.pointer (some ⟨b, 0, none⟩)] w' fun e w'' => e = .returned (.int .i64 (y : Int)) ∧ w' = w'' := by
  obtain ⟨pb, v, M⟩ := Q.prog; exact crPoint (M.up U) h
theorem CrGot.code {K : Cr} (Q : CrGot P b rb l n K w) (U : Up w w') {y : Int} (h : K.code = y) : Calls Tryz.prog 32 #[.pointer (some ⟨b, 0, none⟩)] w' fun e w'' => e = .returned (.int .i64 y) ∧ w' = w'' := by
  obtain ⟨pb, v, M⟩ := Q.prog; exact crCode (M.up U) h
theorem CrGot.region {K : Cr} (Q : CrGot P b rb l n K w) (U : Up w w') (hf : K.fin = true) {sl : Nat} {y : Int} (h1 : K.slot = sl) (h2 : pcrGen K = y) : Calls Tryz.prog 30 #[.pointer (some ⟨b, 0, none⟩)] w' fun e w'' => e = .returned (.tuple #[.int .i64 (sl : Int), .int .i64 y]) ∧ Up w' w'' := by
  obtain ⟨pb, v, M⟩ := Q.prog; exact crRegion (M.up U) hf h1 h2
theorem CrGot.cells {K : Cr} (Q : CrGot P b rb l n K w) (U : Up w w') {pt sl : Nat} {gen cd : Int} {y : Bool} (h1 : K.point = pt) (h2 : K.slot = sl) (h3 : K.gen = gen) (h4 : K.code = cd) (h5 : K.fin = y) :
    w'.cell? ⟨rb, 4, none⟩ = some (.int .i64 (pt : Int)) ∧ w'.cell? ⟨rb, 5, none⟩ = some (.int .i64 (sl : Int)) ∧ w'.cell? ⟨rb, 6, none⟩ = some (.int .i64 gen) ∧ w'.cell? ⟨rb, 12, none⟩ = some (.int .i64 cd) ∧ w'.cell? ⟨rb, 13, none⟩ = some (.bool y) := by
  obtain ⟨rpb, rv, M⟩ := Q.ref
  subst h1 h2 h3 h4 h5
  have R := M.row.up U
  exact ⟨R.cell rfl, R.cell rfl, R.cell rfl, R.cell rfl, R.cell rfl⟩
/-! ### End -/
theorem EdGot.done {K : Ed} (Q : EdGot P b rb l K w) (U : Up w w') {y : Bool} (h : K.fin = y) : Calls Tryz.prog 40 #[.pointer (some ⟨b, 0, none⟩)] w' fun e w'' => e = .returned (.bool y) ∧ w' = w'' := edDone (Q.prog.up U) h
theorem EdGot.point {K : Ed} (Q : EdGot P b rb l K w) (U : Up w w') {y : Nat} (h : K.point = y) : Calls Tryz.prog 41 #[.pointer (some ⟨b, 0, none⟩)] w' fun e w'' => e = .returned (.int .i64 (y : Int)) ∧ w' = w'' := edPoint (Q.prog.up U) h
theorem EdGot.chunk {K : Ed} (Q : EdGot P b rb l K w) (U : Up w w') {y : Int} (h : K.chunk = y) : Calls Tryz.prog 42 #[.pointer (some ⟨b, 0, none⟩)] w' fun e w'' => e = .returned (.int .i64 y) ∧ w' = w'' := edChunk (Q.prog.up U) h
theorem EdGot.code {K : Ed} (Q : EdGot P b rb l K w) (U : Up w w') {y : Int} (h : K.code = y) : Calls Tryz.prog 43 #[.pointer (some ⟨b, 0, none⟩)] w' fun e w'' => e = .returned (.int .i64 y) ∧ w' = w'' := edCode (Q.prog.up U) h
theorem EdGot.cells {K : Ed} (Q : EdGot P b rb l K w) (U : Up w w') {pt sl : Nat} {ck cd : Int} {y : Bool} (h1 : K.slot = sl) (h2 : K.point = pt) (h3 : K.chunk = ck) (h4 : K.code = cd) (h5 : K.fin = y) :
    w'.cell? ⟨rb, 1, none⟩ = some (.int .i64 (sl : Int)) ∧ w'.cell? ⟨rb, 5, none⟩ = some (.int .i64 (pt : Int)) ∧ w'.cell? ⟨rb, 6, none⟩ = some (.int .i64 ck) ∧ w'.cell? ⟨rb, 8, none⟩ = some (.int .i64 cd) ∧ w'.cell? ⟨rb, 9, none⟩ = some (.bool y) := by
  subst h1 h2 h3 h4 h5
  have R := Q.ref.row.up U
  exact ⟨R.cell rfl, R.cell rfl, R.cell rfl, R.cell rfl, R.cell rfl⟩
/-! ### Look -/
theorem LkGot.done {K : Lk} (Q : LkGot P b rb l K w) (U : Up w w') {y : Bool} (h : K.fin = y) : Calls Tryz.prog 19 #[.pointer (some ⟨b, 0, none⟩)] w' fun e w'' => e = .returned (.bool y) ∧ w' = w'' := lkDone (Q.prog.up U) h
theorem LkGot.code {K : Lk} (Q : LkGot P b rb l K w) (U : Up w w') {y : Int} (h : K.code = y) : Calls Tryz.prog 20 #[.pointer (some ⟨b, 0, none⟩)] w' fun e w'' => e = .returned (.int .i64 y) ∧ w' = w'' := lkCode (Q.prog.up U) h
theorem LkGot.off {K : Lk} (Q : LkGot P b rb l K w) (U : Up w w') {y : Int} (h : K.off = y) : Calls Tryz.prog 45 #[.pointer (some ⟨b, 0, none⟩)] w' fun e w'' => e = .returned (.int .i64 y) ∧ w' = w'' := lkOff (Q.prog.up U) h
theorem LkGot.cells {K : Lk} (Q : LkGot P b rb l K w) (U : Up w w') {off cd : Int} (h1 : K.off = off) (h2 : K.code = cd) :
    w'.cell? ⟨rb, 3, none⟩ = some (.int .i64 off) ∧ w'.cell? ⟨rb, 4, none⟩ = some (.int .i64 cd) := by
  subst h1 h2
  have R := Q.ref.row.up U
  exact ⟨R.cell rfl, R.cell rfl⟩
theorem Lk.go_fin (r0 : Nat) (xs : List Int) (K : Lk) : (K.go r0 xs).fin = true := by unfold Lk.go; split <;> rfl
/-! ### Push -/
theorem PuGot.done {U : Pu} (Q : PuGot P b rb l n U w) (G : Up w w') {y : Bool} (h : U.fin = y) : Calls Tryz.prog 48 #[.pointer (some ⟨b, 0, none⟩)] w' fun e w'' => e = .returned (.bool y) ∧ w' = w'' := by
  obtain ⟨v, M⟩ := Q.prog; exact pushDone_to (M.up G) h
theorem PuGot.cells {U : Pu} (Q : PuGot P b rb l n U w) (G : Up w w') {y : Bool} (h : U.fin = y) : w'.cell? ⟨rb, 4, none⟩ = some (.bool y) := by
  obtain ⟨rv, M⟩ := Q.ref
  subst h
  exact (M.at_.top.up G).cell rfl
/-! ### The table -/
theorem tab_cell (A : Whole w bH 51 (row36 V)) (hk : k < 36) {x : Value} (e : V k = x) : w.cell? ⟨bH, k, none⟩ = some x := by
  subst e; exact A.cell (row36_get hk)
theorem TurnP.tab (H : TurnP W l n bH D T u m V o L M w) (U : Up w w') (hk : k < 36) {x : Value} (e : V k = x) : w'.cell? ⟨bH, k, none⟩ = some x ∧ w'.frozen? ⟨bH, k, none⟩ = false := by
  obtain ⟨s', o', X⟩ := H
  exact ⟨tab_cell (X.arr.up U) hk e, (X.arr.up U).frozen k⟩
theorem TurnP.out (H : TurnP W l n bH D T u m V o L M w) (Y : ∀ v, v < 4 → (m v).live n T) (U : Up w w') (hM : M.live n (T + 3)) : PlayOut W l n bH D (T + 3) w' := by
  obtain ⟨s', o', X⟩ := H
  exact ⟨_, _, _, _, _, (X.ups U).more (by omega), live_upd Y (by omega) hM⟩
theorem TurnP.strike (H : TurnP W l n bH D T u m V o L M w) (Y : ∀ v, v < 4 → (m v).live n T) (hu : u < 4) (U : Up w w') (hk : k = u ∨ k = 4 + u ∨ k = 8 + u ∨ k = 12 + u) (h0 : k = u ∨ V u = .pointer none) (h1 : k = 4 + u ∨ V (4 + u) = .pointer none) (h2 : k = 8 + u ∨ V (8 + u) = .pointer none) (h3 : k = 12 + u ∨ V (12 + u) = .pointer none) :
    PlayOut W l n bH D (T + 3) (w'.setCell ⟨bH, k, none⟩ (.pointer none)) := by
  obtain ⟨s', o', X⟩ := H
  have X3 := ((X.ups U).strike hu hk h0 h1 h2 h3).more (show T + 1 + 1 ≤ T + 3 by omega)
  rw [updA_updA] at X3
  exact ⟨_, _, _, _, _, X3, live_upd Y (by omega) trivial⟩
theorem TurnP.slice (H : TurnP W l n bH D T u m V o L M w) (hu : u < 4) (U : Up w w') {v : Value} (e : V (32 + u) = v) : Ints w' v (I (L u)) := by
  obtain ⟨s', o', X⟩ := H
  subst e
  exact (X.sl u hu).up U
theorem MW.congr32 {ol : List Nat} (h : MW w l n u V M ol) (e : ∀ k, k < 32 → V' k = V k) (hu : u < 4) : MW w l n u V' M ol := by
  have e0 := e u (by omega)
  have e1 := e (4 + u) (by omega)
  have e2 := e (8 + u) (by omega)
  have e3 := e (12 + u) (by omega)
  have e4 := e (16 + u) (by omega)
  have e5 := e (20 + u) (by omega)
  have e6 := e (24 + u) (by omega)
  have e7 := e (28 + u) (by omega)
  cases h with
  | idle h0 h1 h2 h3 => exact .idle (e0.trans h0) (e1.trans h1) (e2.trans h2) (e3.trans h3)
  | cr h0 h1 h2 h3 h4 P R s => exact .cr (e0.trans h0) (e1.trans h1) (e2.trans h2) (e3.trans h3) (e4.trans h4) P R s
  | ed h0 h1 h2 h3 h4 P R => exact .ed (e0.trans h0) (e1.trans h1) (e2.trans h2) (e3.trans h3) (e5.trans h4) P R
  | lk h0 h1 h2 h3 h4 P R => exact .lk (e0.trans h0) (e1.trans h1) (e2.trans h2) (e3.trans h3) (e6.trans h4) P R
  | pu h0 h1 h2 h3 h4 P R s => exact .pu (e0.trans h0) (e1.trans h1) (e2.trans h2) (e3.trans h3) (e7.trans h4) P R s
theorem Play.out (X : Play W w l n bH D T m V o L s) (hu : u < 4) : bH ∉ (V (32 + u)).ownBlock.toList := by
  intro h
  have := (X.lo u hu bH (List.mem_append_right _ h)).1
  have := X.ord
  omega
/-- A slot more in one's slice. -/
theorem Play.app (X : Play W w l n bH D T m V o L s) (hu : u < 4) (U : Up w w6) {v7 : Value} {sl : Nat} (J7 : Ints w7 v7 (I (L u) ++ [(sl : Int)])) (G7 : w6.grownBy w7 (V (32 + u)).ownBlock) (A7 : v7.ownBlock = (V (32 + u)).ownBlock ∨ v7.ownBlock = some w6.heap.size) (hs : sl < n) :
    (w7.cell? ⟨bH, 32 + u, none⟩ = some (V (32 + u)) ∧ w7.frozen? ⟨bH, 32 + u, none⟩ = false) ∧ Play W (w7.setCell ⟨bH, 32 + u, none⟩ v7) l n bH D (T + 1) m (updA V (32 + u) v7) o (updA L u (L u ++ [sl])) s := by
  have hord := X.ord
  have E7 : Else ((V (32 + u)).ownBlock.toList ++ [bH]) w w7 := (Else.of_up U).trans ((Else.of_grow G7).more (fun k hk => List.mem_append_left _ hk))
  have A : Whole w7 bH 51 (row36 V) := ((Else.of_up (s := []) U).trans (Else.of_up (Up.refl _))).whole X.arr (by simp) |>.up (Up.refl _) |> fun B => (Else.of_grow G7).whole B (X.out hu)
  have E8 : Else ((V (32 + u)).ownBlock.toList ++ [bH]) w (w7.setCell ⟨bH, 32 + u, none⟩ v7) := E7.set (.inl (by simp)) _
  have B := A.set (32 + u) v7
  rw [row36_set] at B
  have z6 := U.size
  have z7 := E7.size
  have z8 := E8.size
  have hz : (w7.setCell ⟨bH, 32 + u, none⟩ v7).heap.size = w7.heap.size := by simp
  have Q := X.arr
  have R := X.roo
  have S := X.rw_
  have e32 : updA V (32 + u) v7 (32 + u) = v7 := updA_same _ _ _
  have off : ∀ k, k < D → k ≠ bH → k ∉ (V (32 + u)).ownBlock.toList ++ [bH] := fun k h1 h2 hm => by
    rcases List.mem_append.1 hm with hm | hm
    · have := (X.lo u hu k (List.mem_append_right _ hm)).1; omega
    · simp at hm; exact h2 hm
  have nb := J7.nb A (by decide)
  refine ⟨⟨tab_cell A (by omega) rfl, A.frozen _⟩, ?_⟩
  have key := X.turn hu (V' := updA V (32 + u) v7) (M' := m u) (o' := o u) (L' := L u ++ [sl]) E8 (fun k hk => ?_)
    (R.else E8 ⟨off _ hord.1.1 (Q.ne_type R.env.mem.top (by decide)).symm, off _ hord.1.2.1 (Q.ne_type R.env.mem.row (by decide)).symm, off _ hord.1.2.2.2 (Q.ne_type R.env.stk (by decide)).symm, off _ hord.1.2.2.1 (Q.ne_type R.obj (by decide)).symm⟩)
    (S.else E8 ⟨off _ hord.2.1.1 (Q.ne_type S.env.mem.top (by decide)).symm, off _ hord.2.1.2.1 (Q.ne_type S.env.mem.row (by decide)).symm, off _ hord.2.1.2.2.2 (Q.ne_type S.env.stk (by decide)).symm, off _ hord.2.1.2.2.1 (Q.ne_type S.obj (by decide)).symm⟩)
    B (fun k hk => updA_ne _ _ (by omega)) (((X.mw u hu).else E8 (fun k hk hm => ?_)).congr32 (fun k hk => updA_ne _ _ (by omega)) hu) ?_ (fun x hx => ?_) (by simp; have := X.ll u hu; omega) (fun k hk => ?_) (fun k hk hko => ?_)
  · rw [updA_id, updA_id] at key; exact key
  · rcases List.mem_append.1 hk with hk | hk
    · exact .inl (List.mem_append_right _ hk)
    · simp at hk; simp [hk]
  · have := (X.hi hu hk).1
    rcases List.mem_append.1 hm with hm | hm
    · exact X.sh u hu k (by simpa using hm) hk
    · simp at hm; omega
  · rw [e32]
    have := J7.else (l := [bH]) ((Else.refl [bH] w7).set (p := ⟨bH, 32 + u, none⟩) (.inl (by simp)) v7) (fun j hj he => by simp at hj; exact nb (hj ▸ he))
    rw [show I (L u ++ [sl]) = I (L u) ++ [(sl : Int)] by simp [I]]
    exact this
  · rcases List.mem_append.1 hx with h | h
    · exact X.ls u hu x h
    · simp at h; omega
  · rw [e32] at hk
    rcases List.mem_append.1 hk with h | h
    · exact ⟨by have := (X.hi hu h).2; omega, .inl (List.mem_append_left _ h)⟩
    · have h' : v7.ownBlock = some k := by simpa using h
      refine ⟨by have := J7.lt h'; omega, ?_⟩
      rcases A7 with a | a
      · exact .inl (List.mem_append_right _ (by rw [← a]; exact h))
      · rw [a] at h'; injection h' with h'; exact .inr (by omega)
  · rw [e32] at hk
    rcases A7 with a | a
    · exact X.sh u hu k (a ▸ hk) hko
    · rw [a] at hk; injection hk with hk; have := (X.hi hu hko).2; omega
theorem TurnP.appOut (H : TurnP W l n bH D T u m V o L M w) (Y : ∀ v, v < 4 → (m v).live n T) (hu : u < 4) (U : Up w w6) {v7 : Value} {sl : Nat} (J7 : Ints w7 v7 (I (L u) ++ [(sl : Int)])) (G7 : w6.grownBy w7 (V (32 + u)).ownBlock) (A7 : v7.ownBlock = (V (32 + u)).ownBlock ∨ v7.ownBlock = some w6.heap.size) (hs : sl < n)
    (h0 : V u = .pointer none) (h1 : V (4 + u) = ptr b) (h2 : V (8 + u) = .pointer none) (h3 : V (12 + u) = .pointer none) :
    (w7.cell? ⟨bH, 32 + u, none⟩ = some (V (32 + u)) ∧ w7.frozen? ⟨bH, 32 + u, none⟩ = false ∧ (w7.setCell ⟨bH, 32 + u, none⟩ v7).cell? ⟨bH, 4 + u, none⟩ = some (.pointer (some ⟨b, 0, none⟩)) ∧ (w7.setCell ⟨bH, 32 + u, none⟩ v7).frozen? ⟨bH, 4 + u, none⟩ = false) ∧
      PlayOut W l n bH D (T + 3) ((w7.setCell ⟨bH, 32 + u, none⟩ v7).setCell ⟨bH, 4 + u, none⟩ (.pointer none)) := by
  obtain ⟨s', o', X⟩ := H
  obtain ⟨⟨c1, c2⟩, X8⟩ := X.app hu U J7 G7 A7 hs
  have ne : ∀ k, k < 32 → updA V (32 + u) v7 k = V k := fun k hk => updA_ne _ _ (by omega)
  refine ⟨⟨c1, c2, tab_cell X8.arr (by omega) ((ne _ (by omega)).trans h1), X8.arr.frozen _⟩, ?_⟩
  have X3 := X8.strike hu (k := 4 + u) (.inr (.inl rfl)) (.inr ((ne _ (by omega)).trans h0)) (.inl rfl) (.inr ((ne _ (by omega)).trans h2)) (.inr ((ne _ (by omega)).trans h3))
  rw [updA_updA] at X3
  exact ⟨_, _, _, _, _, X3, live_upd Y (by omega) trivial⟩
end
end Go.Proofs.YtalglhgngedjoaaGreat

/-
  A region that draws its order: two calls that may write come first, in one order; what follows only reads: one walk in the order of the text. No program is named here.
-/
namespace Go.Proofs.YtalglhgngedjoaaGreat
open Go.RowKit
/-- Two operands, two calls, then whatever is read: may it be walked so? -/
def twoB (ops : Array Oper) : Bool :=
  Region.noSelect ops && (Region.free .any ops (Array.replicate ops.size false) 0 && (Region.ready .any ops (Array.replicate ops.size false)).contains 0) &&
  (Region.free .any ops ((Array.replicate ops.size false).setIfInBounds 0 true) 2 && (Region.ready .any ops ((Array.replicate ops.size false).setIfInBounds 0 true)).contains 2) &&
  decide (Region.ready .any ops (((Array.replicate ops.size false).setIfInBounds 0 true).setIfInBounds 2 true) = [1]) &&
  decide (Region.ready .any ops ((((Array.replicate ops.size false).setIfInBounds 0 true).setIfInBounds 2 true).setIfInBounds 1 true) = [3]) &&
  Region.lexFrom .any ops (ops.size - 4) 4 (((((Array.replicate ops.size false).setIfInBounds 0 true).setIfInBounds 2 true).setIfInBounds 1 true).setIfInBounds 3 true)
section
variable {P : Program} {Q : Exit → Act → World → Prop} {ops : Array Oper}
theorem wp_region_two {id : Nat} {a : Act} {w : World} {o0 o1 o2 o3 : Oper} {rest : List Oper} {v0 v1 v2 v3 : Value} {g : FuncId} {as3 : Array Value} {G1 G2 : World → Prop}
    (_k3 : ∀ w1, G1 w1 → Calls P g as3 w1 (fun e w2 => e = .returned v3 ∧ G2 w2))
    (hm : P.follows .mixedOrders = true) (hB : twoB (o0 :: o1 :: o2 :: o3 :: rest).toArray = true) (hQ0 : ∀ c a w, Q (.panic c) (a.put o0.dst v0) w → Q (.panic c) a w) (hQ2 : ∀ c a w, Q (.panic c) (a.put o2.dst v2) w → Q (.panic c) a w)
    (y0 : Yields P (o0 :: o1 :: o2 :: o3 :: rest).toArray o0 v0 a) (y2 : Yields P (o0 :: o1 :: o2 :: o3 :: rest).toArray o2 v2 (a.put o0.dst v0))
    (c1 : ∀ K : Act → World → Prop, (∀ w1, G1 w1 → K (((a.put o0.dst v0).put o2.dst v2).put o1.dst v1) w1) → if Region.wanted o1 (yielded (o0 :: o1 :: o2 :: o3 :: rest).toArray ((a.put o0.dst v0).put o2.dst v2).tmps) = true then Oper.wp P o1 ((a.put o0.dst v0).put o2.dst v2) w.drew K Q else K (((a.put o0.dst v0).put o2.dst v2).put o1.dst undef) w.drew)
    (c3 : ∀ w1, G1 w1 → ∀ K : Act → World → Prop, (∀ w2, G2 w2 → K ((((a.put o0.dst v0).put o2.dst v2).put o1.dst v1).put o3.dst v3) w2) → if Region.wanted o3 (yielded (o0 :: o1 :: o2 :: o3 :: rest).toArray (((a.put o0.dst v0).put o2.dst v2).put o1.dst v1).tmps) = true then Oper.wp P o3 (((a.put o0.dst v0).put o2.dst v2).put o1.dst v1) w1 K Q else K ((((a.put o0.dst v0).put o2.dst v2).put o1.dst v1).put o3.dst undef) w1)
    (h : ∀ w2, G2 w2 → wpQuiet P (o0 :: o1 :: o2 :: o3 :: rest).toArray (fun w' => ∃ n, w' = w2.drewN n) (fun a' => ∀ w', (∃ n, w' = w2.drewN n) → Q .normal a' w') rest ((((a.put o0.dst v0).put o2.dst v2).put o1.dst v1).put o3.dst v3)) :
    (Code.region id (o0 :: o1 :: o2 :: o3 :: rest).toArray true).wp P Q a w := by
  generalize hl : (o0 :: o1 :: o2 :: o3 :: rest).toArray = ops at *
  have n0 : ops[0]? = some o0 := by rw [← hl]; simp
  have n1 : ops[1]? = some o1 := by rw [← hl]; simp
  have n2 : ops[2]? = some o2 := by rw [← hl]; simp
  have n3 : ops[3]? = some o3 := by rw [← hl]; simp
  have nr : ∀ j, rest[j]? = ops[4 + j]? := fun j => by rw [← hl]; simp [Nat.add_comm 4 j]
  have e : ops.size = rest.length + 4 := by rw [← hl]; simp
  simp only [twoB, Bool.and_eq_true, decide_eq_true_eq] at hB
  obtain ⟨⟨⟨⟨⟨hs, hf0, hr0⟩, hf2, hr2⟩, hr1⟩, hr3⟩, hlx⟩ := hB
  refine wp_region_any hm ?_
  have es : ops.size - 4 = rest.length := by omega
  rw [es] at hlx
  generalize Array.replicate ops.size false = L0 at *
  rw [e]
  refine wpAny_take n0 hs hf0 hr0 hQ0 y0 ?_
  refine wpAny_take n2 hs hf2 hr2 hQ2 y2 ?_
  refine wpAny_ready hr1 (by simp) (AllReady.cons n1 (fun K hK => c1 K fun w1' hG1 => hK _ _ ?_) AllReady.nil)
  refine wpAny_ready hr3 (by simp) (AllReady.cons n3 (fun K hK => c3 w1' hG1 K fun w2' hG2 => hK _ _ ?_) AllReady.nil)
  refine wpAny_of_quiet (C := fun w' => ∃ n, w' = w2'.drewN n) (Q := fun a' => ∀ w', (∃ n, w' = w2'.drewN n) → Q .normal a' w') (fun _ w' hw' h => h w' hw') _ _ _ _ ⟨0, rfl⟩ ?_
  exact wpAnyQ_lex hs rest 4 _ _ nr hlx (h w2' hG2)
end
end Go.Proofs.YtalglhgngedjoaaGreat

/-
  A region that draws its order: operations that read what is held, two calls that may write; what follows only reads: one walk in the order of the text. No program is named here.
-/
namespace Go.Proofs.YtalglhgngedjoaaGreat
open Go.RowKit
section
variable {P : Program} {Q : Exit → Act → World → Prop} {l rest : List Oper} {S : World → Prop} {i k fuel : Nat} {o : Oper} {v : Value} {L : Array Bool} {a a2 : Act} {w : World}
theorem take_on (ho : l[i]? = some o) (hs : Region.noSelect l.toArray = true) (hf : Region.free .any l.toArray L i = true) (hr : (Region.ready .any l.toArray L).contains i = true) (hQ : ∀ c a w, Q (.panic c) (a.put o.dst v) w → Q (.panic c) a w)
    (hy : YieldsIf P l.toArray S o v a) (ha : a.put o.dst v = a2) (hS : S w) (h : wpAnyH P .any l.toArray Q S fuel (L.setIfInBounds i true) a2 w) : wpAnyH P .any l.toArray Q S (fuel + 1) L a w :=
  wpAnyH_take (by simpa using ho) hs hf hr hQ hy hS (by rw [ha]; exact h)
theorem call_on {G : World → Prop} (ho : l[i]? = some o) (hr : Region.ready .any l.toArray L = [i])
    (c : ∀ K : Act → World → Prop, (∀ w1, G w1 → K (a.put o.dst v) w1) → if Region.wanted o (yielded l.toArray a.tmps) = true then Oper.wp P o a w K Q else K (a.put o.dst undef) w)
    (hS : ∀ w1, G w1 → S w1) (h : ∀ w1, G w1 → wpAnyH P .any l.toArray Q S fuel (L.setIfInBounds i true) (a.put o.dst v) w1) : wpAnyH P .any l.toArray Q S (fuel + 1) L a w :=
  wpAnyH_ready hr (by simp) (AllReadyH.cons (by simpa using ho) (fun K hK => c K fun w1 hG => hK.out _ _ (hS w1 hG) fun _ => h w1 hG) AllReadyH.nil)
theorem wpAnyH_of_quiet {Q2 : Act → Prop} {C : World → Prop} {ops : Array Oper} (hQ : ∀ a w, C w → Q2 a → Q .normal a w) (hCS : ∀ w, C w → S w) : ∀ (fuel : Nat) (listed : Array Bool) (a : Act) (w : World), C w →
    wpAnyQ P .any ops C Q2 fuel listed a → wpAnyH P .any ops Q S fuel listed a w
  | 0, _, _, _, hw, h => ⟨h.1, hQ _ _ hw h.2⟩
  | fuel + 1, _, _, _, hw, h => ⟨fun h0 => hQ _ _ hw (h.1 h0), fun i hi => wpOp_of_qOp hw (fun a' w' hw' hK => ⟨hCS _ hw', wpAnyH_of_quiet hQ hCS fuel _ a' w' hw' hK⟩) (h.2 i hi)⟩
theorem rest_on (k : Nat) (hr : l.drop k = rest) (hf : fuel = rest.length) (hs : Region.noSelect l.toArray = true) (hB : Region.lexFrom .any l.toArray rest.length k L = true) (hS : ∀ n, S (w.drewN n))
    (h : wpQuiet P l.toArray (fun w' => ∃ n, w' = w.drewN n) (fun a' => ∀ w', (∃ n, w' = w.drewN n) → Q .normal a' w') rest a) : wpAnyH P .any l.toArray Q S fuel L a w := by
  subst hf
  refine wpAnyH_of_quiet (C := fun w' => ∃ n, w' = w.drewN n) (Q2 := fun a' => ∀ w', (∃ n, w' = w.drewN n) → Q .normal a' w') (fun _ w' hw' h => h w' hw') (fun w' hw' => by obtain ⟨n, rfl⟩ := hw'; exact hS n) _ _ _ _ ⟨0, rfl⟩ ?_
  exact wpAnyQ_lex hs rest k _ _ (fun j => by rw [← hr]; simp) hB h
end
end Go.Proofs.YtalglhgngedjoaaGreat

/-
  RootsPlay: one of them goes on (hands.goes): a Create.
-/
namespace Go.Proofs.YtalglhgngedjoaaGreat
open Go.RowKit
open W64
set_option maxRecDepth 100000
section
variable {W w w' : World} {l : Lie} {n bH D T u : Nat} {m : Nat → PM} {V : Nat → Value} {o L : Nat → List Nat} {s : St}
theorem Play.crTurn_at (X : Play W w l n bH D T m V o L s) (hu : u < 4) {K : Cr} (em : m u = .cr K) (hf : K.fin = false) (hs : K.steps ≤ T) (hT : T ≤ 1000) {b rb : Nat} (h0 : V (u) = ptr b) (h4 : V (16 + u) = ptr rb) :
    B2 29 37 b rb w bH V (CrGot (TurnP W l n bH D T u m V o L (.cr (K.go n 4 s.xs))) b rb l n (K.go n 4 s.xs)) := by
  obtain ⟨b', rb', e0, e1, e2, e3, e4, B⟩ := X.crTurn hu em hf hs hT
  have hb : b' = b := by have := e0.symm.trans h0; simpa [ptr] using this
  have hr : rb' = rb := by have := e4.symm.trans h4; simpa [ptr] using this
  subst hb hr
  exact B
theorem Play.cr_i2 (X : Play W w l n bH D T m V o L s) (hu : u < 4) {K : Cr} (em : m u = .cr K) : K.i ≤ 2 := by
  have hmw := X.mw u hu
  rw [em] at hmw
  generalize o u = ol at hmw
  cases hmw with
  | cr h0 h1 h2 h3 h4 P R sp => exact P.ok.i2
set_option maxHeartbeats 4000000 in
theorem goes_cr (X : Play W w l n bH D T m V o L s) (Y : ∀ u, u < 4 → (m u).live n T) (hT : T ≤ 1000) (hu : u < 4) {K : Cr} (em : m u = .cr K) (z : Int) :
    Calls Tryz.prog 9 #[.pointer (some ⟨bH, 0, none⟩), .pointer (some ⟨l.q, 0, none⟩), .pointer (some ⟨l.k, 0, none⟩), .int .i64 (u : Int), .int .i64 z] w fun e w' => e = .returned (.bool true) ∧ PlayOut W l n bH D (T + 3) w' := by
  have hlv := Y u hu
  rw [em] at hlv
  obtain ⟨hf, hs⟩ : K.fin = false ∧ K.steps ≤ T := hlv
  obtain ⟨b, rb, h0, h1, h2, h3, h4, _⟩ := X.crTurn hu em hf hs hT
  have HT := Lib.hid (fun w1 (U : Up w w1) => (X.ups U).crTurn_at hu em hf hs hT h0 h4)
  have hst : (K.go n 4 s.xs).steps ≤ T + 1 := by rw [Cr.go_steps]; omega
  have hge : (K.go n 4 s.xs).fin = true → (K.go n 4 s.xs).code = 0 → pcrGen (K.go n 4 s.xs) = (K.go n 4 s.xs).gen := Cr.go_gen (X.cr_i2 hu em)
  obtain ⟨K', hK⟩ : ∃ K', K.go n 4 s.xs = K' := ⟨_, rfl⟩
  rw [hK] at HT hst hge
  clear hK
  obtain ⟨pt, hpt⟩ : ∃ y, K'.point = y := ⟨_, rfl⟩
  obtain ⟨sl, hsl⟩ : ∃ y, K'.slot = y := ⟨_, rfl⟩
  obtain ⟨gen, hgen⟩ : ∃ y, K'.gen = y := ⟨_, rfl⟩
  obtain ⟨gp, hgp⟩ : ∃ y, pcrGen K' = y := ⟨_, rfl⟩
  obtain ⟨cd, hcd⟩ : ∃ y, K'.code = y := ⟨_, rfl⟩
  have HPT := Lib.hid hpt
  have HSL := Lib.hid hsl
  have HGEN := Lib.hid hgen
  have HGP := Lib.hid hgp
  have HCD := Lib.hid hcd
  have HST := Lib.hid hst
  have HGE := Lib.hid hge
  clear hpt hsl hgen hgp hcd hst hge
  have j0 : (0 : Int) ≤ (u : Int) := Int.natCast_nonneg _
  have j1 : (u : Int) < 4 := by omega
  have k0 := X.arr.cell (row36_get (V := V) (k := u) (by omega))
  rw [h0] at k0
  have kr := X.arr.cell (row36_get (V := V) (k := 16 + u) (by omega))
  rw [h4] at kr
  have H0 := Lib.hid h0
  have H1 := Lib.hid h1
  have H2 := Lib.hid h2
  have H3 := Lib.hid h3
  have HY := Lib.hid Y
  clear X Y h0 h1 h2 h3 h4 em
  cases hfi : K'.fin
  · have HFI := Lib.hid hfi
    clear hfi
    go_enter Tryz.func9, Tryz.ntmps9
    go_upto_region 3 with fail
    go_quiet (fail)
    go_upto_region 4 with fail
    obtain ⟨G, C1, C2⟩ := HT.out _ ((Up.drewN w nq).trans (up_drew _))
    have HC1 := Lib.hid C1
    have HC2 := Lib.hid C2
    clear C1 C2 k0 kr
    refine wp_region_two (v0 := .pointer (some ⟨b, 0, none⟩)) (v2 := .pointer (some ⟨rb, 0, none⟩)) (v1 := .bool true) (fun w1 G1 => (HC2.out w1 G1).2) (by kernel_rfl) (by kernel_rfl) (fun _ _ _ h => h) (fun _ _ _ h => h) (Or.inl ⟨by rfl, fun _ => by rfl⟩) (Or.inl ⟨by rfl, fun _ => by rfl⟩) (fun K hK => by go_simp; go_at_call 29; refine HC1.out.mono ?_; rintro e w1 ⟨rfl, G1⟩; exact hK w1 G1) (fun w1 G1 K hK => by go_simp; go_at_call 37; refine (HC2.out w1 G1).2.mono ?_; rintro e w2 ⟨rfl, Q2⟩; exact hK w2 Q2) ?_
    intro w2 Q2
    have HQ2 := Lib.hid Q2
    obtain ⟨r4, r5, r6, r12, r13⟩ := Q2.cells (Up.refl _) HPT.out HSL.out HGEN.out HCD.out HFI.out
    clear Q2
    simp only [Act.put, List.setIfInBounds_toArray, List.set_cons_zero, List.set_cons_succ]
    repeat (go_big_quiet_step ((first
      | (go_at_call 31; (with_reducible exact quiet_eq (HQ2.out.done (Up.drewN _ _) HFI.out)))
      | (go_at_call 33; (with_reducible exact quiet_eq (HQ2.out.point (Up.drewN _ _) HPT.out))))))
    refine wpQuiet_nil ?_
    rintro _ ⟨nq2, rfl⟩
    go_wp2_with fail
    go_ret
    exact ⟨rfl, HQ2.out.play.out HY.out (Up.drewN _ _) ⟨HFI.out, by have := HST.out; omega⟩⟩
  · have HFI := Lib.hid hfi
    clear hfi
    by_cases hc0 : cd = 0
    · subst hc0
      have hgg : gp = gen := by rw [← HGP.out, ← HGEN.out]; exact HGE.out HFI.out HCD.out
      subst hgg
      go_enter Tryz.func9, Tryz.ntmps9
      go_upto_region 3 with fail
      go_quiet (fail)
      go_upto_region 4 with fail
      obtain ⟨G, C1, C2⟩ := HT.out _ ((Up.drewN w nq).trans (up_drew _))
      have HC1 := Lib.hid C1
      have HC2 := Lib.hid C2
      clear C1 C2 k0 kr
      refine wp_region_two (v0 := .pointer (some ⟨b, 0, none⟩)) (v2 := .pointer (some ⟨rb, 0, none⟩)) (v1 := .bool true) (fun w1 G1 => (HC2.out w1 G1).2) (by kernel_rfl) (by kernel_rfl) (fun _ _ _ h => h) (fun _ _ _ h => h) (Or.inl ⟨by rfl, fun _ => by rfl⟩) (Or.inl ⟨by rfl, fun _ => by rfl⟩) (fun K hK => by go_simp; go_at_call 29; refine HC1.out.mono ?_; rintro e w1 ⟨rfl, G1⟩; exact hK w1 G1) (fun w1 G1 K hK => by go_simp; go_at_call 37; refine (HC2.out w1 G1).2.mono ?_; rintro e w2 ⟨rfl, Q2⟩; exact hK w2 Q2) ?_
      intro w2 Q2
      have HQ2 := Lib.hid Q2
      obtain ⟨r4, r5, r6, r12, r13⟩ := Q2.cells (Up.refl _) HPT.out HSL.out HGEN.out HCD.out HFI.out
      clear Q2
      simp only [Act.put, List.setIfInBounds_toArray, List.set_cons_zero, List.set_cons_succ]
      repeat (go_big_quiet_step ((first
        | (go_at_call 31; (with_reducible exact quiet_eq (HQ2.out.done (Up.drewN _ _) HFI.out)))
        | (go_at_call 33; (with_reducible exact quiet_eq (HQ2.out.point (Up.drewN _ _) HPT.out))))))
      refine wpQuiet_nil ?_
      rintro _ ⟨nq2, rfl⟩
      go_upto_region 8 with (go_at_call 30; (with_reducible refine (HQ2.out.region (Up.drewN _ _) HFI.out HSL.out HGP.out).mono ?_); rintro e w3 ⟨rfl, V3⟩; have U3 := (Up.drewN w2 nq2).trans V3; clear V3; have HU3 := Lib.hid U3; obtain ⟨q4, q5, q6, q12, q13⟩ := HQ2.out.cells U3 HPT.out HSL.out HGEN.out HCD.out HFI.out; obtain ⟨kp, fp⟩ := HQ2.out.play.tab U3 (k := u) (by omega) H0.out; clear U3)
      clear r4 r5 r6 r12 r13
      go_quiet (first
        | (go_at_call 32; (with_reducible exact quiet_eq (HQ2.out.code (HU3.out.trans (Up.drewN _ _)) HCD.out))))
      go_wp2_with fail
      go_ret
      exact ⟨rfl, HQ2.out.play.strike HY.out hu (HU3.out.trans (Up.drewN _ _)) (.inl rfl) (.inl rfl) (.inr H1.out) (.inr H2.out) (.inr H3.out)⟩
    · have hcb : (cd == 0) = false := by simp [hc0]
      go_enter Tryz.func9, Tryz.ntmps9
      go_upto_region 3 with fail
      go_quiet (fail)
      go_upto_region 4 with fail
      obtain ⟨G, C1, C2⟩ := HT.out _ ((Up.drewN w nq).trans (up_drew _))
      have HC1 := Lib.hid C1
      have HC2 := Lib.hid C2
      clear C1 C2 k0 kr
      refine wp_region_two (v0 := .pointer (some ⟨b, 0, none⟩)) (v2 := .pointer (some ⟨rb, 0, none⟩)) (v1 := .bool true) (fun w1 G1 => (HC2.out w1 G1).2) (by kernel_rfl) (by kernel_rfl) (fun _ _ _ h => h) (fun _ _ _ h => h) (Or.inl ⟨by rfl, fun _ => by rfl⟩) (Or.inl ⟨by rfl, fun _ => by rfl⟩) (fun K hK => by go_simp; go_at_call 29; refine HC1.out.mono ?_; rintro e w1 ⟨rfl, G1⟩; exact hK w1 G1) (fun w1 G1 K hK => by go_simp; go_at_call 37; refine (HC2.out w1 G1).2.mono ?_; rintro e w2 ⟨rfl, Q2⟩; exact hK w2 Q2) ?_
      intro w2 Q2
      have HQ2 := Lib.hid Q2
      obtain ⟨r4, r5, r6, r12, r13⟩ := Q2.cells (Up.refl _) HPT.out HSL.out HGEN.out HCD.out HFI.out
      clear Q2
      simp only [Act.put, List.setIfInBounds_toArray, List.set_cons_zero, List.set_cons_succ]
      repeat (go_big_quiet_step ((first
        | (go_at_call 31; (with_reducible exact quiet_eq (HQ2.out.done (Up.drewN _ _) HFI.out)))
        | (go_at_call 33; (with_reducible exact quiet_eq (HQ2.out.point (Up.drewN _ _) HPT.out))))))
      refine wpQuiet_nil ?_
      rintro _ ⟨nq2, rfl⟩
      go_upto_region 8 with (go_at_call 30; (with_reducible refine (HQ2.out.region (Up.drewN _ _) HFI.out HSL.out HGP.out).mono ?_); rintro e w3 ⟨rfl, V3⟩; have U3 := (Up.drewN w2 nq2).trans V3; clear V3; have HU3 := Lib.hid U3; obtain ⟨q4, q5, q6, q12, q13⟩ := HQ2.out.cells U3 HPT.out HSL.out HGEN.out HCD.out HFI.out; obtain ⟨kp, fp⟩ := HQ2.out.play.tab U3 (k := u) (by omega) H0.out; clear U3)
      clear r4 r5 r6 r12 r13
      go_quiet (first
        | (go_at_call 32; (with_reducible exact quiet_eq (HQ2.out.code (HU3.out.trans (Up.drewN _ _)) HCD.out))))
      go_wp2_with fail
      go_ret
      exact ⟨rfl, HQ2.out.play.strike HY.out hu (HU3.out.trans (Up.drewN _ _)) (.inl rfl) (.inl rfl) (.inr H1.out) (.inr H2.out) (.inr H3.out)⟩
end
end Go.Proofs.YtalglhgngedjoaaGreat
