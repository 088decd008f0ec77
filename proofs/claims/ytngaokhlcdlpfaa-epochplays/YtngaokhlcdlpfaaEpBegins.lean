/-
  EpochPlays: a machine more (hands.begins), and hands.goes for whoever has none.
-/
import Derived.Test.YtngaokhlcdlpfaaEpGoes
namespace Go.Proofs.Ytngaokhlcdlpfaa
open Go.RowKit
open W64
set_option maxRecDepth 100000
section
variable {W w w1 w3 w' : World} {p g q pr gr qr bH B C D u b rb k1 k2 : Nat} {m : Nat → PM} {V : Nat → Value} {o : Nat → List Nat} {xs : List Int} {c : Int}
theorem en_zero {E : Int} : decide ((⟨0, E⟩ : En).i = 2) = false := rfl
/-- The world behind the two stores, and a box that the document's machine lies in. -/
abbrev two (w1 : World) (bH k1 k2 : Nat) (x y : Value) (O : Obj) : World := (((w1.setCell ⟨bH, k1, none⟩ x).setCell ⟨bH, k2, none⟩ y).alloc O).drew
theorem size_set (w : World) (a : Addr) (v : Value) : (w.setCell a v).heap.size = w.heap.size := by simp
/-- Two machines more in the table. -/
theorem Play.begin (X : Play W w p g q pr gr qr bH B C D m V o xs c) (hu : u < 4) (U : Up w w1) (h1 : k1 % 4 = u) (h2 : k2 % 4 = u) {x y : Value} {O : Obj} {M' : PM} (H : MW (two w1 bH k1 k2 x y O) q qr u (updA (updA V k1 x) k2 y) M' [b, w1.heap.size]) (hb : w.heap.size ≤ b ∧ b < w1.heap.size) :
    Play W (two w1 bH k1 k2 x y O) p g q pr gr qr bH B C D (updA m u M') (updA (updA V k1 x) k2 y) (updA o u [b, w1.heap.size]) xs c := by
  have hord := X.ord
  have hW := X.sit.lp
  have E3 : Else [bH] w (two w1 bH k1 k2 x y O) := (((((Else.of_up (s := [bH]) U).set (.inl (by simp)) _).set (.inl (by simp)) _).alloc _).drew)
  have hs : (two w1 bH k1 k2 x y O).heap.size = w1.heap.size + 1 := by
    show (((w1.setCell ⟨bH, k1, none⟩ x).setCell ⟨bH, k2, none⟩ y).alloc O).heap.size = w1.heap.size + 1
    simp
  have hz := U.size
  refine X.turn hu E3 (fun j hj => by simp at hj; simp [hj]) (X.sit.else E3 (by simp; omega) ⟨by simp; omega, by simp; omega, by simp; omega⟩) (X.rsit.else E3 ⟨by simp; omega, by simp; omega, by simp; omega⟩) ?_ (fun j hj => ?_) H ?_
  · have h := ((X.arr.up U).set k1 x).set k2 y
    rw [row24_set, row24_set] at h
    exact (h.alloc O).up (up_drew _)
  · rw [updA_ne _ _ (fun e => hj (by rw [e]; exact h2)), updA_ne _ _ (fun e => hj (by rw [e]; exact h1))]
  · intro k hk
    refine ⟨?_, ?_, .inr ?_⟩
    · simp at hk; omega
    · rw [hs]; simp at hk; omega
    · simp at hk; omega
theorem two_else (w1 : World) (bH k1 k2 : Nat) (x y : Value) (O : Obj) : Else [bH] w1 (two w1 bH k1 k2 x y O) := (((((Else.refl [bH] w1).set (.inl (by simp)) _).set (.inl (by simp)) _).alloc _).drew)
theorem two_new (w1 : World) (bH k1 k2 : Nat) (x y : Value) (t : TypeId) (cs : Array Value) : Whole (two w1 bH k1 k2 x y (.cells cs t)) w1.heap.size t cs := by
  have h := Whole.new ((w1.setCell ⟨bH, k1, none⟩ x).setCell ⟨bH, k2, none⟩ y) t cs
  rw [size_set, size_set] at h
  exact h.up (up_drew _)
theorem Play.cells1 (X : Play W w p g q pr gr qr bH B C D m V o xs c) (U : Up w w1) {x : Value} (h1 : k1 < 24) (h2 : k2 < 24) :
    w1.cell? ⟨bH, k1, none⟩ = some (V k1) ∧ w1.frozen? ⟨bH, k1, none⟩ = false ∧ (w1.setCell ⟨bH, k1, none⟩ x).cell? ⟨bH, k2, none⟩ = some (updA V k1 x k2) ∧ (w1.setCell ⟨bH, k1, none⟩ x).frozen? ⟨bH, k2, none⟩ = false := by
  have A := X.arr.up U
  have A2 := A.set k1 x
  rw [row24_set] at A2
  exact ⟨A.cell (row24_get h1), A.frozen k1, A2.cell (row24_get h2), A2.frozen k2⟩
theorem Play.cells2 (X : Play W w p g q pr gr qr bH B C D m V o xs c) (U : Up w w1) {x : Value} (O : Obj) (h1 : k1 < 24) (h2 : k2 < 24) :
    (w1.alloc O).drew.cell? ⟨bH, k1, none⟩ = some (V k1) ∧ (w1.alloc O).drew.frozen? ⟨bH, k1, none⟩ = false ∧ ((w1.setCell ⟨bH, k1, none⟩ x).alloc O).drew.cell? ⟨bH, k2, none⟩ = some (updA V k1 x k2) ∧ ((w1.setCell ⟨bH, k1, none⟩ x).alloc O).drew.frozen? ⟨bH, k2, none⟩ = false := by
  have A := X.arr.up U
  have A1 := (A.alloc O).up (up_drew _)
  have A2 := A.set k1 x
  rw [row24_set] at A2
  have A3 := (A2.alloc O).up (up_drew _)
  exact ⟨A1.cell (row24_get h1), A1.frozen k1, A3.cell (row24_get h2), A3.frozen k2⟩
set_option maxHeartbeats 4000000 in
theorem begins_en (X : Play W w p g q pr gr qr bH B C D m V o xs c) (L : ∀ u, u < 4 → (m u).live) (hu : u < 4) (em : m u = .idle) :
    Calls Try.prog 38 #[.pointer (some ⟨bH, 0, none⟩), .pointer (some ⟨q, 0, none⟩), .pointer (some ⟨qr, 0, none⟩), .int .i64 (u : Int), .int .i64 0] w fun e w' => e = .returned (.bool true) ∧ PlayOut W p g q pr gr qr bH B C D w' := by
  have hmw := X.mw u hu
  rw [em] at hmw
  generalize ho : o u = l at hmw
  cases hmw with
  | idle h1 h2 h3 =>
  have HN := Lib.hid (enBegin X.sit hu)
  have j0 : (0 : Int) ≤ (u : Int) := Int.natCast_nonneg _
  have j1 : (u : Int) < 4 := by omega
  have key : ∀ {w1 : World} {b : Nat}, Up w w1 → w.heap.size ≤ b → b < w1.heap.size → EnM w1 b q u ⟨0, 0⟩ →
      Play W (two w1 bH (u) (12 + u) (ptr b) (ptr w1.heap.size) (.cells #[.pointer (some ⟨qr, 0, none⟩), .int .i64 u, .int .i64 0, .int .i64 0, .bool false] 84)) p g q pr gr qr bH B C D (updA m u (.en ⟨0, 0⟩)) (updA (updA V u (ptr b)) (12 + u) (ptr w1.heap.size)) (updA o u [b, w1.heap.size]) xs c := by
    intro w1 b U hb hb2 P
    have hz := U.size
    have hbh : b ∉ [bH] := by have := X.ord; simp; omega
    refine X.begin hu U (by omega) (by omega) (.en ?_ ?_ ?_ (updA_same _ _ _) (P.else (two_else _ _ _ _ _ _ _) hbh) ⟨two_new _ _ _ _ _ _ _ _, by simp⟩) ⟨hb, hb2⟩
    · rw [updA_ne _ _ (by omega), updA_same]
    · rw [updA_ne _ _ (by omega), updA_ne _ _ (by omega)]; exact h2
    · rw [updA_ne _ _ (by omega), updA_ne _ _ (by omega)]; exact h3
  have HK := Lib.hid (fun w1 b => @key w1 b)
  have HX := Lib.hid X
  have HL := Lib.hid L
  clear X L key em h1 h2 h3 ho
  go_enter Try.func38, Try.ntmps38
  go_upto_region 4 with (go_at_call 20; refine HN.out.mono ?_; rintro r w1 ⟨b, rfl, b1, b2, O, P1, S1, U1⟩)
  have HP1 := Lib.hid P1
  have HB := Lib.hid (HK.out w1 b U1 b1 b2 P1)
  obtain ⟨y1, g1, y2, g2⟩ := HX.out.cells1 (k1 := u) (k2 := 12 + u) (x := .pointer (some ⟨b, 0, none⟩)) U1 (by omega) (by omega)
  obtain ⟨y3, g3, y4, g4⟩ := HX.out.cells2 (k1 := u) (k2 := 12 + u) (x := .pointer (some ⟨b, 0, none⟩)) U1 (.cells #[.pointer (some ⟨qr, 0, none⟩), .int .i64 u, .int .i64 0, .int .i64 0, .bool false] 84) (by omega) (by omega)
  have hlt : bH < w1.heap.size := by have := HX.out.ord.2.2.2.2; have := U1.size; omega
  have hne : ¬ bH = w1.heap.size := by omega
  have hne' : ¬ w1.heap.size = bH := by omega
  have HB2 := Lib.hid (show b < w1.heap.size from b2)
  have hD := HX.out.ord.2.2.2.2
  clear P1 S1 U1 O
  have HPF := Lib.hid (show EnM (two w1 bH (u) (12 + u) (ptr b) (ptr w1.heap.size) (.cells #[.pointer (some ⟨qr, 0, none⟩), .int .i64 u, .int .i64 0, .int .i64 0, .bool false] 84)) b q u ⟨0, 0⟩ from
    HP1.out.else (two_else _ _ _ _ _ _ _) (by simp; omega))
  go_region_held3 (fun _ => True) (exact trivial) (fail)
  all_goals (
    clear y1 g1 y2 g2 y3 g3 y4 g4
    go_wp2_with (go_at_call 21; refine (enDone HPF.out en_zero).mono ?_; rintro r w' ⟨rfl, rfl⟩)
    go_ret
    exact ⟨rfl, _, _, _, _, _, HB.out, live_upd HL.out (by show (0 : Nat) < 2; decide)⟩)
set_option maxHeartbeats 4000000 in
theorem begins_le (X : Play W w p g q pr gr qr bH B C D m V o xs c) (L : ∀ u, u < 4 → (m u).live) (hu : u < 4) (em : m u = .idle) :
    Calls Try.prog 38 #[.pointer (some ⟨bH, 0, none⟩), .pointer (some ⟨q, 0, none⟩), .pointer (some ⟨qr, 0, none⟩), .int .i64 (u : Int), .int .i64 1] w fun e w' => e = .returned (.bool true) ∧ PlayOut W p g q pr gr qr bH B C D w' := by
  have hmw := X.mw u hu
  rw [em] at hmw
  generalize ho : o u = l at hmw
  cases hmw with
  | idle h1 h2 h3 =>
  have HN := Lib.hid (leBegin X.sit hu)
  have j0 : (0 : Int) ≤ (u : Int) := Int.natCast_nonneg _
  have j1 : (u : Int) < 4 := by omega
  have key : ∀ {w1 : World} {b : Nat}, Up w w1 → w.heap.size ≤ b → b < w1.heap.size → LeM w1 b q u false →
      Play W (two w1 bH (4 + u) (16 + u) (ptr b) (ptr w1.heap.size) (.cells #[.pointer (some ⟨qr, 0, none⟩), .int .i64 u, .bool false] 100)) p g q pr gr qr bH B C D (updA m u (.le false)) (updA (updA V (4 + u) (ptr b)) (16 + u) (ptr w1.heap.size)) (updA o u [b, w1.heap.size]) xs c := by
    intro w1 b U hb hb2 P
    have hz := U.size
    have hbh : b ∉ [bH] := by have := X.ord; simp; omega
    refine X.begin hu U (by omega) (by omega) (.le ?_ ?_ ?_ (updA_same _ _ _) (P.else (two_else _ _ _ _ _ _ _) hbh) ⟨two_new _ _ _ _ _ _ _ _⟩) ⟨hb, hb2⟩
    · rw [updA_ne _ _ (by omega), updA_ne _ _ (by omega)]; exact h1
    · rw [updA_ne _ _ (by omega), updA_same]
    · rw [updA_ne _ _ (by omega), updA_ne _ _ (by omega)]; exact h3
  have HK := Lib.hid (fun w1 b => @key w1 b)
  have HX := Lib.hid X
  have HL := Lib.hid L
  clear X L key em h1 h2 h3 ho
  go_enter Try.func38, Try.ntmps38
  go_upto_region 8 with (go_at_call 25; refine HN.out.mono ?_; rintro r w1 ⟨b, rfl, b1, b2, O, P1, S1, U1⟩)
  have HP1 := Lib.hid P1
  have HB := Lib.hid (HK.out w1 b U1 b1 b2 P1)
  obtain ⟨y1, g1, y2, g2⟩ := HX.out.cells1 (k1 := 4 + u) (k2 := 16 + u) (x := .pointer (some ⟨b, 0, none⟩)) U1 (by omega) (by omega)
  obtain ⟨y3, g3, y4, g4⟩ := HX.out.cells2 (k1 := 4 + u) (k2 := 16 + u) (x := .pointer (some ⟨b, 0, none⟩)) U1 (.cells #[.pointer (some ⟨qr, 0, none⟩), .int .i64 u, .bool false] 100) (by omega) (by omega)
  have hlt : bH < w1.heap.size := by have := HX.out.ord.2.2.2.2; have := U1.size; omega
  have hne : ¬ bH = w1.heap.size := by omega
  have hne' : ¬ w1.heap.size = bH := by omega
  have HB2 := Lib.hid (show b < w1.heap.size from b2)
  have hD := HX.out.ord.2.2.2.2
  clear P1 S1 U1 O
  have HPF := Lib.hid (show LeM (two w1 bH (4 + u) (16 + u) (ptr b) (ptr w1.heap.size) (.cells #[.pointer (some ⟨qr, 0, none⟩), .int .i64 u, .bool false] 100)) b q u false from
    HP1.out.else (two_else _ _ _ _ _ _ _) (by simp; omega))
  go_region_held3 (fun _ => True) (exact trivial) (fail)
  all_goals (
    clear y1 g1 y2 g2 y3 g3 y4 g4
    go_wp2_with (go_at_call 36; refine (leDone HPF.out).mono ?_; rintro r w' ⟨rfl, rfl⟩)
    go_ret
    exact ⟨rfl, _, _, _, _, _, HB.out, live_upd HL.out rfl⟩)
end
end Go.Proofs.Ytngaokhlcdlpfaa
