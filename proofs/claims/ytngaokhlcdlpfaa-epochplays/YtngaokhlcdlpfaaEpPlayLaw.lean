/-
  EpochPlays: what its loops keep.
-/
import Derived.Test.YtngaokhlcdlpfaaEpBegins2
import Derived.Test.YtngaokhlcdlpfaaOpen4
namespace Go.Proofs.Ytngaokhlcdlpfaa
open Go.RowKit
open W64
set_option maxRecDepth 100000
section
variable {W w w1 w' : World} {p g q pr gr qr B C : Nat} {xs xs' : List Int} {c : Int}
/-- The cells behind j announcements. -/
def pinXs (a : Int) (f : Nat → Int) : Nat → List Int
  | 0 => [a, 0, 0, 0, 0]
  | j + 1 => (pinXs a f j).set (1 + j) (f j)
theorem pinXs_len (a : Int) (f : Nat → Int) : ∀ j, (pinXs a f j).length = 5
  | 0 => rfl
  | j + 1 => by show ((pinXs a f j).set (1 + j) (f j)).length = 5; rw [List.length_set, pinXs_len a f j]
/-- Both memories beside each other. -/
structure Twin (W w : World) (p g q pr gr qr B C : Nat) (xs : List Int) (c : Int) : Prop where
  sit : Sit W w p g q 4 xs c
  rsit : RSit W w pr gr qr 4 xs c
  ord : (p < B ∧ g < B ∧ q < B) ∧ (B ≤ pr ∧ B ≤ gr ∧ B ≤ qr) ∧ (pr < C ∧ gr < C ∧ qr < C) ∧ C ≤ w.heap.size
theorem Twin.up (T : Twin W w p g q pr gr qr B C xs c) (U : Up w w') : Twin W w' p g q pr gr qr B C xs c :=
  ⟨T.sit.ups U, T.rsit.ups U, by have := T.ord; have := U.size; omega⟩
/-- One cell of the document's memory is laid. -/
theorem Twin.layR (S : Sit W w p g q 4 xs c) (R : RSit W w pr gr qr 4 xs' c) (h : (p < B ∧ g < B ∧ q < B) ∧ (B ≤ pr ∧ B ≤ gr ∧ B ≤ qr) ∧ (pr < C ∧ gr < C ∧ qr < C) ∧ C ≤ w.heap.size) (k : Nat) {v : Int} (h0 : 0 ≤ v) (h1 : v < 18446744073709551616) :
    Sit W (w.setCell ⟨gr, k, none⟩ (.int .u64 v)) p g q 4 xs c ∧ RSit W (w.setCell ⟨gr, k, none⟩ (.int .u64 v)) pr gr qr 4 (xs'.set k v) c := by
  have hl := S.lp
  have E0 : Else [gr] w (w.setCell ⟨gr, k, none⟩ (.int .u64 v)) := (Else.refl [gr] w).set (.inl (by simp)) _
  refine ⟨S.else E0 (by simp; omega) ⟨by simp; omega, by simp; omega, by simp; omega⟩, ⟨?_, R.lp, R.lg, R.lq⟩⟩
  exact R.epo.turn (R.epo.ref.set k v) E0 (by simp; exact R.epo.ng) (ok_set R.epo.ok k h0 h1) List.length_set
theorem Twin.layP (S : Sit W w' p g q 4 xs' c) (R : RSit W w pr gr qr 4 xs' c) (h : (p < B ∧ g < B ∧ q < B) ∧ (B ≤ pr ∧ B ≤ gr ∧ B ≤ qr) ∧ (pr < C ∧ gr < C ∧ qr < C) ∧ C ≤ w.heap.size) (E : Else [p, g] w w') : Twin W w' p g q pr gr qr B C xs' c :=
  ⟨S, R.else E ⟨by simp; omega, by simp; omega, by simp; omega⟩, by have := E.size; omega⟩
theorem row24_nil : row24 (fun _ => .pointer none) = #[.pointer none, .pointer none, .pointer none, .pointer none, .pointer none, .pointer none, .pointer none, .pointer none, .pointer none, .pointer none, .pointer none, .pointer none, .pointer none, .pointer none, .pointer none, .pointer none, .pointer none, .pointer none, .pointer none, .pointer none, .pointer none, .pointer none, .pointer none, .pointer none] := by
  rfl
theorem Twin.play (T : Twin W w p g q pr gr qr B C xs c) : PlayOut W p g q pr gr qr w.heap.size B C (w.heap.size + 1) (w.alloc (.cells #[.pointer none, .pointer none, .pointer none, .pointer none, .pointer none, .pointer none, .pointer none, .pointer none, .pointer none, .pointer none, .pointer none, .pointer none, .pointer none, .pointer none, .pointer none, .pointer none, .pointer none, .pointer none, .pointer none, .pointer none, .pointer none, .pointer none, .pointer none, .pointer none] 54)) := by
  have T2 := T.up (Up.alloc w (.cells #[.pointer none, .pointer none, .pointer none, .pointer none, .pointer none, .pointer none, .pointer none, .pointer none, .pointer none, .pointer none, .pointer none, .pointer none, .pointer none, .pointer none, .pointer none, .pointer none, .pointer none, .pointer none, .pointer none, .pointer none, .pointer none, .pointer none, .pointer none, .pointer none] 54))
  have ho := T.ord
  refine ⟨fun _ => .idle, fun _ => .pointer none, fun _ => [], xs, c, ⟨T2.sit, T2.rsit, ?_, fun u _ => .idle rfl rfl rfl, fun u _ k hk => by simp at hk, fun u v _ _ _ k hk => by simp at hk, ?_⟩, fun _ _ => trivial⟩
  · rw [row24_nil]; exact Whole.new _ _ _
  · have : (w.alloc (.cells #[.pointer none, .pointer none, .pointer none, .pointer none, .pointer none, .pointer none, .pointer none, .pointer none, .pointer none, .pointer none, .pointer none, .pointer none, .pointer none, .pointer none, .pointer none, .pointer none, .pointer none, .pointer none, .pointer none, .pointer none, .pointer none, .pointer none, .pointer none, .pointer none] 54)).heap.size = w.heap.size + 1 := by simp
    omega
end
theorem rnew_is {i : Int} (hi : i = ((5 : Nat) : Int)) (w : World) :
    Calls Try.prog 10 #[.int .i64 i] w fun e w' => e = .returned (.pointer (some ⟨w.heap.size + 1, 0, none⟩)) ∧ Ref w' (w.heap.size + 1) w.heap.size [0, 0, 0, 0, 0] 0 ∧ Up w w' := by
  subst hi; exact rnew_in 5 (by decide) w
abbrev epObj (pr : Nat) : Obj := .cells #[.pointer (some ⟨pr, 0, none⟩), .int .i64 0, .int .i64 1, .int .i64 4] 34
theorem twin_start {W w1 w2 : World} {p g q : Nat} (S : Sit W w1 p g q 4 [0, 0, 0, 0, 0] 0) (R : Ref w2 (w1.heap.size + 1) w1.heap.size [0, 0, 0, 0, 0] 0) (U : Up w1 w2) :
    Twin W (w2.alloc (epObj (w1.heap.size + 1))) p g q (w1.heap.size + 1) w1.heap.size w2.heap.size w1.heap.size (w2.heap.size + 1) [0, 0, 0, 0, 0] 0 := by
  have hs : (w2.alloc (epObj (w1.heap.size + 1))).heap.size = w2.heap.size + 1 := by simp
  have hl := S.lt
  have hW := S.up.size
  have hr := R.top.lt
  have hu := U.size
  have ok0 : ∀ i : Nat, 0 ≤ ([0, 0, 0, 0, 0] : List Int).getD i 0 ∧ ([0, 0, 0, 0, 0] : List Int).getD i 0 < 18446744073709551616 := by
    intro i
    have : ([0, 0, 0, 0, 0] : List Int).getD i 0 = 0 := by
      rcases (show i = 0 ∨ i = 1 ∨ i = 2 ∨ i = 3 ∨ i = 4 ∨ 5 ≤ i by omega) with rfl | rfl | rfl | rfl | rfl | h
      · rfl
      · rfl
      · rfl
      · rfl
      · rfl
      · unfold List.getD; rw [List.getElem?_eq_none (by simp; omega)]; rfl
    omega
  refine ⟨S.ups (U.then_alloc _), ⟨⟨R.up (Up.alloc _ _), Whole.new _ _ _, ok0, by omega, by omega, by decide, by decide, by decide, by decide, by decide⟩, by omega, by omega, by omega⟩, by omega⟩
def PinRel (W : World) (p g q pr gr qr B C : Nat) (a : Int) (f : Nat → Int) (i : Value) (wr : World) : Prop := ∃ j : Nat, i = .int .i64 j ∧ j ≤ 4 ∧ Twin W wr p g q pr gr qr B C (pinXs a f j) 0
def PlayRel (W : World) (p g q pr gr qr bH B C D len : Nat) (i : Value) (wr : World) : Prop := ∃ j : Nat, i = .int .i64 j ∧ j ≤ len ∧ PlayOut W p g q pr gr qr bH B C D wr
def SameRel (W : World) (p g q pr gr qr bH B C D : Nat) (m : Nat → PM) (V : Nat → Value) (o : Nat → List Nat) (xs : List Int) (c : Int) (i : Value) (wr : World) : Prop := ∃ k : Nat, i = .int .i64 k ∧ k ≤ 5 ∧ Play W wr p g q pr gr qr bH B C D m V o xs c
end Go.Proofs.Ytngaokhlcdlpfaa
