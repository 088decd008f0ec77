/-
  EpochPlays: an Advance more; hands.goes, whatever comes.
-/
import Derived.Test.YtngaokhlcdlpfaaEpBegins
namespace Go.Proofs.Ytngaokhlcdlpfaa
open Go.RowKit
open W64
set_option maxRecDepth 100000
section
variable {W w w1 w3 w' : World} {p g q pr gr qr bH B C D u b rb k1 k2 : Nat} {m : Nat → PM} {V : Nat → Value} {o : Nat → List Nat} {xs : List Int} {c : Int}
theorem Play.put (X : Play W w p g q pr gr qr bH B C D m V o xs c) (hu : u < 4) (E3 : Else [bH] w w') (h1 : k1 % 4 = u) (h2 : k2 % 4 = u) {x y : Value} (A : Whole w' bH 54 (row24 (updA (updA V k1 x) k2 y))) {M' : PM} (H : MW w' q qr u (updA (updA V k1 x) k2 y) M' [b, rb]) (hb : w.heap.size ≤ b ∧ b < w'.heap.size) (hr : w.heap.size ≤ rb ∧ rb < w'.heap.size) :
    Play W w' p g q pr gr qr bH B C D (updA m u M') (updA (updA V k1 x) k2 y) (updA o u [b, rb]) xs c := by
  have hord := X.ord
  have hW := X.sit.lp
  refine X.turn hu E3 (fun j hj => by simp at hj; simp [hj]) (X.sit.else E3 (by simp; omega) ⟨by simp; omega, by simp; omega, by simp; omega⟩) (X.rsit.else E3 ⟨by simp; omega, by simp; omega, by simp; omega⟩) A (fun j hj => ?_) H ?_
  · rw [updA_ne _ _ (fun e => hj (by rw [e]; exact h2)), updA_ne _ _ (fun e => hj (by rw [e]; exact h1))]
  · intro k hk
    simp at hk
    refine ⟨by omega, by omega, .inr (by omega)⟩
abbrev adObj (qr : Nat) : Obj := .cells #[.pointer (some ⟨qr, 0, none⟩), .int .i64 0, .int .u64 0, .bool false, .bool false] 86
theorem ad_contract (w : World) (q : Nat) :
    Calls Try.prog 27 #[.pointer (some ⟨q, 0, none⟩)] w fun r w' => ∃ b, r = .returned (.pointer (some ⟨b, 0, none⟩)) ∧ w.heap.size ≤ b ∧ b < w'.heap.size ∧ AdM w' b q 4 ⟨0, 0, false, false⟩ ∧ Up w w' := by
  refine (adNew w q 4).mono ?_
  rintro r w' ⟨rfl, P, U⟩
  exact ⟨_, rfl, Nat.le_refl _, P.row.lt, P, U⟩
theorem Play.cells3 (X : Play W w p g q pr gr qr bH B C D m V o xs c) (U : Up w w1) {x : Value} (O : Obj) (h1 : k1 < 24) (h2 : k2 < 24) :
    (w1.alloc O).cell? ⟨bH, k1, none⟩ = some (V k1) ∧ (w1.alloc O).frozen? ⟨bH, k1, none⟩ = false ∧ ((w1.setCell ⟨bH, k1, none⟩ x).alloc O).cell? ⟨bH, k2, none⟩ = some (updA V k1 x k2) ∧ ((w1.setCell ⟨bH, k1, none⟩ x).alloc O).frozen? ⟨bH, k2, none⟩ = false := by
  have A := X.arr.up U
  have A1 := A.alloc O
  have A2 := A.set k1 x
  rw [row24_set] at A2
  have A3 := A2.alloc O
  exact ⟨A1.cell (row24_get h1), A1.frozen k1, A3.cell (row24_get h2), A3.frozen k2⟩
/-- What is left where both machines stand in the table. -/
structure Begun (W : World) (p g q pr gr qr bH B C D u b : Nat) (w' : World) : Prop where
  out : ∃ m V o xs c, Play W w' p g q pr gr qr bH B C D m V o xs c ∧ ∀ u, u < 4 → (m u).live
  cell : w'.cell? ⟨bH, 8 + u, none⟩ = some (.pointer (some ⟨b, 0, none⟩))
  mach : AdM w' b q 4 ⟨0, 0, false, false⟩
set_option maxHeartbeats 4000000 in
theorem begins_ad (X : Play W w p g q pr gr qr bH B C D m V o xs c) (L : ∀ u, u < 4 → (m u).live) (hu : u < 4) (em : m u = .idle) {z : Int} (z0 : ¬ z = 0) (z1 : ¬ z = 1) :
    Calls Try.prog 38 #[.pointer (some ⟨bH, 0, none⟩), .pointer (some ⟨q, 0, none⟩), .pointer (some ⟨qr, 0, none⟩), .int .i64 (u : Int), .int .i64 z] w fun e w' => e = .returned (.bool true) ∧ PlayOut W p g q pr gr qr bH B C D w' := by
  have hmw := X.mw u hu
  rw [em] at hmw
  generalize ho : o u = l at hmw
  cases hmw with
  | idle h1 h2 h3 =>
  have j0 : (0 : Int) ≤ (u : Int) := Int.natCast_nonneg _
  have j1 : (u : Int) < 4 := by omega
  have key : ∀ {w' : World} {b rb : Nat}, Else [bH] w w' → Whole w' bH 54 (row24 (updA (updA V (8 + u) (ptr b)) (20 + u) (ptr rb))) → AdM w' b q 4 ⟨0, 0, false, false⟩ → RAdM w' rb qr 4 ⟨0, 0, false, false⟩ → (w.heap.size ≤ b ∧ b < w'.heap.size) → (w.heap.size ≤ rb ∧ rb < w'.heap.size) → Begun W p g q pr gr qr bH B C D u b w' := by
    intro w' b rb E3 A P R hb hr
    refine ⟨⟨_, _, _, _, _, X.put hu E3 (by omega) (by omega) A (.ad ?_ ?_ ?_ (updA_same _ _ _) P R) hb hr, live_upd L rfl⟩, ?_, P⟩
    · rw [updA_ne _ _ (by omega), updA_ne _ _ (by omega)]; exact h1
    · rw [updA_ne _ _ (by omega), updA_ne _ _ (by omega)]; exact h2
    · rw [updA_ne _ _ (by omega), updA_same]
    · have := A.cell (row24_get (k := 8 + u) (by omega))
      rw [updA_ne _ _ (by omega), updA_same] at this
      exact this
  have keyA : ∀ {w1 : World} {b : Nat}, Up w.drew w1 → w.drew.heap.size ≤ b → b < w1.heap.size → AdM w1 b q 4 ⟨0, 0, false, false⟩ → Begun W p g q pr gr qr bH B C D u b (((w1.setCell ⟨bH, 8 + u, none⟩ (.pointer (some ⟨b, 0, none⟩))).setCell ⟨bH, 20 + u, none⟩ (.pointer (some ⟨w1.heap.size, 0, none⟩))).alloc (adObj qr)) := by
    intro w1 b U hb hb2 P
    have UU := (up_drew w).trans U
    have hz := UU.size
    have hord := X.ord
    have hb' : w.heap.size ≤ b := hb
    have E0 : Else [bH] w1 (((w1.setCell ⟨bH, 8 + u, none⟩ (.pointer (some ⟨b, 0, none⟩))).setCell ⟨bH, 20 + u, none⟩ (.pointer (some ⟨w1.heap.size, 0, none⟩))).alloc (adObj qr)) := (((Else.refl [bH] w1).set (.inl (by simp)) _).set (.inl (by simp)) _).alloc _
    have hs : (((w1.setCell ⟨bH, 8 + u, none⟩ (.pointer (some ⟨b, 0, none⟩))).setCell ⟨bH, 20 + u, none⟩ (.pointer (some ⟨w1.heap.size, 0, none⟩))).alloc (adObj qr)).heap.size = w1.heap.size + 1 := by simp
    have hnew : Whole (((w1.setCell ⟨bH, 8 + u, none⟩ (.pointer (some ⟨b, 0, none⟩))).setCell ⟨bH, 20 + u, none⟩ (.pointer (some ⟨w1.heap.size, 0, none⟩))).alloc (adObj qr)) w1.heap.size 86 (radRow qr 0 0 false false) := by
      have h := Whole.new ((w1.setCell ⟨bH, 8 + u, none⟩ (.pointer (some ⟨b, 0, none⟩))).setCell ⟨bH, 20 + u, none⟩ (.pointer (some ⟨w1.heap.size, 0, none⟩))) 86 (radRow qr 0 0 false false)
      rw [size_set, size_set] at h
      exact h
    have A := ((X.arr.up UU).set (8 + u) (ptr b)).set (20 + u) (ptr w1.heap.size)
    rw [row24_set, row24_set] at A
    exact key ((Else.of_up UU).trans E0) (A.alloc _) (P.else E0 (by simp; omega)) ⟨hnew, by decide, fun _ => by simp⟩ ⟨hb', by rw [hs]; omega⟩ ⟨hz, by rw [hs]; omega⟩
  have keyB : ∀ {w1 : World} {b : Nat}, Up (w.alloc (adObj qr)).drew w1 → (w.alloc (adObj qr)).drew.heap.size ≤ b → b < w1.heap.size → AdM w1 b q 4 ⟨0, 0, false, false⟩ → Begun W p g q pr gr qr bH B C D u b ((w1.setCell ⟨bH, 8 + u, none⟩ (.pointer (some ⟨b, 0, none⟩))).setCell ⟨bH, 20 + u, none⟩ (.pointer (some ⟨w.heap.size, 0, none⟩))) := by
    intro w1 b U hb hb2 P
    have UU := ((Up.alloc w (adObj qr)).then_drew).trans U
    have hz := U.size
    have hord := X.ord
    have hz2 : (w.alloc (adObj qr)).drew.heap.size = w.heap.size + 1 := by
      show (w.alloc (adObj qr)).heap.size = w.heap.size + 1
      simp
    have E0 : Else [bH] w1 ((w1.setCell ⟨bH, 8 + u, none⟩ (.pointer (some ⟨b, 0, none⟩))).setCell ⟨bH, 20 + u, none⟩ (.pointer (some ⟨w.heap.size, 0, none⟩))) := ((Else.refl [bH] w1).set (.inl (by simp)) _).set (.inl (by simp)) _
    have hs : ((w1.setCell ⟨bH, 8 + u, none⟩ (.pointer (some ⟨b, 0, none⟩))).setCell ⟨bH, 20 + u, none⟩ (.pointer (some ⟨w.heap.size, 0, none⟩))).heap.size = w1.heap.size := by simp
    have hnew : Whole (w.alloc (adObj qr)).drew w.heap.size 86 (radRow qr 0 0 false false) := (Whole.new w 86 (radRow qr 0 0 false false)).up (up_drew _)
    have A := ((X.arr.up UU).set (8 + u) (ptr b)).set (20 + u) (ptr w.heap.size)
    rw [row24_set, row24_set] at A
    have R : RAdM w1 w.heap.size qr 4 ⟨0, 0, false, false⟩ := ⟨hnew.up U, by decide, fun _ => by simp⟩
    exact key ((Else.of_up UU).trans E0) A (P.else E0 (by simp; omega)) (R.else E0 (by simp; omega)) ⟨by omega, by rw [hs]; omega⟩ ⟨Nat.le_refl _, by rw [hs]; omega⟩
  have HKA := Lib.hid (fun w1 b => @keyA w1 b)
  have HKB := Lib.hid (fun w1 b => @keyB w1 b)
  have HX := Lib.hid X
  have hD : bH < w.heap.size := by have := X.ord; omega
  have zb0 : (z == 0) = false := by simp [z0]
  have zb1 : (z == 1) = false := by simp [z1]
  clear X L key keyA keyB em h1 h2 h3 ho
  go_enter Try.func38, Try.ntmps38
  go_upto_region 10 with fail
  go_region_held3 (fun _ => True) (exact trivial)
    (first
      | (go_at_call 27; refine (ad_contract _ q).mono ?_; rintro r w1 ⟨b, rfl, b1, b2, P1, U1⟩;
         have UU : Up w w1 := (by first | exact (up_drew w).trans U1 | exact ((Up.alloc w _).then_drew).trans U1);
         obtain ⟨y1, g1, y2, g2⟩ := HX.out.cells1 (k1 := 8 + u) (k2 := 20 + u) (x := .pointer (some ⟨b, 0, none⟩)) UU (by omega) (by omega);
         obtain ⟨y3, g3, y4, g4⟩ := HX.out.cells3 (k1 := 8 + u) (k2 := 20 + u) (x := .pointer (some ⟨b, 0, none⟩)) UU (adObj qr) (by omega) (by omega);
         have hlt : bH < w1.heap.size := Nat.lt_of_lt_of_le hD UU.size;
         have hne : ¬ bH = w1.heap.size := Nat.ne_of_lt hlt;
         have hne' : ¬ w1.heap.size = bH := fun h => hne h.symm))
  all_goals (
    clear y1 g1 y2 g2 y3 g3 y4 g4
    first
      | (have HB := Lib.hid (HKA.out w1 b U1 b1 b2 P1)
         have yc := HB.out.cell
         go_wp2_with (go_at_call 24; refine (adDone HB.out.mach f_no).mono ?_; rintro r w' ⟨rfl, rfl⟩)
         go_ret
         exact ⟨rfl, HB.out.out⟩)
      | (have HB := Lib.hid (HKB.out w1 b U1 b1 b2 P1)
         have yc := HB.out.cell
         go_wp2_with (go_at_call 24; refine (adDone HB.out.mach f_no).mono ?_; rintro r w' ⟨rfl, rfl⟩)
         go_ret
         exact ⟨rfl, HB.out.out⟩))
set_option maxHeartbeats 1000000 in
theorem goes_idle (X : Play W w p g q pr gr qr bH B C D m V o xs c) (L : ∀ u, u < 4 → (m u).live) (hu : u < 4) (em : m u = .idle) (z : Int) :
    Calls Try.prog 13 #[.pointer (some ⟨bH, 0, none⟩), .pointer (some ⟨q, 0, none⟩), .pointer (some ⟨qr, 0, none⟩), .int .i64 (u : Int), .int .i64 z] w fun e w' => e = .returned (.bool true) ∧ PlayOut W p g q pr gr qr bH B C D w' := by
  have hN : Calls Try.prog 38 #[.pointer (some ⟨bH, 0, none⟩), .pointer (some ⟨q, 0, none⟩), .pointer (some ⟨qr, 0, none⟩), .int .i64 (u : Int), .int .i64 z] w fun e w' => e = .returned (.bool true) ∧ PlayOut W p g q pr gr qr bH B C D w' := by
    by_cases z0 : z = 0
    · subst z0; exact begins_en X L hu em
    · by_cases z1 : z = 1
      · subst z1; exact begins_le X L hu em
      · exact begins_ad X L hu em z0 z1
  have HN := Lib.hid hN
  have hmw := X.mw u hu
  rw [em] at hmw
  generalize ho : o u = l at hmw
  cases hmw with
  | idle h1 h2 h3 =>
  have j0 : (0 : Int) ≤ (u : Int) := Int.natCast_nonneg _
  have j1 : (u : Int) < 4 := by omega
  have k0 := X.arr.cell (row24_get (V := V) (k := u) (by omega))
  have k4 := X.arr.cell (row24_get (V := V) (k := 4 + u) (by omega))
  have k8 := X.arr.cell (row24_get (V := V) (k := 8 + u) (by omega))
  rw [h1] at k0
  rw [h2] at k4
  rw [h3] at k8
  clear hN X L em h1 h2 h3 ho
  go_enter Try.func13, Try.ntmps13
  go_wp2_with (go_at_call 38; refine HN.out.mono ?_; rintro r w1 ⟨rfl, O1⟩; have HO1 := Lib.hid O1; clear O1)
  go_ret
  exact ⟨rfl, HO1.out⟩
/-- One of them goes on. -/
theorem goes_any (X : Play W w p g q pr gr qr bH B C D m V o xs c) (L : ∀ u, u < 4 → (m u).live) (hu : u < 4) (z : Int) :
    Calls Try.prog 13 #[.pointer (some ⟨bH, 0, none⟩), .pointer (some ⟨q, 0, none⟩), .pointer (some ⟨qr, 0, none⟩), .int .i64 (u : Int), .int .i64 z] w fun e w' => e = .returned (.bool true) ∧ PlayOut W p g q pr gr qr bH B C D w' := by
  have hl := L u hu
  cases em : m u with
  | idle => exact goes_idle X L hu em z
  | en e =>
    rw [em] at hl
    have h2 : e.i < 2 := hl
    rcases (show e.i = 0 ∨ e.i = 1 by omega) with h | h
    · exact goes_en0 X L hu em h z
    · exact goes_en1 X L hu em h z
  | le d =>
    rw [em] at hl
    have hd : d = false := hl
    subst hd
    exact goes_le X L hu em z
  | ad a =>
    rw [em] at hl
    exact goes_ad X L hu em hl z
end
end Go.Proofs.Ytngaokhlcdlpfaa
