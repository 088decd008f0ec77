/-
  Texts beneath ChainPlays, part 28: Part11, Part12, Part13.
-/
import Derived.Test.YteofgnifpkcgmaaPart27
import Derived.OwnWalk
/-
  Texts beneath ChainPlays, part 11: ChLaw, ChMade, ChFirst, Config.
-/
/-
  The statements' own sets, walks, size, made and first (layer 12), over the chains alone.
-/
namespace Go.Proofs.Yteofgnifpkcgmaa
open Go.RowKit
open W64
set_option maxRecDepth 100000
/-- The statements' configuration. -/
abbrev cfM (n : Nat) : Cf := ⟨1, (n : Int), 8, 1, 0, 1⟩
/-- What the memory is when all chunks are in the pool. -/
def mem0 (n : Nat) : St := fillS (St.zero (6 + 9 * n)) 0 6 n
section
variable {w0 w w' : World} {q p g qs lk n b k : Nat} {c : Cf} {s s' : St} {v : Value} {L S : List Nat} {fin : Bool} {bh : Int}
theorem cfM_may (h1 : 1 ≤ n) (h4 : n ≤ 100) : mayB (cfM n) = true := mayB_iff.2 ⟨by constructor <;> (dsimp only; omega), by constructor <;> (dsimp only; omega), by refine ⟨?_, ?_, ?_⟩ <;> (dsimp only; omega), by constructor <;> (dsimp only; omega), by constructor <;> (dsimp only; omega), by constructor <;> (dsimp only; omega)⟩
theorem cfM_len (h1 : 1 ≤ n) (h4 : n ≤ 100) : lenN (cfM n) = ((6 + 9 * n : Nat) : Int) := by
  rw [lenN_is (cfM_may h1 h4)]; unfold fwN; dsimp only; omega
theorem mem0_len (n : Nat) : (mem0 n).xs.length = 6 + 9 * n := by unfold mem0; rw [fillS_len]; simp [St.zero]
theorem mem0_c (n : Nat) : (mem0 n).c = 0 := by unfold mem0; rw [fillS_c]; rfl
set_option maxHeartbeats 2000000 in
/-- One alone sets a link. -/
theorem sets_any (R : Cha w q p g qs c lk n s) (hk : k < n) (h0 : -1 ≤ bh) (h1 : bh < n) :
    Calls Try.prog 13 #[.pointer (some ⟨q, 0, none⟩), .int .i64 (k : Int), .int .i64 bh] w fun e w' => e = .returned (.bool true) ∧ Cha w' q p g qs c lk n (setS s lk k bh) ∧ Else [p, g] w w' := by
  have HN := Lib.hid (chSet R hk h0 h1)
  have HR := Lib.hid R
  have HI := Lib.hid (And.intro hk (And.intro h0 h1))
  clear R hk h0 h1
  go_enter Try.func13, Try.ntmps13
  go_wp2_with (first
    | (go_at_call 31; refine HN.out.mono ?_; rintro e w1 ⟨b, rfl, M1, b1, U1⟩; have HM1 := Lib.hid M1; have HB1 := Lib.hid b1; have HU1 := Lib.hid U1; clear M1 b1 U1)
    | (go_at_call 39; (with_reducible refine (seDone HM1.out).mono ?_); rintro e w2 ⟨rfl, rfl⟩)
    | (go_at_call 40; refine (seStep (HR.out.up HU1.out) HM1.out HI.out.1 HI.out.2.1 HI.out.2.2).mono ?_; rintro e w2 ⟨rfl, C2, M2, E2⟩; have HC2 := Lib.hid C2; have HM2 := Lib.hid M2; have HE2 := Lib.hid E2; clear C2 M2 E2)
    | (go_at_call 39; (with_reducible refine (seDone HM2.out).mono ?_); rintro e w3 ⟨rfl, rfl⟩)
    | (go_at_call 40; (with_reducible refine (seStep_no HM2.out).mono ?_); rintro e w3 ⟨rfl, rfl⟩))
  go_ret
  refine ⟨rfl, HC2.out, (Else.of_up HU1.out).new_too HE2.out ?_⟩
  intro x hx
  simp at hx
  rcases hx with rfl | rfl | rfl
  · exact .inr HB1.out
  · exact .inl (by simp)
  · exact .inl (by simp)
/-- While one alone walks. -/
structure WkS (w0 : World) (q p g qs : Nat) (c : Cf) (lk n : Nat) (xs : List Int) (cn : Int) (S : List Nat) (b j : Nat) (v : Value) (L : List Nat) (fin : Bool) (s : St) (w : World) : Prop where
  cha : Cha w q p g qs c lk n s
  mach : WkM w b q v L fin
  hx : s.xs = xs
  hcn : s.c = cn + j
  he : Else [p, g] w0 w
  hb : w0.heap.size ≤ b
  hv : ∀ k, v.ownBlock = some k → w0.heap.size ≤ k
  go : fin = false → WkInv n lk xs S L ∧ L.length = j + 1
  end_ : fin = true → L = S ∧ L.length = j
def WkAt (w0 : World) (q p g qs : Nat) (c : Cf) (lk n : Nat) (xs : List Int) (cn : Int) (S : List Nat) (b : Nat) (vn vi : Value) (w : World) : Prop :=
  ∃ (j : Nat) (v : Value) (L : List Nat) (fin : Bool) (s : St), vn = .int .i64 (j : Int) ∧ vi = .int .i64 (j : Int) ∧ WkS w0 q p g qs c lk n xs cn S b j v L fin s w
variable {xs : List Int} {cn : Int} {j : Nat}
theorem WkS.len (X : WkS w0 q p g qs c lk n xs cn S b j v L fin s w) (hS : S.length ≤ n) : j ≤ n := by
  cases fin with
  | false => have h := X.go rfl; have := h.1.le; omega
  | true => obtain ⟨h1, h2⟩ := X.end_ rfl; rw [h1] at h2; omega
theorem WkS.step (X : WkS w0 q p g qs c lk n xs cn S b j v L false s w) (hc : 0 ≤ cn ∧ cn ≤ 1000000) (hj : j ≤ 1000) :
    Calls Try.prog 50 #[.pointer (some ⟨b, 0, none⟩)] w fun e w' => e = .returned (.bool true) ∧ ∃ v' L' fin' s', WkS w0 q p g qs c lk n xs cn S b (j + 1) v' L' fin' s' w' := by
  obtain ⟨I1, I2⟩ := X.go rfl
  refine (wkStep X.cha X.mach I1.ne I1.all I1.le).mono ?_
  rintro e w' ⟨rfl, v', s', h1, h2, O⟩
  refine ⟨rfl, v', wkGo n lk s.xs L, wkEnd n lk s.xs L, s', O.cha, O.mach, h2.trans X.hx, ?_, ?_, X.hb, ?_, ?_, ?_⟩
  · rw [h1, X.hcn, wrap64_in (by omega) (by omega)]; omega
  · refine X.he.new_too O.he ?_
    intro x hx
    simp [wkOwn] at hx
    rcases hx with rfl | rfl | rfl | hx
    · exact .inr X.hb
    · exact .inl (by simp)
    · exact .inl (by simp)
    · exact .inr (X.hv _ (mem_blk.1 hx))
  · intro k hk
    rcases O.near with h | h
    · exact X.hv k (h ▸ hk)
    · exact Nat.le_trans X.he.size (h k hk)
  · intro hf
    rw [X.hx] at hf ⊢
    obtain ⟨a1, a2⟩ := I1.goes (fun i => (X.hx ▸ (X.cha.env.ok.words i).1)) hf
    exact ⟨a1, by omega⟩
  · intro hf
    rw [X.hx] at hf ⊢
    have e : wkGo n lk xs L = L := by unfold wkGo; rw [if_pos hf]
    rw [e]
    exact ⟨I1.done hf, I2⟩
set_option maxHeartbeats 4000000 in
theorem walks_any (R : Cha w q p g qs c lk n s) (hk : k < n) (hn : n ≤ 29) (hc : 0 ≤ s.c ∧ s.c ≤ 1000000) {S : List Nat} (hS : walkL n lk s.xs n (k : Int) = S) {m : Int} (hm : (S.length : Int) = m) :
    Calls Try.prog 21 #[.pointer (some ⟨q, 0, none⟩), .int .i64 (k : Int)] w fun e w' => ∃ v s', e = .returned (.tuple #[v, .int .i64 m]) ∧ Ints w' v (I S) ∧ Fresh w v ∧ Cha w' q p g qs c lk n s' ∧ s'.xs = s.xs ∧ s'.c = s.c + m ∧ Else [p, g] w w' := by
  have HN := Lib.hid (chWalk R hk)
  have HR := Lib.hid R
  have HI := Lib.hid (And.intro hk (And.intro hn hc))
  have HSL := Lib.hid (show S.length ≤ n by rw [← hS]; exact walkL_len _ _)
  have HW0 := Lib.hid (show WkInv n lk s.xs S [k] by rw [← hS]; exact WkInv.start hk)
  subst hm
  clear R hk hn hc hS
  go_enter Try.func21, Try.ntmps21
  go_wp2_with (first
    | (go_at_call 32; refine HN.out.mono ?_; rintro e w1 ⟨b, v, rfl, M1, b1, F1, U1⟩; have HM1 := Lib.hid M1; have HX := Lib.hid (show WkS w q p g qs c lk n s.xs s.c S b 0 v [k] false s w1 from ⟨HR.out.up U1, M1, rfl, by omega, Else.of_up U1, b1, F1, fun _ => ⟨HW0.out, rfl⟩, fun h => by cases h⟩); clear M1 b1 F1 U1)
    | (go_at_call 49; (with_reducible refine (wkList_no HM1.out).mono ?_); rintro e w2 ⟨rfl, rfl⟩))
  go_loopw [8, 9] (fun vn vi wr => WkAt w q p g qs c lk n s.xs s.c S b vn vi wr) (fun _ i _ => 40 - (intOf i).toNat)
  case atStart => exact ⟨0, v, [k], false, s, rfl, rfl, HX.out⟩
  case round =>
    obtain ⟨j, vj, Lj, fin, sj, rfl, rfl, X⟩ := hrel
    have HXj := Lib.hid X
    have hj := X.len HSL.out
    have hn := HI.out.2.1
    clear X
    have i0 : (0 : Int) ≤ (j : Int) := Int.natCast_nonneg _
    have i1 : (j : Int) < 30 := by omega
    cases fin
    · go_wp2_with (first
        | (go_at_call 50; refine (HXj.out.step HI.out.2.2 (by omega)).mono ?_; rintro e w3 ⟨rfl, v3, L3, f3, s3, X3⟩; have HX3 := Lib.hid X3; clear X3))
      go_roundw
      case rel => exact ⟨j + 1, v3, L3, f3, s3, by go_num, by go_num, HX3.out⟩
      case measure => simp [intOf]; omega
    · have HE := Lib.hid (HXj.out.end_ rfl)
      go_wp2_with (first
        | (go_at_call 50; (with_reducible refine (wkStep_no HXj.out.mach).mono ?_); rintro e w3 ⟨rfl, rfl⟩)
        | (go_at_call 51; (with_reducible refine (wkDone HXj.out.mach).mono ?_); rintro e w3 ⟨rfl, rfl⟩)
        | (go_at_call 49; refine (wkList HXj.out.mach (by have := HE.out.2; omega)).mono ?_; rintro e w4 ⟨v4, rfl, J4, F4, U4⟩; obtain ⟨A4, N4, c4, rfl⟩ := shapeI J4; have HJ4 := Lib.hid J4; have HF4 := Lib.hid F4; have HU4 := Lib.hid U4; clear J4 F4 U4))
      go_ret2
      obtain ⟨h1, h2⟩ := HE.out
      have hm : S.length = j := by rw [← h1]; exact h2
      rw [hm]
      exact ⟨_, sj, rfl, h1 ▸ HJ4.out, fresh_of_le HF4.out HXj.out.he.size, HXj.out.cha.up HU4.out, HXj.out.hx, HXj.out.hcn, HXj.out.he.up HU4.out⟩
end
end Go.Proofs.Yteofgnifpkcgmaa

/-
  The statements' own size, made and first (layer 12): the program's chains, newer than a base world (ChS).
-/
namespace Go.Proofs.Yteofgnifpkcgmaa
open Go.RowKit
open W64
set_option maxRecDepth 100000
set_option linter.unusedSimpArgs false
/-- The chains of a memory that is newer than W. -/
structure ChS (W w : World) (q p g qs n : Nat) (s : St) : Prop where
  cha : Cha w q p g qs (cfM n) 6 n s
  up : Up W w
  hp : W.heap.size ≤ p
  hg : W.heap.size ≤ g
section
variable {W w w' : World} {q p g qs n k : Nat} {s s' : St} {v : Value}
theorem ChS.ups (T : ChS W w q p g qs n s) (u : Up w w') : ChS W w' q p g qs n s := ⟨T.cha.up u, T.up.trans u, T.hp, T.hg⟩
theorem ChS.base {W0 : World} (T : ChS W w q p g qs n s) (u : Up W0 W) : ChS W0 w q p g qs n s := ⟨T.cha, u.trans T.up, Nat.le_trans u.size T.hp, Nat.le_trans u.size T.hg⟩
theorem ChS.turn (T : ChS W w q p g qs n s) (C : Cha w' q p g qs (cfM n) 6 n s') (E : Else [p, g] w w') : ChS W w' q p g qs n s' := by
  refine ⟨C, Else.up_new T.up E ?_, T.hp, T.hg⟩
  intro k hk
  simp at hk
  rcases hk with rfl | rfl
  · exact T.hp
  · exact T.hg
set_option maxHeartbeats 2000000 in
theorem size_any {a x : Int} {n : Nat} (hx : a % 8 = x) (hn : 3 + x = (n : Int)) (w : World) :
    Calls Try.prog 8 #[.int .i64 a] w fun e w' => e = .returned (.agg #[.int .i64 1, .int .i64 (n : Int), .int .i64 8, .int .i64 1, .int .i64 0, .int .i64 1]) ∧ Up w w' := by
  have HX := Lib.hid hx
  have k1 : IntKind.i64.wrap (3 + x) = (n : Int) := by rw [hn]; exact IntWalk.i64_in _ (by omega)
  have k2 : wrap64 (3 + x) = (n : Int) := by rw [hn]; exact wrap64_in (by omega) (by omega)
  clear hx hn
  go_enter Try.func8, Try.ntmps8
  go_wp2_with (first
    | (go_at_call 12; (with_reducible refine (number_is HX.out (by decide) (by decide) _).mono ?_); rintro e w' ⟨rfl, rfl⟩))
  refine bodyPost_ret (v := .agg #[.int .i64 1, .int .i64 (n : Int), .int .i64 8, .int .i64 1, .int .i64 0, .int .i64 1]) (by simp [results, Try.results8, go_sem, k1, k2]) rfl ⟨rfl, ?_⟩
  exact Up.alloc _ _
set_option maxHeartbeats 4000000 in
theorem made_any {n : Nat} (h1 : 1 ≤ n) (h4 : n ≤ 100) (w : World) :
    Calls Try.prog 9 #[.agg #[.int .i64 1, .int .i64 (n : Int), .int .i64 8, .int .i64 1, .int .i64 0, .int .i64 1]] w fun e w' => ∃ q p g qs, e = .returned (.tuple #[.pointer (some ⟨p, 0, none⟩), .pointer (some ⟨q, 0, none⟩)]) ∧ ChS w w' q p g qs n (mem0 n) := by
  obtain ⟨L, hL⟩ : ∃ L, 6 + 9 * n = L := ⟨_, rfl⟩
  have hlen := cfM_len h1 h4
  rw [hL] at hlen
  have HLEN := Lib.hid hlen
  have HLL := Lib.hid (show 1 ≤ L ∧ L ≤ 8388608 by omega)
  have HMAY := Lib.hid (cfM_may h1 h4)
  have HZ := Lib.hid (show mem0 n = fillS (St.zero L) 0 6 n by unfold mem0; rw [hL])
  have zl : (St.zero L).xs.length = L := by simp [St.zero]
  have HZL := Lib.hid (show (St.zero L).xs.length ≤ 8388608 ∧ lenN (cfM n) ≤ ((St.zero L).xs.length : Int) by rw [zl, hlen]; exact ⟨HLL.out.2, Int.le_refl _⟩)
  clear hlen zl hL h1 h4
  obtain ⟨b0, hb0⟩ : ∃ b0, w.heap.size = b0 := ⟨_, rfl⟩
  have HB0 := Lib.hid (Whole.new w 25 #[.int .i64 1, .int .i64 (n : Int), .int .i64 8, .int .i64 1, .int .i64 0, .int .i64 1])
  rw [hb0] at HB0
  have HU0 := Lib.hid (Up.alloc w (.cells #[.int .i64 1, .int .i64 (n : Int), .int .i64 8, .int .i64 1, .int .i64 0, .int .i64 1] 25))
  go_enter Try.func9, Try.ntmps9
  go_upto_region 1 with fail
  clear hb0
  generalize w.alloc (.cells #[.int .i64 1, .int .i64 (n : Int), .int .i64 8, .int .i64 1, .int .i64 0, .int .i64 1] 25) = w1 at *
  have e0 := HB0.out.cell (i := 0) (v := .int .i64 1) rfl
  have e1 := HB0.out.cell (i := 1) (v := .int .i64 (n : Int)) rfl
  have e2 := HB0.out.cell (i := 2) (v := .int .i64 8) rfl
  have e3 := HB0.out.cell (i := 3) (v := .int .i64 1) rfl
  have e4 := HB0.out.cell (i := 4) (v := .int .i64 0) rfl
  have e5 := HB0.out.cell (i := 5) (v := .int .i64 1) rfl
  go_upto_region 4 with (first
    | (go_at_call 29; refine (len_is (c := cfM n) HLEN.out _).mono ?_; rintro e w2 ⟨rfl, U2⟩; have HU2 := Lib.hid U2; clear U2)
    | (go_at_call 28; refine (new_in L HLL.out.1 HLL.out.2 _).mono ?_; rintro e w3 ⟨rfl, M3, U3⟩; have HM3 := Lib.hid M3; have HB3 := Lib.hid ((HB0.out.up HU2.out).up U3); have HU3 := Lib.hid ((HU0.out.trans HU2.out).trans U3); clear M3 U3))
  clear e0 e1 e2 e3 e4 e5
  have HS2 := Lib.hid (show w.heap.size ≤ w2.heap.size from (HU0.out.trans HU2.out).size)
  obtain ⟨g, hg⟩ : ∃ g, w2.heap.size = g := ⟨_, rfl⟩
  obtain ⟨p, hp⟩ : ∃ p, g + 1 = p := ⟨_, rfl⟩
  have HPG := Lib.hid (show w.heap.size ≤ p ∧ w.heap.size ≤ g by have := HS2.out; omega)
  rw [hg, hp] at HM3 ⊢
  clear hg hp
  have e0 := HB3.out.cell (i := 0) (v := .int .i64 1) rfl
  have e1 := HB3.out.cell (i := 1) (v := .int .i64 (n : Int)) rfl
  have e2 := HB3.out.cell (i := 2) (v := .int .i64 8) rfl
  have e3 := HB3.out.cell (i := 3) (v := .int .i64 1) rfl
  have e4 := HB3.out.cell (i := 4) (v := .int .i64 0) rfl
  have e5 := HB3.out.cell (i := 5) (v := .int .i64 1) rfl
  go_wp2_with (first
    | (go_at_call 30; refine (chNew (c := cfM n) (lk := 6) (n := n) HM3.out (St.Ok.zero L) HZL.out.1 HMAY.out (by rfl) (by rfl) HZL.out.2).mono ?_; rintro e w4 ⟨q, qs, rfl, C4, _, _, U4⟩; have HC4 := Lib.hid C4; have HU4 := Lib.hid (HU3.out.trans U4); clear C4 U4)
    | (go_at_call 33; refine (chFill HC4.out).mono ?_; rintro e w5 ⟨rfl, C5, E5⟩; have HC5 := Lib.hid C5; have HE5 := Lib.hid E5; clear C5 E5))
  go_ret2
  rw [HZ.out]
  exact ⟨q, p, g, qs, rfl, ChS.turn (s := St.zero L) ⟨HC4.out, HU4.out, HPG.out.1, HPG.out.2⟩ HC5.out HE5.out⟩
end
end Go.Proofs.Yteofgnifpkcgmaa

/-
  The statements' own first (layer 12).
-/
namespace Go.Proofs.Yteofgnifpkcgmaa
open Go.RowKit
open W64
set_option maxRecDepth 100000
set_option linter.unusedSimpArgs false
section
variable {W w w' : World} {q p g qs n k : Nat} {s s' : St} {v : Value}
theorem fst_I : I [2, 0] = [2, 0] := rfl
theorem fst_l : walkL 3 6 (setS (setS (mem0 3) 6 0 (-1)) 6 2 0).xs 3 ((2 : Nat) : Int) = [2, 0] := by rfl
theorem fst_c : 0 ≤ (setS (setS (mem0 3) 6 0 (-1)) 6 2 0).c ∧ (setS (setS (mem0 3) 6 0 (-1)) 6 2 0).c ≤ 1000000 := by rw [setS_c, setS_c, mem0_c, wrap64_in (show (-9223372036854775808 : Int) ≤ 0 + 1 by decide) (by decide), wrap64_in (by decide) (by decide)]; decide
theorem made_three (w : World) : Calls Try.prog 9 #[.agg #[.int .i64 1, .int .i64 3, .int .i64 8, .int .i64 1, .int .i64 0, .int .i64 1]] w fun e w' => ∃ q p g qs, e = .returned (.tuple #[.pointer (some ⟨p, 0, none⟩), .pointer (some ⟨q, 0, none⟩)]) ∧ ChS w w' q p g qs 3 (mem0 3) := made_any (n := 3) (by decide) (by decide) w
theorem size_zero (w : World) : Calls Try.prog 8 #[.int .i64 0] w fun e w' => e = .returned (.agg #[.int .i64 1, .int .i64 3, .int .i64 8, .int .i64 1, .int .i64 0, .int .i64 1]) ∧ Up w w' := size_any (a := 0) (x := 0) (n := 3) (by decide) (by decide) w
theorem set1_to (R : Cha w q p g qs (cfM 3) 6 3 (mem0 3)) : Calls Try.prog 13 #[.pointer (some ⟨q, 0, none⟩), .int .i64 0, .int .i64 (-1)] w fun e w' => e = .returned (.bool true) ∧ Cha w' q p g qs (cfM 3) 6 3 (setS (mem0 3) 6 0 (-1)) ∧ Else [p, g] w w' := sets_any (k := 0) R (by decide) (by decide) (by decide)
theorem set2_to (R : Cha w q p g qs (cfM 3) 6 3 (setS (mem0 3) 6 0 (-1))) : Calls Try.prog 13 #[.pointer (some ⟨q, 0, none⟩), .int .i64 2, .int .i64 0] w fun e w' => e = .returned (.bool true) ∧ Cha w' q p g qs (cfM 3) 6 3 (setS (setS (mem0 3) 6 0 (-1)) 6 2 0) ∧ Else [p, g] w w' := sets_any (k := 2) R (by decide) (by decide) (by decide)
theorem walk1_to (R : Cha w q p g qs (cfM 3) 6 3 (setS (setS (mem0 3) 6 0 (-1)) 6 2 0)) : Calls Try.prog 21 #[.pointer (some ⟨q, 0, none⟩), .int .i64 2] w fun e w' => ∃ v s', e = .returned (.tuple #[v, .int .i64 2]) ∧ Ints w' v (I [2, 0]) ∧ Fresh w v ∧ Cha w' q p g qs (cfM 3) 6 3 s' ∧ s'.xs = (setS (setS (mem0 3) 6 0 (-1)) 6 2 0).xs ∧ s'.c = (setS (setS (mem0 3) 6 0 (-1)) 6 2 0).c + 2 ∧ Else [p, g] w w' :=
  walks_any (k := 2) R (by decide) (by decide) fst_c fst_l (by rfl)
theorem list1_to (R : Cha w q p g qs (cfM 3) 6 3 s) (h : s.xs = (setS (setS (mem0 3) 6 0 (-1)) 6 2 0).xs) : Calls Try.prog 19 #[.pointer (some ⟨q, 0, none⟩), .int .i64 2] w fun e w' => ∃ v, e = .returned v ∧ Ints w' v (I [2, 0]) ∧ Fresh w v ∧ Up w w' := by
  have H := chList_in R (k := 2) (by decide)
  rw [h, fst_l] at H
  exact H
theorem first_pack : ∃ s1 s2 s3 : St,
    (∀ w : World, Calls Try.prog 9 #[.agg #[.int .i64 1, .int .i64 3, .int .i64 8, .int .i64 1, .int .i64 0, .int .i64 1]] w fun e w' => ∃ q p g qs, e = .returned (.tuple #[.pointer (some ⟨p, 0, none⟩), .pointer (some ⟨q, 0, none⟩)]) ∧ ChS w w' q p g qs 3 s1) ∧
    (∀ (w : World) (q p g qs : Nat), Cha w q p g qs (cfM 3) 6 3 s1 → Calls Try.prog 13 #[.pointer (some ⟨q, 0, none⟩), .int .i64 0, .int .i64 (-1)] w fun e w' => e = .returned (.bool true) ∧ Cha w' q p g qs (cfM 3) 6 3 s2 ∧ Else [p, g] w w') ∧
    (∀ (w : World) (q p g qs : Nat), Cha w q p g qs (cfM 3) 6 3 s2 → Calls Try.prog 13 #[.pointer (some ⟨q, 0, none⟩), .int .i64 2, .int .i64 0] w fun e w' => e = .returned (.bool true) ∧ Cha w' q p g qs (cfM 3) 6 3 s3 ∧ Else [p, g] w w') ∧
    (∀ (w : World) (q p g qs : Nat), Cha w q p g qs (cfM 3) 6 3 s3 → Calls Try.prog 21 #[.pointer (some ⟨q, 0, none⟩), .int .i64 2] w fun e w' => ∃ v s', e = .returned (.tuple #[v, .int .i64 2]) ∧ Ints w' v (I [2, 0]) ∧ Fresh w v ∧ Cha w' q p g qs (cfM 3) 6 3 s' ∧ s'.xs = s3.xs ∧ s'.c = s3.c + 2 ∧ Else [p, g] w w') ∧
    (∀ (w : World) (q p g qs : Nat) (s : St), Cha w q p g qs (cfM 3) 6 3 s → s.xs = s3.xs → Calls Try.prog 19 #[.pointer (some ⟨q, 0, none⟩), .int .i64 2] w fun e w' => ∃ v, e = .returned v ∧ Ints w' v (I [2, 0]) ∧ Fresh w v ∧ Up w w') :=
  ⟨mem0 3, setS (mem0 3) 6 0 (-1), setS (setS (mem0 3) 6 0 (-1)) 6 2 0, made_three, fun _ _ _ _ _ R => set1_to R, fun _ _ _ _ _ R => set2_to R, fun _ _ _ _ _ R => walk1_to R, fun _ _ _ _ _ _ R h => list1_to R h⟩
set_option maxHeartbeats 4000000 in
theorem first12 (w : World) : Calls Try.prog 7 #[] w fun e w' => e = .returned (.bool true) ∧ Up w w' := by
  obtain ⟨s1, s2, s3, P1, P2, P3, P4, P5⟩ := first_pack
  have H1 := Lib.hid P1
  have H2 := Lib.hid P2
  have H3 := Lib.hid P3
  have H4 := Lib.hid P4
  have H5 := Lib.hid P5
  clear P1 P2 P3 P4 P5
  go_enter Try.func7, Try.ntmps7
  go_wp2_with (first
    | (go_at_call 8; (with_reducible refine (size_zero _).mono ?_); rintro e wA ⟨rfl, UA⟩; have HUA := Lib.hid UA; clear UA)
    | (go_at_call 9; (with_reducible refine (H1.out _).mono ?_); rintro e w1 ⟨q, p, g, qs, rfl, T1⟩; have HT1 := Lib.hid T1; clear T1)
    | (go_at_call 13; (with_reducible refine (H2.out _ _ _ _ _ HT1.out.cha).mono ?_); rintro e w2 ⟨rfl, C2, E2⟩; have HT2 := Lib.hid (HT1.out.turn C2 E2); clear C2 E2)
    | (go_at_call 13; (with_reducible refine (H3.out _ _ _ _ _ HT2.out.cha).mono ?_); rintro e w3 ⟨rfl, C3, E3⟩; have HT3 := Lib.hid (HT2.out.turn C3 E3); clear C3 E3)
    | (go_at_call 21; (with_reducible refine (H4.out _ _ _ _ _ HT3.out.cha).mono ?_); rintro e w4 ⟨v4, s4, rfl, J4, F4, C4, hx4, hc4, E4⟩; rw [fst_I] at J4; obtain ⟨A4, N4, c4, rfl⟩ := shapeI J4; have HT4 := Lib.hid (HT3.out.turn C4 E4); have HJ4 := Lib.hid J4; have HX4 := Lib.hid hx4; clear J4 F4 C4 hx4 hc4 E4)
    | (go_at_call 19; (with_reducible refine (H5.out _ _ _ _ _ _ HT4.out.cha HX4.out).mono ?_); rintro e w5 ⟨v5, rfl, J5, F5, U5⟩; rw [fst_I] at J5; obtain ⟨A5, N5, c5, rfl⟩ := shapeI J5; have HJ5 := Lib.hid J5; have HU5 := Lib.hid U5; have HJ45 := Lib.hid (HJ4.out.up U5); have HSA := Lib.hid (J5.rd.up (Up.alloc w5 (.cells #[.int .i64 2, .int .i64 0] 3))); have HSB := Lib.hid (rd_two w5 2 0); clear J5 F5 U5)
    | (go_at_call 18; (with_reducible refine (same_in HSA.out HSB.out).mono ?_); rintro e w6 ⟨rfl, U6⟩; have HU6 := Lib.hid ((Up.alloc w5 (.cells #[.int .i64 2, .int .i64 0] 3)).trans U6); have HSC := Lib.hid ((HJ45.out.up HU6.out).rd.up (Up.alloc w6 (.cells #[.int .i64 2, .int .i64 0] 3))); have HSD := Lib.hid (rd_two w6 2 0); clear U6)
    | (go_at_call 18; (with_reducible refine (same_in HSC.out HSD.out).mono ?_); rintro e w7 ⟨rfl, U7⟩; have HU7 := Lib.hid ((Up.alloc w6 (.cells #[.int .i64 2, .int .i64 0] 3)).trans U7); clear U7))
  go_ret
  exact ⟨rfl, HUA.out.trans ((((HT4.out.up.trans HU5.out).trans HU6.out).trans HU7.out))⟩
end
end Go.Proofs.Yteofgnifpkcgmaa

/-
  The contract of rundalemake.Config: a small configuration by a number.
-/
namespace Go.Proofs.Yteofgnifpkcgmaa
open Go.RowKit


theorem W3_size (w : World) (o p : Obj) : ((w.alloc o).alloc p).heap.size = w.heap.size + 1 + 1 := by simp
/-- A configuration as Config makes them. -/
def Cf.Small (c : Cf) : Prop := (1 ≤ c.wk ∧ c.wk ≤ 4) ∧ (1 ≤ c.ch ∧ c.ch ≤ 8) ∧ (c.wo = 8 ∨ c.wo = 16) ∧ (1 ≤ c.sl ∧ c.sl ≤ 4) ∧ (0 ≤ c.ca ∧ c.ca ≤ 3) ∧ (1 ≤ c.ba ∧ c.ba ≤ 3)
theorem Cf.Small.may {c : Cf} (h : c.Small) : mayB c = true := by
  obtain ⟨_, _, _, _, _, _⟩ := h
  refine mayB_iff.2 ⟨?_, ?_, ?_, ?_, ?_, ?_⟩ <;> omega

end Go.Proofs.Yteofgnifpkcgmaa

/-
  Texts beneath ChainPlays, part 12: ChEnds.
-/
/-
  Links that go round, links beyond the last chunk, chunks one behind the other: the lists that they make, as plain data; the statements' own sets and walks at them.
-/
namespace Go.Proofs.Yteofgnifpkcgmaa
open Go.RowKit
open W64
set_option maxRecDepth 100000
set_option linter.unusedSimpArgs false
/-- Going along a list: the world does not turn. -/
def StillRel (w4 : World) (n : Nat) (i : Value) (wr : World) : Prop := wr = w4 ∧ ∃ j : Nat, j ≤ n ∧ i = .int .i64 j
section
variable {W w w' : World} {q p g qs n lk a f k m : Nat} {s s' : St} {v : Value} {xs : List Int} {B : Int} {L : List Nat}
theorem ring_walk (ha : a < n) (hl : lk + a < xs.length) : ∀ f, walkL n lk (xs.set (lk + a) ((a : Int) + 1)) f (a : Int) = List.replicate f a
  | 0 => rfl
  | f + 1 => by
    rw [walkL_nat, getD_same hl, show belowN n ((a : Int) + 1) = (a : Int) by unfold belowN; rw [if_neg (by omega)]; omega, ring_walk ha hl f]
    rfl
theorem end_walk (ha : a < n) (hl : lk + a < xs.length) (hB : (n : Int) < B) : walkL n lk (xs.set (lk + a) B) n (a : Int) = [a] := by
  obtain ⟨f, rfl⟩ : ∃ f, n = f + 1 := ⟨n - 1, by omega⟩
  rw [walkL_nat, getD_same hl, show belowN ((f + 1 : Nat) : Int) B = -1 by unfold belowN; rw [if_pos hB], walkL_neg (by decide)]
theorem ints_shape (J : Ints w v (I L)) (h : L.length = m) : ∃ A c, v = .slice A m c := by
  obtain ⟨A, c, rfl⟩ := J.slice
  exact ⟨A, c, by rw [I_len, h]⟩
theorem wrap_one {c : Int} (h0 : 0 ≤ c) (h1 : c ≤ 1000000) : wrap64 (c + 1) = c + 1 := wrap64_in (by omega) (by omega)
/-- The link of a set to a, then to a word beyond. -/
theorem ends_pack (ha : a < n) (h10 : n ≤ 10) (hB : (n : Int) < B) (hB2 : B < 18446744073709551616) : ∃ s1 : St, s1.c = 1 ∧
    (∀ (w : World) (q p g qs : Nat), Cha w q p g qs (cfM n) 6 n (mem0 n) → Calls Try.prog 13 #[.pointer (some ⟨q, 0, none⟩), .int .i64 (a : Int), .int .i64 (a : Int)] w fun e w' => e = .returned (.bool true) ∧ Cha w' q p g qs (cfM n) 6 n s1 ∧ Else [p, g] w w') ∧
    (∀ (w : World) (q p g qs : Nat), Cha w q p g qs (cfM n) 6 n s1 → Calls Try.prog 21 #[.pointer (some ⟨q, 0, none⟩), .int .i64 (a : Int)] w fun e w' => ∃ v s', e = .returned (.tuple #[v, .int .i64 (n : Int)]) ∧ Ints w' v (I (List.replicate n a)) ∧ Fresh w v ∧ Cha w' q p g qs (cfM n) 6 n s' ∧ s'.xs = s1.xs ∧ s'.c = s1.c + n ∧ Else [p, g] w w') ∧
    (∀ (w : World) (q p g qs : Nat) (s : St), s.xs = s1.xs → Cha w q p g qs (cfM n) 6 n s → Calls Try.prog 19 #[.pointer (some ⟨q, 0, none⟩), .int .i64 (a : Int)] w fun e w' => ∃ v, e = .returned v ∧ Ints w' v (I (List.replicate n a)) ∧ Fresh w v ∧ Up w w') ∧
    (∀ (w : World) (q p g qs : Nat) (s : St), s.xs = s1.xs → Cha w q p g qs (cfM n) 6 n s → Calls Try.prog 27 #[.pointer (some ⟨p, 0, none⟩), .int .i64 ((6 + a : Nat) : Int), .int .u64 B] w fun e w' => e = .returned (.int .i64 0) ∧ (∃ s', s'.c = s.c ∧ s'.xs = s1.xs.set (6 + a) B ∧ Cha w' q p g qs (cfM n) 6 n s') ∧ Else [p, g] w w') ∧
    (∀ (w : World) (q p g qs : Nat) (s : St), s.c = s1.c + n → s.xs = s1.xs.set (6 + a) B → Cha w q p g qs (cfM n) 6 n s → Calls Try.prog 21 #[.pointer (some ⟨q, 0, none⟩), .int .i64 (a : Int)] w fun e w' => ∃ v s', e = .returned (.tuple #[v, .int .i64 1]) ∧ Ints w' v [(a : Int)] ∧ Fresh w v ∧ Cha w' q p g qs (cfM n) 6 n s' ∧ s'.xs = s.xs ∧ Else [p, g] w w') ∧
    (∀ (w : World) (q p g qs : Nat) (s : St), s.xs = s1.xs.set (6 + a) B → Cha w q p g qs (cfM n) 6 n s → Calls Try.prog 19 #[.pointer (some ⟨q, 0, none⟩), .int .i64 (a : Int)] w fun e w' => ∃ v, e = .returned v ∧ Ints w' v [(a : Int)] ∧ Fresh w v ∧ Up w w') := by
  have hl : 6 + a < (mem0 n).xs.length := by rw [mem0_len]; omega
  have hx := setS_xs (mem0 n) 6 a (a : Int)
  have hc : (setS (mem0 n) 6 a (a : Int)).c = 1 := by rw [setS_c, mem0_c]; exact wrap_one (by decide) (by decide)
  have hl1 : 6 + a < (setS (mem0 n) 6 a (a : Int)).xs.length := by rw [hx, List.length_set]; exact hl
  have hw : walkL n 6 (setS (mem0 n) 6 a (a : Int)).xs n (a : Int) = List.replicate n a := by rw [hx]; exact ring_walk ha hl n
  have hw2 : walkL n 6 ((setS (mem0 n) 6 a (a : Int)).xs.set (6 + a) B) n (a : Int) = [a] := end_walk ha hl1 hB
  have hI : I [a] = [(a : Int)] := rfl
  obtain ⟨s1, h9⟩ : ∃ s1, setS (mem0 n) 6 a (a : Int) = s1 := ⟨_, rfl⟩
  rw [h9] at hc hl1 hw hw2
  refine ⟨s1, hc, ?_, ?_, ?_, ?_, ?_, ?_⟩
  · intro w q p g qs R
    have H := sets_any (k := a) (bh := (a : Int)) R ha (by omega) (by omega)
    rw [h9] at H
    exact H
  · intro w q p g qs R
    exact walks_any R ha (by omega) (by rw [hc]; decide) hw (by simp)
  · intro w q p g qs s hs R
    have H := chList_in R ha
    rw [hs, hw] at H
    exact H
  · intro w q p g qs s hs R
    have hla : 6 + a < s.xs.length := by rw [hs]; exact hl1
    refine (lay_in B R.env.mem (i := ((6 + a : Nat) : Int)) ⟨by omega, by omega⟩).mono ?_
    rintro e w' ⟨rfl, M, E⟩
    refine ⟨rfl, ⟨s.lay ((6 + a : Nat) : Int) B, rfl, ?_, R.turn M E (by simp [R.qp, R.qg]) (by simp [R.env.np, R.env.ng]) (R.env.ok.lay _ (by omega) hB2) (lay_len _ _ _)⟩, E⟩
    unfold St.lay
    dsimp only
    rw [hs, Int.toNat_natCast]
  · intro w q p g qs s hsc hs R
    have h := walks_any (m := 1) R ha (by omega) (by rw [hsc, hc]; omega) (S := [a]) (by rw [hs]; exact hw2) rfl
    refine h.mono ?_
    rintro e w' ⟨v, s', rfl, J, F, C, h1, _, E⟩
    exact ⟨v, s', rfl, hI ▸ J, F, C, h1, E⟩
  · intro w q p g qs s hs R
    have H := chList_in R ha
    rw [hs, hw2] at H
    exact H
end
end Go.Proofs.Yteofgnifpkcgmaa

/-
  Texts beneath ChainPlays, part 13: ChBack.
-/
/-
  Chunks set one behind the other (ChainBack), from the last one on: the memory behind each Set, the lists, the count, as plain data; the statements' own sets, walks at them.
-/
namespace Go.Proofs.Yteofgnifpkcgmaa
open Go.RowKit
open W64
set_option maxRecDepth 100000
set_option linter.unusedSimpArgs false
/-- Behind j Sets: k - 1 ahead of none, k - 2 ahead of k - 1 .. -/
def backS (n k : Nat) : Nat → St
  | 0 => mem0 n
  | j + 1 => setS (backS n k j) 6 (k - 1 - j) (if j = 0 then -1 else ((k - j : Nat) : Int))
/-- How many accesses, behind the Walks from the first i. -/
def cntB (k : Nat) : Nat → Nat
  | 0 => k
  | i + 1 => cntB k i + (k - i)
section
variable {w w' : World} {q p g qs n k j i m : Nat} {s : St} {v : Value} {xs : List Int}
theorem backS_len (n k : Nat) : ∀ j, (backS n k j).xs.length = 6 + 9 * n
  | 0 => mem0_len n
  | j + 1 => by unfold backS; rw [setS_xs, List.length_set, backS_len n k j]
theorem backS_c (n k : Nat) : ∀ j, j ≤ 1000 → (backS n k j).c = j
  | 0, _ => mem0_c n
  | j + 1, h => by
    unfold backS
    rw [setS_c, backS_c n k j (by omega), wrap64_in (by omega) (by omega)]
    omega
theorem backS_link (hk : k ≤ n) : ∀ j, j ≤ k → ∀ i, k - j ≤ i → i < k → (backS n k j).xs.getD (6 + i) 0 = if i = k - 1 then 0 else ((i : Int) + 2)
  | 0, _, i, h1, h2 => by omega
  | j + 1, hj, i, h1, h2 => by
    unfold backS
    rw [setS_xs, getD_set, backS_len]
    by_cases e : i = k - 1 - j
    · rw [if_pos ⟨by omega, by omega⟩]
      by_cases hj0 : j = 0
      · rw [if_pos hj0, if_pos (by omega)]; decide
      · rw [if_neg hj0, if_neg (by omega)]; omega
    · rw [if_neg (by omega)]
      exact backS_link hk j (by omega) i (by omega) h2
theorem back_walk (hk : k ≤ n) (hx : ∀ i, i < k → xs.getD (6 + i) 0 = if i = k - 1 then 0 else ((i : Int) + 2)) : ∀ (d i f : Nat), k - i = d → i < k → d ≤ f → walkL n 6 xs f (i : Int) = List.range' i d
  | 0, i, f, h, h1, _ => by omega
  | d + 1, i, f, h, h1, h2 => by
    obtain ⟨f, rfl⟩ : ∃ f', f = f' + 1 := ⟨f - 1, by omega⟩
    rw [walkL_nat, hx i h1, List.range'_succ]
    by_cases e : i = k - 1
    · rw [if_pos e, show belowN (n : Int) 0 = -1 by unfold belowN; rw [if_neg (by omega)]; decide, walkL_neg (by decide)]
      have : d = 0 := by omega
      subst this; rfl
    · rw [if_neg e, show belowN (n : Int) ((i : Int) + 2) = ((i + 1 : Nat) : Int) by unfold belowN; rw [if_neg (by omega)]; omega, back_walk hk hx d (i + 1) f (by omega) (by omega) (by omega)]
theorem back_list (hk : k ≤ n) (hi : i < k) : walkL n 6 (backS n k k).xs n (i : Int) = List.range' i (k - i) :=
  back_walk hk (fun i h => backS_link hk k (Nat.le_refl _) i (by omega) h) (k - i) i n rfl hi (by omega)
theorem cntB_le (k : Nat) (hk : k ≤ 10) : ∀ i, i ≤ k → cntB k i ≤ 10 + 10 * i
  | 0, _ => by unfold cntB; omega
  | i + 1, h => by have := cntB_le k hk i (by omega); unfold cntB; omega
theorem cntB_end (h1 : 1 ≤ k) (h10 : k ≤ 10) : cntB k k = k + k * (k + 1) / 2 := by
  have : k = 1 ∨ k = 2 ∨ k = 3 ∨ k = 4 ∨ k = 5 ∨ k = 6 ∨ k = 7 ∨ k = 8 ∨ k = 9 ∨ k = 10 := by omega
  rcases this with rfl | rfl | rfl | rfl | rfl | rfl | rfl | rfl | rfl | rfl <;> rfl
theorem k_small (h1 : 1 ≤ k) (h10 : k ≤ 10) : k * (k + 1) ≤ 110 := by
  have : k = 1 ∨ k = 2 ∨ k = 3 ∨ k = 4 ∨ k = 5 ∨ k = 6 ∨ k = 7 ∨ k = 8 ∨ k = 9 ∨ k = 10 := by omega
  rcases this with rfl | rfl | rfl | rfl | rfl | rfl | rfl | rfl | rfl | rfl <;> decide
theorem back_sets (R : Cha w q p g qs (cfM n) 6 n (backS n k j)) (hk : k ≤ n) (hj : j < k) {x t : Int} (hx : x = ((k - 1 - j : Nat) : Int)) (ht : t = if j = 0 then -1 else ((k - j : Nat) : Int)) :
    Calls Try.prog 13 #[.pointer (some ⟨q, 0, none⟩), .int .i64 x, .int .i64 t] w fun e w' => e = .returned (.bool true) ∧ Cha w' q p g qs (cfM n) 6 n (backS n k (j + 1)) ∧ Else [p, g] w w' := by
  subst hx ht
  exact sets_any (k := k - 1 - j) R (by omega) (by split <;> omega) (by split <;> omega)
theorem back_walks (R : Cha w q p g qs (cfM n) 6 n s) (hk : k ≤ n) (hn : n ≤ 10) (hi : i < k) (hs : s.xs = (backS n k k).xs) (hc : s.c = cntB k i) :
    Calls Try.prog 21 #[.pointer (some ⟨q, 0, none⟩), .int .i64 (i : Int)] w fun e w' => ∃ v s', e = .returned (.tuple #[v, .int .i64 ((k - i : Nat) : Int)]) ∧ Ints w' v (I (List.range' i (k - i))) ∧ Cha w' q p g qs (cfM n) 6 n s' ∧ s'.xs = (backS n k k).xs ∧ s'.c = cntB k (i + 1) ∧ Else [p, g] w w' := by
  have hb := cntB_le k (by omega) i (by omega)
  refine (walks_any R (k := i) (by omega) (by omega) (by rw [hc]; omega) (S := List.range' i (k - i)) (by rw [hs]; exact back_list hk hi) (m := ((k - i : Nat) : Int)) (by simp)).mono ?_
  rintro e w' ⟨v, s', rfl, J, _, C, h1, h2, E⟩
  refine ⟨v, s', rfl, J, C, h1.trans hs, ?_, E⟩
  rw [h2, hc]
  show ((cntB k i : Nat) : Int) + ((k - i : Nat) : Int) = ((cntB k i + (k - i) : Nat) : Int)
  omega
theorem back_lists (R : Cha w q p g qs (cfM n) 6 n s) (hk : k ≤ n) (hi : i < k) (hs : s.xs = (backS n k k).xs) :
    Calls Try.prog 19 #[.pointer (some ⟨q, 0, none⟩), .int .i64 (i : Int)] w fun e w' => ∃ v, e = .returned v ∧ Ints w' v (I (List.range' i (k - i))) ∧ Fresh w v ∧ Up w w' := by
  have H := chList_in R (k := i) (by omega)
  rw [hs, back_list hk hi] at H
  exact H
/-- The Sets, from the last on. -/
def BackRel (W : World) (q p g qs n k : Nat) (i : Value) (wr : World) : Prop := ∃ (j : Nat) (x : Int), j ≤ k ∧ i = .int .i64 x ∧ x = (k : Int) - 1 - j ∧ ChS W wr q p g qs n (backS n k j)
/-- The Walks, from the first on. -/
def GoRel (W : World) (q p g qs n k : Nat) (i : Value) (wr : World) : Prop := ∃ (j : Nat) (s : St), j ≤ k ∧ i = .int .i64 j ∧ s.xs = (backS n k k).xs ∧ s.c = cntB k j ∧ ChS W wr q p g qs n s
/-- What is wanted, so far. -/
def WantRel (w0 : World) (i k : Nat) (v jv : Value) (wr : World) : Prop := ∃ m : Nat, i ≤ m ∧ m ≤ k ∧ jv = .int .i64 m ∧ Ints wr v (I (List.range' i (m - i))) ∧ Fresh w0 v ∧ Up w0 wr
theorem ints_shapeB {L : List Nat} (J : Ints w v (I L)) (h : L.length = m) : ∃ A c, v = .slice A m c := by
  obtain ⟨A, c, rfl⟩ := J.slice
  exact ⟨A, c, by rw [I_len, h]⟩
theorem range_more (h : i ≤ m) : I (List.range' i (m - i)) ++ [(m : Int)] = I (List.range' i (m + 1 - i)) := by
  rw [show m + 1 - i = (m - i) + 1 by omega, List.range'_concat, I_app, Nat.one_mul, show i + (m - i) = m by omega]
end
end Go.Proofs.Yteofgnifpkcgmaa
