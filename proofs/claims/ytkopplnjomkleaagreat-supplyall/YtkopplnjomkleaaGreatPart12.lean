/-
  Texts beneath SupplyAll, part 12: PushNew, StkData, LayMath, RootsData, RtMath.
-/
import Derived.Test.YtkopplnjomkleaaGreatPart11
import Derived.WalkKit
import Derived.ProofKit
/-
  Package stack: Push begins.
-/
namespace Go.Proofs.YtkopplnjomkleaaGreat
open Go.RowKit
set_option maxRecDepth 100000
section
variable {w : World} {p g q hd ln n : Nat} {s : St} {l : List Nat} {v : Value}
set_option maxHeartbeats 2000000 in
theorem spush_no (E : Env w p g q hd ln n s) {xs : List Int} (R : Rd w v xs) (h : ¬ Good n xs) :
    Calls Tryz.prog 107 #[.pointer (some ⟨q, 0, none⟩), v] w fun e w' => e = .returned (.tuple #[.pointer none, .int .i64 1]) ∧ Up w w' := by
  have hc := Lib.hid (areItems_to E R (decide_eq_false h))
  clear E R h
  go_enter Tryz.func107, Tryz.ntmps107
  go_wp2_with (go_at_call 134; refine hc.out.mono ?_; rintro e w1 ⟨rfl, U1⟩)
  go_ret2
  exact ⟨rfl, U1⟩
set_option maxHeartbeats 2000000 in
theorem spush_nil (E : Env w p g q hd ln n s) :
    Calls Tryz.prog 107 #[.pointer (some ⟨q, 0, none⟩), .slice none 0 0] w fun e w' => ∃ b, e = .returned (.tuple #[.pointer (some ⟨b, 0, none⟩), .int .i64 0]) ∧ PushAt w' b q (.slice none 0 0) [] 0 0 .nilFunc ∧ w.heap.size ≤ b ∧ Up w w' := by
  have hc := Lib.hid (areItems_to E (Rd.nil w) (decide_eq_true (good_nil n)))
  clear E
  go_enter Tryz.func107, Tryz.ntmps107
  go_wp2_with (first
    | (go_at_call 134; refine hc.out.mono ?_; rintro e w1 ⟨rfl, U1⟩)
    | (go_at_call 106; refine (clone_nil _).mono ?_; rintro e w' ⟨rfl, rfl⟩))
  go_ret2
  exact ⟨w1.heap.size, rfl, ⟨Whole.new _ _ _, Ints.nil _, by simp [Value.ownBlock]⟩, U1.size, U1.then_alloc _⟩
set_option maxHeartbeats 2000000 in
theorem spush_yes (E : Env w p g q hd ln n s) (R : Rd w v (I l)) (h0 : l ≠ []) (h : Good n (I l)) (hl : l.length ≤ 8192) :
    Calls Tryz.prog 107 #[.pointer (some ⟨q, 0, none⟩), v] w fun e w' => ∃ b r cap, e = .returned (.tuple #[.pointer (some ⟨b, 0, none⟩), .int .i64 0]) ∧ PushAt w' b q (.slice (some ⟨r, 0, none⟩) l.length cap) l 0 0 (nxL b l.length 0) ∧ w.heap.size ≤ b ∧ w.heap.size ≤ r ∧ Up w w' := by
  have hc := Lib.hid (areItems_to E R (decide_eq_true h))
  have HR := Lib.hid R
  have lp := List.length_pos_iff.2 h0
  have hI : I l ≠ [] := by simpa [I] using h0
  have HI := Lib.hid hI
  obtain ⟨A, cap, e⟩ := R.slice
  rw [I_len] at e
  subst e
  have g1 : (0 : Int) < (l.length : Int) := by omega
  have key : ∀ {w1 w2 : World} {r cap' : Nat} {o : Obj}, Ints w2 (.slice (some ⟨r, 0, none⟩) (I l).length cap') (I l) → r < w2.heap.size → o = .cells #[.pointer (some ⟨q, 0, none⟩), .slice (some ⟨r, 0, none⟩) (I l).length cap', .int .i64 0, .int .u64 0, .nilFunc] 194 → w1 = w2.alloc o → PushAt w1 w2.heap.size q (.slice (some ⟨r, 0, none⟩) l.length cap') l 0 0 .nilFunc := by
    rintro w1 w2 r cap' o hi hr rfl rfl
    rw [I_len] at hi ⊢
    exact ⟨Whole.new _ _ _, hi.up (Up.alloc _ _), by simp [Value.ownBlock]; omega⟩
  have HK := Lib.hid (fun w1 w2 r cap' o => @key w1 w2 r cap' o)
  clear key hI R h E
  go_enter Tryz.func107, Tryz.ntmps107
  go_wp2_with (first
    | (go_at_call 134; refine hc.out.mono ?_; rintro e w1 ⟨rfl, U1⟩)
    | (go_at_call 106; refine (clone_in (HR.out.up U1) HI.out (by rw [I_len]; exact hl)).mono ?_; rintro e w2 ⟨r, cap', rfl, i1, i2, i3, i4⟩)
    | (go_at_call 135; refine (linkOrLoad_in (HK.out _ w2 r cap' _ i1 i3 rfl rfl) hl lp).mono ?_; rintro e w3 ⟨rfl, P3, E3⟩))
  go_ret2
  have u1 := U1.size
  have u4 := i4.size
  refine ⟨w2.heap.size, r, cap', rfl, P3, by omega, by omega, Else.up_new ((U1.trans i4).then_alloc _) E3 ?_⟩
  intro k hk; simp at hk; omega
end
end Go.Proofs.YtkopplnjomkleaaGreat

/-
  The machines of package stack as plain data: what they are behind each access, what the cells are. No function of the program is named here.
-/
namespace Go.Proofs.YtkopplnjomkleaaGreat
open Go.RowKit
open W64
set_option maxRecDepth 100000
/-- A Pop: 0: the Load of the head is next, 1: of a link, 2: the Cas. -/
structure Po where
  most : Nat
  i : Nat
  deep : Int
  old : Int
  l : List Nat
  fin : Bool
/-- A Push: i below len - 1: a link is next; len - 1: the Load of the head; len: the last link; len + 1: the Cas. -/
structure Pu where
  l : List Nat
  i : Nat
  old : Int
  fin : Bool
def Po.last (P : Po) : Nat := P.l.getD (P.l.length - 1) 0
def Po.go (n hd ln : Nat) (xs : List Int) (P : Po) : Po :=
  if P.i = 0 then
    if topN n (xs.getD hd 0) = -1 then ⟨P.most, 0, P.deep, xs.getD hd 0, [], true⟩
    else ⟨P.most, 1, P.deep, xs.getD hd 0, [(topN n (xs.getD hd 0)).toNat], false⟩
  else if P.i = 1 then
    if belowN n (xs.getD (ln + P.last) 0) = -1 ∨ P.l.length = P.most then ⟨P.most, 2, belowN n (xs.getD (ln + P.last) 0), P.old, P.l, false⟩
    else ⟨P.most, 1, belowN n (xs.getD (ln + P.last) 0), P.old, P.l ++ [(belowN n (xs.getD (ln + P.last) 0)).toNat], false⟩
  else ⟨P.most, 0, P.deep, P.old, P.l, decide (xs.getD hd 0 = P.old)⟩
def Po.xs (hd : Nat) (xs : List Int) (P : Po) : List Int := if P.i = 2 ∧ xs.getD hd 0 = P.old then xs.set hd (nextW P.old P.deep) else xs
def Pu.go (hd : Nat) (xs : List Int) (P : Pu) : Pu :=
  if P.i + 1 < P.l.length then ⟨P.l, P.i + 1, P.old, false⟩
  else if P.i + 1 = P.l.length then ⟨P.l, P.i + 1, xs.getD hd 0, false⟩
  else if P.i = P.l.length then ⟨P.l, P.i + 1, P.old, false⟩
  else ⟨P.l, P.l.length - 1, P.old, decide (xs.getD hd 0 = P.old)⟩
def Pu.xs (n hd ln : Nat) (xs : List Int) (P : Pu) : List Int :=
  if P.i + 1 < P.l.length then xs.set (ln + P.l.getD P.i 0) ((P.l.getD (P.i + 1) 0 : Nat) + 1)
  else if P.i + 1 = P.l.length then xs
  else if P.i = P.l.length then xs.set (ln + P.l.getD (P.l.length - 1) 0) (topN n P.old + 1)
  else if xs.getD hd 0 = P.old then xs.set hd (nextW P.old (P.l.getD 0 0 : Nat)) else xs
/-- What a Pop's numbers keep to. -/
structure Po.Ok (n : Nat) (P : Po) : Prop where
  m1 : 1 ≤ P.most
  m8 : P.most ≤ 8
  len : P.l.length ≤ P.most
  lt : ∀ x ∈ P.l, x < n
  i2 : P.i ≤ 2
  ne : P.i ≠ 0 → P.l ≠ []
  d2 : P.i = 2 → -1 ≤ P.deep ∧ P.deep < n
  o0 : 0 ≤ P.old
  o1 : P.old < 18446744073709551616
structure Pu.Ok (n : Nat) (P : Pu) : Prop where
  ne : P.l ≠ []
  lt : ∀ x ∈ P.l, x < n
  len : P.l.length ≤ 8192
  top : P.i ≤ P.l.length + 1
  o0 : 0 ≤ P.old
  o1 : P.old < 18446744073709551616
section
variable {n hd ln : Nat} {xs : List Int} {P : Po} {U : Pu}
abbrev Words (xs : List Int) : Prop := ∀ i : Nat, 0 ≤ xs.getD i 0 ∧ xs.getD i 0 < 18446744073709551616
theorem topN_nat {x : Int} (h0 : 0 ≤ x) (hn : 1 ≤ n) (h : ¬ topN n x = -1) : topN n x = ((topN n x).toNat : Int) ∧ (topN n x).toNat < n := by
  have := topN_in (n := n) h0 hn
  omega
theorem belowN_nat {x : Int} (h0 : 0 ≤ x) (hn : 1 ≤ n) (h : ¬ belowN n x = -1) : belowN n x = ((belowN n x).toNat : Int) ∧ (belowN n x).toNat < n := by
  have := belowN_in (n := n) h0 hn
  omega
theorem Po.Ok.go (K : P.Ok n) (hw : Words xs) (hn : 1 ≤ n) : (P.go n hd ln xs).Ok n := by
  obtain ⟨h1, h2, h3, h4, h5, h6, h7, h8, h9⟩ := K
  have a := hw hd
  have c := hw (ln + P.last)
  unfold Po.go
  split
  · split
    · exact ⟨h1, h2, by simp, by simp, by simp, by simp, by simp, a.1, a.2⟩
    · rename_i h
      have t := topN_nat a.1 hn h
      exact ⟨h1, h2, by simpa using h1, by simpa using t.2, by simp, by simp, by simp, a.1, a.2⟩
  · split
    · rename_i hi0 hi
      split
      · have b := belowN_in (n := n) c.1 hn
        exact ⟨h1, h2, h3, h4, by simp, fun _ => h6 (by omega), fun _ => b, h8, h9⟩
      · rename_i h
        have hb : ¬ belowN n (xs.getD (ln + P.last) 0) = -1 := fun e => h (.inl e)
        have hm : ¬ P.l.length = P.most := fun e => h (.inr e)
        have b := belowN_nat c.1 hn hb
        refine ⟨h1, h2, by simp; omega, ?_, by simp, by simp, by simp, h8, h9⟩
        intro x hx
        rcases List.mem_append.1 hx with hx | hx
        · exact h4 x hx
        · rw [List.mem_singleton] at hx; subst hx; exact b.2
    · exact ⟨h1, h2, h3, h4, by simp, by simp, by simp, h8, h9⟩
theorem Pu.Ok.go (K : U.Ok n) (hw : Words xs) : (U.go hd xs).Ok n := by
  obtain ⟨h1, h2, h3, h4, h5, h6⟩ := K
  have a := hw hd
  have hl := List.length_pos_iff.2 h1
  unfold Pu.go
  split
  · exact ⟨h1, h2, h3, by dsimp only; omega, h5, h6⟩
  · split
    · exact ⟨h1, h2, h3, by dsimp only; omega, a.1, a.2⟩
    · split
      · exact ⟨h1, h2, h3, by dsimp only; omega, h5, h6⟩
      · exact ⟨h1, h2, h3, by dsimp only; omega, h5, h6⟩
end
end Go.Proofs.YtkopplnjomkleaaGreat

/-
  Chapter 4 in plain numbers: configurations, which cell is what. No program is named here.
-/
namespace Go.Proofs.YtkopplnjomkleaaGreat

/-- A configuration: workers, chunks, words, slots, cache, batch. -/
structure Cf where
  wk : Int
  ch : Int
  wo : Int
  sl : Int
  ca : Int
  ba : Int

/-- It may be. -/
def Cf.May (c : Cf) : Prop := (1 ≤ c.wk ∧ c.wk ≤ 64) ∧ (1 ≤ c.ch ∧ c.ch ≤ 4096) ∧ (8 ≤ c.wo ∧ c.wo ≤ 1024 ∧ c.wo % 8 = 0) ∧ (1 ≤ c.sl ∧ c.sl ≤ 4096) ∧ (0 ≤ c.ca ∧ c.ca ≤ 64) ∧ (1 ≤ c.ba ∧ c.ba ≤ 8)
instance (c : Cf) : Decidable c.May := by unfold Cf.May; infer_instance
def mayB (c : Cf) : Bool := decide c.May
theorem mayB_iff {c : Cf} : mayB c = true ↔ c.May := by simp [mayB]
theorem mayB_not {c : Cf} : mayB c = false ↔ ¬ c.May := by simp [mayB]

theorem dec_no {p : Prop} [Decidable p] (h : ¬ p) : decide p = false := by simp [h]
theorem dec_yes {p : Prop} [Decidable p] (h : p) : decide p = true := by simp [h]
/-- The ways in which it may be or not, test by test. -/
theorem may_ways (c : Cf) :
    (decide (1 ≤ c.wk ∧ c.wk ≤ 64) = false ∧ mayB c = false) ∨
    (decide (1 ≤ c.wk ∧ c.wk ≤ 64) = true ∧ decide (1 ≤ c.ch ∧ c.ch ≤ 4096) = false ∧ mayB c = false) ∨
    (decide (1 ≤ c.wk ∧ c.wk ≤ 64) = true ∧ decide (1 ≤ c.ch ∧ c.ch ≤ 4096) = true ∧ decide (8 ≤ c.wo ∧ c.wo ≤ 1024) = false ∧ mayB c = false) ∨
    (decide (1 ≤ c.wk ∧ c.wk ≤ 64) = true ∧ decide (1 ≤ c.ch ∧ c.ch ≤ 4096) = true ∧ decide (8 ≤ c.wo ∧ c.wo ≤ 1024) = true ∧ 8 ≤ c.wo ∧ c.wo ≤ 1024 ∧ ¬ c.wo % 8 = 0 ∧ mayB c = false) ∨
    (decide (1 ≤ c.wk ∧ c.wk ≤ 64) = true ∧ decide (1 ≤ c.ch ∧ c.ch ≤ 4096) = true ∧ decide (8 ≤ c.wo ∧ c.wo ≤ 1024) = true ∧ 8 ≤ c.wo ∧ c.wo ≤ 1024 ∧ c.wo % 8 = 0 ∧ decide (1 ≤ c.sl ∧ c.sl ≤ 4096) = false ∧ mayB c = false) ∨
    (decide (1 ≤ c.wk ∧ c.wk ≤ 64) = true ∧ decide (1 ≤ c.ch ∧ c.ch ≤ 4096) = true ∧ decide (8 ≤ c.wo ∧ c.wo ≤ 1024) = true ∧ 8 ≤ c.wo ∧ c.wo ≤ 1024 ∧ c.wo % 8 = 0 ∧ decide (1 ≤ c.sl ∧ c.sl ≤ 4096) = true ∧ decide (0 ≤ c.ca ∧ c.ca ≤ 64) = false ∧ mayB c = false) ∨
    (decide (1 ≤ c.wk ∧ c.wk ≤ 64) = true ∧ decide (1 ≤ c.ch ∧ c.ch ≤ 4096) = true ∧ decide (8 ≤ c.wo ∧ c.wo ≤ 1024) = true ∧ 8 ≤ c.wo ∧ c.wo ≤ 1024 ∧ c.wo % 8 = 0 ∧ decide (1 ≤ c.sl ∧ c.sl ≤ 4096) = true ∧ decide (0 ≤ c.ca ∧ c.ca ≤ 64) = true ∧ decide (1 ≤ c.ba ∧ c.ba ≤ 8) = mayB c) := by
  by_cases q1 : 1 ≤ c.wk ∧ c.wk ≤ 64
  · by_cases q2 : 1 ≤ c.ch ∧ c.ch ≤ 4096
    · by_cases q3 : 8 ≤ c.wo ∧ c.wo ≤ 1024
      · by_cases q4 : c.wo % 8 = 0
        · by_cases q5 : 1 ≤ c.sl ∧ c.sl ≤ 4096
          · by_cases q6 : 0 ≤ c.ca ∧ c.ca ≤ 64
            · refine .inr (.inr (.inr (.inr (.inr (.inr ⟨dec_yes q1, dec_yes q2, dec_yes q3, q3.1, q3.2, q4, dec_yes q5, dec_yes q6, ?_⟩)))))
              by_cases q7 : 1 ≤ c.ba ∧ c.ba ≤ 8
              · rw [dec_yes q7]; exact (mayB_iff.2 ⟨q1, q2, ⟨q3.1, q3.2, q4⟩, q5, q6, q7⟩).symm
              · rw [dec_no q7]; exact (mayB_not.2 fun m => q7 m.2.2.2.2.2).symm
            · exact .inr (.inr (.inr (.inr (.inr (.inl ⟨dec_yes q1, dec_yes q2, dec_yes q3, q3.1, q3.2, q4, dec_yes q5, dec_no q6, mayB_not.2 fun m => q6 m.2.2.2.2.1⟩)))))
          · exact .inr (.inr (.inr (.inr (.inl ⟨dec_yes q1, dec_yes q2, dec_yes q3, q3.1, q3.2, q4, dec_no q5, mayB_not.2 fun m => q5 m.2.2.2.1⟩))))
        · exact .inr (.inr (.inr (.inl ⟨dec_yes q1, dec_yes q2, dec_yes q3, q3.1, q3.2, q4, mayB_not.2 fun m => q4 m.2.2.1.2.2⟩)))
      · exact .inr (.inr (.inl ⟨dec_yes q1, dec_yes q2, dec_no q3, mayB_not.2 fun m => q3 ⟨m.2.2.1.1, m.2.2.1.2.1⟩⟩))
    · exact .inr (.inl ⟨dec_yes q1, dec_no q2, mayB_not.2 fun m => q2 m.2.1⟩)
  · exact .inl ⟨dec_no q1, mayB_not.2 fun m => q1 m.1⟩

/-- Where the words begin. -/
def fwN (c : Cf) : Int := 3 + c.wk + 2 * c.sl + c.ch
def lenN (c : Cf) : Int := if mayB c = true then fwN c + c.ch * c.wo else 0
def atN (c : Cf) (first many i : Int) : Int := if mayB c = true ∧ 0 ≤ i ∧ i < many then first + i else -1
def lpinN (c : Cf) (i : Int) : Int := atN c 3 c.wk i
def lrootN (c : Cf) (i : Int) : Int := atN c (3 + c.wk) c.sl i
def lslotN (c : Cf) (i : Int) : Int := atN c (3 + c.wk + c.sl) c.sl i
def llinkN (c : Cf) (i : Int) : Int := atN c (3 + c.wk + 2 * c.sl) c.ch i
def lwordN (c : Cf) (k i : Int) : Int := if mayB c = true ∧ (0 ≤ k ∧ k < c.ch) ∧ 0 ≤ i ∧ i < c.wo then fwN c + k * c.wo + i else -1
/-- What a cell is. -/
def whatT (c : Cf) (x : Int) : Int × Int × Int :=
  if x < 0 ∨ lenN c ≤ x then (0, 0, 0) else if x < 2 then (1, x, 0) else if x = 2 then (2, 0, 0)
  else if x < 3 + c.wk then (3, x - 3, 0) else if x < 3 + c.wk + c.sl then (4, x - (3 + c.wk), 0)
  else if x < 3 + c.wk + 2 * c.sl then (5, x - (3 + c.wk + c.sl), 0) else if x < fwN c then (6, x - (3 + c.wk + 2 * c.sl), 0)
  else (7, (x - fwN c) / c.wo, (x - fwN c) % c.wo)

theorem lenN_no {c : Cf} (h : mayB c = false) : lenN c = 0 := by unfold lenN; rw [h]; rfl
theorem lenN_is {c : Cf} (h : mayB c = true) : lenN c = fwN c + c.ch * c.wo := by unfold lenN; rw [h]; rfl
theorem atN_no {c : Cf} {f m i : Int} (h : mayB c = false ∨ ¬ (0 ≤ i ∧ i < m)) : atN c f m i = -1 := by
  unfold atN
  rcases h with h | h
  · rw [h]; rfl
  · rw [if_neg (fun h1 => h h1.2)]
theorem atN_is {c : Cf} {f m i : Int} (h : mayB c = true) (h0 : 0 ≤ i) (h1 : i < m) : atN c f m i = f + i := by
  unfold atN; rw [if_pos ⟨h, h0, h1⟩]
theorem lwordN_no {c : Cf} {k i : Int} (h : mayB c = false ∨ ¬ (0 ≤ k ∧ k < c.ch) ∨ ¬ (0 ≤ i ∧ i < c.wo)) : lwordN c k i = -1 := by
  unfold lwordN
  rcases h with h | h | h
  · rw [h]; rfl
  · rw [if_neg (fun h1 => h h1.2.1)]
  · rw [if_neg (fun h1 => h h1.2.2)]
theorem lwordN_is {c : Cf} {k i : Int} (h : mayB c = true) (h0 : 0 ≤ k) (h1 : k < c.ch) (h2 : 0 ≤ i) (h3 : i < c.wo) : lwordN c k i = fwN c + k * c.wo + i := by
  unfold lwordN; rw [if_pos ⟨h, ⟨h0, h1⟩, h2, h3⟩]
/-- A product of two numbers that are small. -/
theorem mul_in {a b A B : Int} (a0 : 0 ≤ a) (a1 : a ≤ A) (b0 : 0 ≤ b) (b1 : b ≤ B) : 0 ≤ a * b ∧ a * b ≤ A * B :=
  ⟨Int.mul_nonneg a0 b0, Int.mul_le_mul a1 b1 b0 (by omega)⟩
/-- The rows of words: row k ends where the next one begins. -/
theorem row_in {a n b i : Int} (a0 : 0 ≤ a) (a1 : a < n) (b0 : 0 ≤ i) (b1 : i < b) : 0 ≤ a * b + i ∧ a * b + i < n * b := by
  have h1 := Int.mul_nonneg a0 (show 0 ≤ b by omega)
  have h2 := Int.mul_le_mul_of_nonneg_right (show a + 1 ≤ n by omega) (show 0 ≤ b by omega)
  rw [Int.add_mul] at h2
  omega

theorem len_may {c : Cf} {x : Int} (h0 : 0 ≤ x) (h1 : x < lenN c) : mayB c = true := by
  cases hm : mayB c
  · rw [lenN_no hm] at h1; omega
  · rfl
/-- The ways in which a cell may be something. -/
theorem what_ways (c : Cf) (x : Int) :
    (x < 0 ∧ whatT c x = (0, 0, 0)) ∨ (0 ≤ x ∧ lenN c ≤ x ∧ whatT c x = (0, 0, 0)) ∨
    (0 ≤ x ∧ x < lenN c ∧ mayB c = true ∧ ((x < 2 ∧ whatT c x = (1, x, 0)) ∨ (x = 2 ∧ whatT c x = (2, 0, 0)) ∨
      (3 ≤ x ∧ x < 3 + c.wk ∧ whatT c x = (3, x - 3, 0)) ∨ (3 + c.wk ≤ x ∧ x < 3 + c.wk + c.sl ∧ whatT c x = (4, x - (3 + c.wk), 0)) ∨
      (3 + c.wk + c.sl ≤ x ∧ x < 3 + c.wk + 2 * c.sl ∧ whatT c x = (5, x - (3 + c.wk + c.sl), 0)) ∨
      (3 + c.wk + 2 * c.sl ≤ x ∧ x < fwN c ∧ whatT c x = (6, x - (3 + c.wk + 2 * c.sl), 0)) ∨
      (fwN c ≤ x ∧ whatT c x = (7, (x - fwN c) / c.wo, (x - fwN c) % c.wo)))) := by
  unfold whatT
  by_cases q0 : x < 0
  · exact .inl ⟨q0, if_pos (.inl q0)⟩
  by_cases q1 : lenN c ≤ x
  · exact .inr (.inl ⟨by omega, q1, if_pos (.inr q1)⟩)
  have hm := len_may (c := c) (x := x) (by omega) (by omega)
  refine .inr (.inr ⟨by omega, by omega, hm, ?_⟩)
  rw [if_neg (by omega)]
  by_cases q2 : x < 2
  · exact .inl ⟨q2, if_pos q2⟩
  rw [if_neg q2]
  by_cases q3 : x = 2
  · exact .inr (.inl ⟨q3, if_pos q3⟩)
  rw [if_neg q3]
  by_cases q4 : x < 3 + c.wk
  · exact .inr (.inr (.inl ⟨by omega, q4, if_pos q4⟩))
  rw [if_neg q4]
  by_cases q5 : x < 3 + c.wk + c.sl
  · exact .inr (.inr (.inr (.inl ⟨by omega, q5, if_pos q5⟩)))
  rw [if_neg q5]
  by_cases q6 : x < 3 + c.wk + 2 * c.sl
  · exact .inr (.inr (.inr (.inr (.inl ⟨by omega, q6, if_pos q6⟩))))
  rw [if_neg q6]
  by_cases q7 : x < fwN c
  · exact .inr (.inr (.inr (.inr (.inr (.inl ⟨by omega, q7, if_pos q7⟩)))))
  rw [if_neg q7]
  exact .inr (.inr (.inr (.inr (.inr (.inr ⟨by omega, rfl⟩)))))
theorem word_ways (c : Cf) (k i : Int) :
    (mayB c = false ∧ lwordN c k i = -1) ∨ (mayB c = true ∧ ¬ (0 ≤ k ∧ k ≤ c.ch - 1) ∧ lwordN c k i = -1) ∨ (mayB c = true ∧ (0 ≤ k ∧ k ≤ c.ch - 1) ∧ ¬ (0 ≤ i ∧ i ≤ c.wo - 1) ∧ lwordN c k i = -1) ∨
    (mayB c = true ∧ (0 ≤ k ∧ k ≤ c.ch - 1) ∧ (0 ≤ i ∧ i ≤ c.wo - 1) ∧ lwordN c k i = fwN c + k * c.wo + i) := by
  cases hm : mayB c
  · exact .inl ⟨rfl, lwordN_no (.inl hm)⟩
  by_cases q1 : 0 ≤ k ∧ k ≤ c.ch - 1
  · by_cases q2 : 0 ≤ i ∧ i ≤ c.wo - 1
    · exact .inr (.inr (.inr ⟨rfl, q1, q2, lwordN_is hm q1.1 (by omega) q2.1 (by omega)⟩))
    · exact .inr (.inr (.inl ⟨rfl, q1, q2, lwordN_no (.inr (.inr (by omega)))⟩))
  · exact .inr (.inl ⟨rfl, q1, lwordN_no (.inr (.inl (by omega)))⟩)
/-- A configuration that may be: its numbers, and those that are reckoned from them, are small. -/
theorem may_small {c : Cf} (hm : mayB c = true) : (1 ≤ c.wk ∧ c.wk ≤ 64) ∧ (1 ≤ c.ch ∧ c.ch ≤ 4096) ∧ (8 ≤ c.wo ∧ c.wo ≤ 1024) ∧ (1 ≤ c.sl ∧ c.sl ≤ 4096) ∧ (7 ≤ fwN c ∧ fwN c ≤ 20000) ∧ (8 ≤ c.ch * c.wo ∧ c.ch * c.wo ≤ 4194304) := by
  obtain ⟨p1, p2, ⟨p3, p4, _⟩, p5, _⟩ := mayB_iff.1 hm
  have h := Int.mul_le_mul p2.2 p4 (by omega) (by omega)
  have h2 := Int.mul_le_mul p2.1 p3 (by omega) (by omega)
  refine ⟨p1, p2, ⟨p3, p4⟩, p5, ?_, by omega⟩
  unfold fwN; omega
theorem lenN_small {c : Cf} (hm : mayB c = true) : 15 ≤ lenN c ∧ lenN c ≤ 5000000 := by
  obtain ⟨_, _, _, _, _, _⟩ := may_small hm
  rw [lenN_is hm]; omega

theorem pin_back {c : Cf} {x : Int} (hm : mayB c = true) (h0 : 3 ≤ x) (h1 : x < 3 + c.wk) : lpinN c (x - 3) = x := by
  unfold lpinN; rw [atN_is hm (by omega) (by omega)]; omega
theorem root_back {c : Cf} {x : Int} (hm : mayB c = true) (h0 : 3 + c.wk ≤ x) (h1 : x < 3 + c.wk + c.sl) : lrootN c (x - (3 + c.wk)) = x := by
  unfold lrootN; rw [atN_is hm (by omega) (by omega)]; omega
theorem slot_back {c : Cf} {x : Int} (hm : mayB c = true) (h0 : 3 + c.wk + c.sl ≤ x) (h1 : x < 3 + c.wk + 2 * c.sl) : lslotN c (x - (3 + c.wk + c.sl)) = x := by
  unfold lslotN; rw [atN_is hm (by omega) (by omega)]; omega
theorem link_back {c : Cf} {x : Int} (hm : mayB c = true) (h0 : 3 + c.wk + 2 * c.sl ≤ x) (h1 : x < fwN c) : llinkN c (x - (3 + c.wk + 2 * c.sl)) = x := by
  unfold fwN at h1
  unfold llinkN; rw [atN_is hm (by omega) (by omega)]; omega
/-- Of a word of the rows: which row, where in it. -/
theorem row_of {y n b : Int} (b0 : 0 < b) (y0 : 0 ≤ y) (y1 : y < n * b) : (0 ≤ y / b ∧ y / b < n) ∧ (0 ≤ y % b ∧ y % b < b) ∧ y / b * b + y % b = y :=
  ⟨⟨Int.ediv_nonneg y0 (by omega), Int.ediv_lt_of_lt_mul b0 y1⟩, ⟨Int.emod_nonneg _ (by omega), Int.emod_lt_of_pos _ b0⟩, Int.ediv_mul_add_emod y b⟩
theorem word_back {c : Cf} {x : Int} (hm : mayB c = true) (h0 : fwN c ≤ x) (h1 : x < lenN c) : lwordN c ((x - fwN c) / c.wo) ((x - fwN c) % c.wo) = x := by
  obtain ⟨_, _, ⟨w0, _⟩, _⟩ := may_small hm
  rw [lenN_is hm] at h1
  obtain ⟨⟨a0, a1⟩, ⟨b0, b1⟩, e⟩ := row_of (y := x - fwN c) (n := c.ch) (b := c.wo) (by omega) (by omega) (by omega)
  rw [lwordN_is hm a0 a1 b0 b1, Int.add_assoc, e]; omega
end Go.Proofs.YtkopplnjomkleaaGreat

/-
  The machines of package roots as plain data: what they are behind each access, what the cells are. No function of the program is named here.
-/
namespace Go.Proofs.YtkopplnjomkleaaGreat
open Go.RowKit
open W64
set_option maxRecDepth 100000
/-- The four numbers that a root's word tells. -/
structure Rt where
  g : Int
  m : Int
  c : Int
  o : Int
def rtOf (x : Int) : Rt := ⟨x / 4294967296, x / 65536 % 65536, x / 4096 % 16, x % 4096⟩
def laterN (g : Int) : Int := if 4294967295 ≤ g then 0 else g + 1
/-- A Look. -/
structure Lk where
  slot : Nat
  gen : Int
  off : Int
  code : Int
  fin : Bool
/-- An End: 0: the Load is next, 1: the Cas. -/
structure Ed where
  slot : Nat
  gen : Int
  i : Nat
  steps : Nat
  point : Nat
  chunk : Int
  old : Int
  code : Int
  fin : Bool
/-- A Create: 0: the Pop, 1: the Load of the root, 2: its Store. -/
structure Cr where
  cls : Int
  i : Nat
  steps : Nat
  point : Nat
  slot : Nat
  gen : Int
  pop : Po
  rt : Rt
  code : Int
  fin : Bool
def Lk.live (r0 : Nat) (xs : List Int) (K : Lk) : Bool := liveB (rtOf (xs.getD (r0 + K.slot) 0)).g (rtOf (xs.getD (r0 + K.slot) 0)).m K.gen
def Lk.go (r0 : Nat) (xs : List Int) (K : Lk) : Lk :=
  if K.live r0 xs = true then ⟨K.slot, K.gen, (rtOf (xs.getD (r0 + K.slot) 0)).o, K.code, true⟩ else ⟨K.slot, K.gen, K.off, 3, true⟩
def Ed.live (r0 : Nat) (xs : List Int) (K : Ed) : Bool := liveB (rtOf (xs.getD (r0 + K.slot) 0)).g (rtOf (xs.getD (r0 + K.slot) 0)).m K.gen
def Ed.go (r0 : Nat) (xs : List Int) (K : Ed) : Ed :=
  if K.i = 0 then
    if K.live r0 xs = true then ⟨K.slot, K.gen, 1, K.steps + 1, K.point, K.chunk, xs.getD (r0 + K.slot) 0, K.code, false⟩
    else ⟨K.slot, K.gen, 1, K.steps + 1, K.steps + 1, K.chunk, xs.getD (r0 + K.slot) 0, 3, true⟩
  else if xs.getD (r0 + K.slot) 0 = K.old then ⟨K.slot, K.gen, 0, K.steps + 1, K.steps + 1, chunkN (rtOf K.old).m, K.old, K.code, true⟩
  else ⟨K.slot, K.gen, 0, K.steps + 1, K.point, K.chunk, K.old, K.code, false⟩
def Ed.xs (r0 : Nat) (xs : List Int) (K : Ed) : List Int := if K.i ≠ 0 ∧ xs.getD (r0 + K.slot) 0 = K.old then xs.set (r0 + K.slot) (rootV (rtOf K.old).g 0 0 0) else xs
def Cr.go (n r0 : Nat) (xs : List Int) (K : Cr) : Cr :=
  if K.i = 0 then
    if (K.pop.go n 1 (r0 + n) xs).fin = false then ⟨K.cls, 0, K.steps + 1, K.point, K.slot, K.gen, K.pop.go n 1 (r0 + n) xs, K.rt, K.code, false⟩
    else if (K.pop.go n 1 (r0 + n) xs).l = [] then ⟨K.cls, 0, K.steps + 1, K.steps + 1, K.slot, K.gen, K.pop.go n 1 (r0 + n) xs, K.rt, 7, true⟩
    else ⟨K.cls, 1, K.steps + 1, K.steps + 1, (K.pop.go n 1 (r0 + n) xs).l.getD 0 0, K.gen, K.pop.go n 1 (r0 + n) xs, K.rt, K.code, false⟩
  else if K.i = 1 then ⟨K.cls, 2, K.steps + 1, K.point, K.slot, K.gen, K.pop, rtOf (xs.getD (r0 + K.slot) 0), K.code, false⟩
  else ⟨K.cls, K.i, K.steps + 1, K.point, K.slot, laterN K.rt.g, K.pop, K.rt, K.code, true⟩
def Cr.xs (r0 : Nat) (xs : List Int) (K : Cr) : List Int :=
  if K.i = 0 then K.pop.xs 1 xs else if K.i = 1 then xs else xs.set (r0 + K.slot) (rootV (laterN K.rt.g) 1 K.cls 0)
end Go.Proofs.YtkopplnjomkleaaGreat

/-
  Package roots in plain data: the list that the cells tell, the machines run to their end by one alone. No function of the program is named here.
-/
namespace Go.Proofs.YtkopplnjomkleaaGreat
open Go.RowKit
open W64
set_option maxRecDepth 100000
set_option linter.unusedSimpArgs false
def cutC (a : Int) : Int := if a < 0 then 0 else if 3 < a then 3 else a
theorem cutC_in (a : Int) : 0 ≤ cutC a ∧ cutC a ≤ 3 := by unfold cutC; split; omega; split <;> omega
def Cr.new (cls : Int) : Cr := ⟨cls, 0, 0, 0, 0, 0, ⟨1, 0, 0, 0, [], false⟩, ⟨0, 0, 0, 0⟩, 0, false⟩
def Ed.new (slot : Nat) (gen : Int) : Ed := ⟨slot, gen, 0, 0, 0, -1, 0, 0, false⟩
def Lk.new (slot : Nat) (gen : Int) : Lk := ⟨slot, gen, 0, 0, false⟩
def Pu.new (l : List Nat) : Pu := ⟨l, 0, 0, false⟩
/-- The items from i on, f at most. -/
def walkL (n ln : Nat) (xs : List Int) : Nat → Int → List Nat
  | 0, _ => []
  | f + 1, i => if i < 0 then [] else i.toNat :: walkL n ln xs f (belowN n (xs.getD (ln + i.toNat) 0))
def lstOf (n hd ln : Nat) (xs : List Int) : List Nat := walkL n ln xs n (topN n (xs.getD hd 0))
section
variable {n ln hd r0 : Nat} {xs : List Int} {S : List Nat}
theorem walkL_len : ∀ (f : Nat) (i : Int), (walkL n ln xs f i).length ≤ f
  | 0, _ => by simp [walkL]
  | f + 1, i => by
    unfold walkL
    split
    · simp
    · have := walkL_len f (belowN n (xs.getD (ln + i.toNat) 0))
      rw [List.length_cons]; omega
theorem walkL_neg {f : Nat} {i : Int} (h : i < 0) : walkL n ln xs f i = [] := by
  cases f with
  | zero => rfl
  | succ f => unfold walkL; rw [if_pos h]
theorem walkL_nat {f x : Nat} : walkL n ln xs (f + 1) (x : Int) = x :: walkL n ln xs f (belowN n (xs.getD (ln + x) 0)) := by
  conv => lhs; unfold walkL
  rw [if_neg (by omega)]; simp
theorem link_small {S : List Nat} (h : ∀ x ∈ S, x < n) : 0 ≤ Stk.linkOf S ∧ Stk.linkOf S ≤ n := by
  cases S with
  | nil => simp [Stk.linkOf]
  | cons x r => have := h x (by simp); simp [Stk.linkOf]; omega
theorem topN_link {x : Int} {S : List Nat} (h : ∀ y ∈ S, y < n) (hx : x % 4294967296 = Stk.linkOf S) : topN n x = Stk.linkOf S - 1 := by
  have := link_small h
  unfold topN; rw [if_neg (by omega)]; omega
theorem belowN_link {x : Int} {S : List Nat} (h : ∀ y ∈ S, y < n) (hx : x = Stk.linkOf S) : belowN n x = Stk.linkOf S - 1 := by
  have := link_small h
  unfold belowN; rw [if_neg (by omega)]; omega
theorem walkL_chain : ∀ (S : List Nat) (f : Nat), S.length ≤ f → (∀ x ∈ S, x < n) → Stk.Chain (fun i => xs.getD (ln + i) 0) S → walkL n ln xs f (Stk.linkOf S - 1) = S
  | [], f, _, _, _ => walkL_neg (by simp [Stk.linkOf])
  | x :: r, 0, h, _, _ => by simp at h
  | x :: r, f + 1, h, hs, hc => by
    have hr : ∀ y ∈ r, y < n := fun y hy => hs y (by simp [hy])
    have h1 : xs.getD (ln + x) 0 = Stk.linkOf r := hc.1
    have e : Stk.linkOf (x :: r) - 1 = (x : Int) := by simp [Stk.linkOf]
    rw [e, walkL_nat, belowN_link hr h1, walkL_chain r f (by simpa using h) hr hc.2]
theorem lstOf_chain (hl : S.length ≤ n) (hs : ∀ x ∈ S, x < n) (hc : Stk.Chain (fun i => xs.getD (ln + i) 0) S) (ht : xs.getD hd 0 % 4294967296 = Stk.linkOf S) : lstOf n hd ln xs = S := by
  unfold lstOf
  rw [topN_link hs ht, walkL_chain S n hl hs hc]
theorem Chain.congr {lk lk' : Nat → Int} : ∀ {S : List Nat}, Stk.Chain lk S → (∀ x ∈ S, lk' x = lk x) → Stk.Chain lk' S
  | [], _, _ => trivial
  | x :: r, h, e => ⟨(e x (by simp)).trans h.1, Chain.congr h.2 fun y hy => e y (by simp [hy])⟩
theorem nextW_mod {x i : Int} (h0 : -1 ≤ i) (h1 : i ≤ 4096) : nextW x i % 4294967296 = i + 1 := by
  have ht : 0 ≤ nextT (x / 4294967296) ∧ nextT (x / 4294967296) ≤ 4294967295 := by
    unfold nextT
    split
    · rename_i h; have := inB_iff.1 h; omega
    · omega
  unfold nextW headV
  rw [if_pos (headB_iff.2 ⟨⟨h0, by omega⟩, ht⟩)]
  unfold headN; omega
/-! ### One alone, step by step -/
def Cr.step (n r0 : Nat) (s : List Int × Cr) : List Int × Cr := if s.2.fin = true then s else (s.2.xs r0 s.1, s.2.go n r0 s.1)
def Cr.run (n r0 : Nat) (s : List Int × Cr) : Nat → List Int × Cr
  | 0 => s
  | k + 1 => Cr.step n r0 (Cr.run n r0 s k)
def Ed.step (r0 : Nat) (s : List Int × Ed) : List Int × Ed := if s.2.fin = true then s else (s.2.xs r0 s.1, s.2.go r0 s.1)
def Ed.run (r0 : Nat) (s : List Int × Ed) : Nat → List Int × Ed
  | 0 => s
  | k + 1 => Ed.step r0 (Ed.run r0 s k)
def Pu.step (n hd ln : Nat) (s : List Int × Pu) : List Int × Pu := if s.2.fin = true then s else (s.2.xs n hd ln s.1, s.2.go hd s.1)
def Pu.run (n hd ln : Nat) (s : List Int × Pu) : Nat → List Int × Pu
  | 0 => s
  | k + 1 => Pu.step n hd ln (Pu.run n hd ln s k)
theorem getD_other {xs : List Int} {i j : Nat} {v : Int} (h : i ≠ j) : (xs.set i v).getD j 0 = xs.getD j 0 := by rw [getD_set, if_neg (fun e => h e.1)]
theorem getD_same {xs : List Int} {i : Nat} {v : Int} (h : i < xs.length) : (xs.set i v).getD i 0 = v := by rw [getD_set, if_pos ⟨rfl, h⟩]
/-- The cells behind a Create that has taken x, below which there is r. -/
def crXs (r0 : Nat) (xs : List Int) (x : Nat) (r : List Nat) (cls : Int) : List Int :=
  (xs.set 1 (nextW (xs.getD 1 0) (Stk.linkOf r - 1))).set (r0 + x) (rootV (laterN (xs.getD (r0 + x) 0 / 4294967296)) 1 cls 0)
def crEnd (r0 : Nat) (xs : List Int) (x : Nat) (r : List Nat) (cls : Int) : Cr :=
  ⟨cls, 2, 5, 3, x, laterN (xs.getD (r0 + x) 0 / 4294967296), ⟨1, 0, Stk.linkOf r - 1, xs.getD 1 0, [x], true⟩, rtOf (xs.getD (r0 + x) 0), 0, true⟩
def crNone (xs : List Int) (cls : Int) : Cr := ⟨cls, 0, 1, 1, 0, 0, ⟨1, 0, 0, xs.getD 1 0, [], true⟩, ⟨0, 0, 0, 0⟩, 7, true⟩
theorem Cr.run_fin {s : List Int × Cr} {j : Nat} (h : (Cr.run n r0 s j).2.fin = true) : ∀ k, Cr.run n r0 s (j + k) = Cr.run n r0 s j
  | 0 => rfl
  | k + 1 => by
    show Cr.step n r0 (Cr.run n r0 s (j + k)) = _
    rw [Cr.run_fin h k]
    unfold Cr.step
    rw [if_pos h]
theorem Ed.run_fin {s : List Int × Ed} {j : Nat} (h : (Ed.run r0 s j).2.fin = true) : ∀ k, Ed.run r0 s (j + k) = Ed.run r0 s j
  | 0 => rfl
  | k + 1 => by
    show Ed.step r0 (Ed.run r0 s (j + k)) = _
    rw [Ed.run_fin h k]
    unfold Ed.step
    rw [if_pos h]
theorem Pu.run_fin {s : List Int × Pu} {j : Nat} (h : (Pu.run n hd ln s j).2.fin = true) : ∀ k, Pu.run n hd ln s (j + k) = Pu.run n hd ln s j
  | 0 => rfl
  | k + 1 => by
    show Pu.step n hd ln (Pu.run n hd ln s (j + k)) = _
    rw [Pu.run_fin h k]
    unfold Pu.step
    rw [if_pos h]
theorem Cr.run_none (cls : Int) (h : xs.getD 1 0 % 4294967296 = 0) (k : Nat) : Cr.run n r0 (xs, Cr.new cls) (1 + k) = (xs, crNone xs cls) := by
  have ht : topN n (xs.getD 1 0) = -1 := topN_link (S := []) (by simp) (by simpa [Stk.linkOf] using h)
  have e1 : Cr.run n r0 (xs, Cr.new cls) 1 = (xs, crNone xs cls) := by
    show Cr.step n r0 (xs, Cr.new cls) = _
    unfold Cr.step Cr.new Cr.go Cr.xs Po.go Po.xs crNone
    simp [-List.getD_eq_getElem?_getD, ht]
  rw [Cr.run_fin (by rw [e1]; rfl), e1]
theorem Cr.run_some {x : Nat} {r : List Nat} (cls : Int) (hs : ∀ y ∈ x :: r, y < n) (h : xs.getD 1 0 % 4294967296 = Stk.linkOf (x :: r)) (hl : xs.getD (r0 + n + x) 0 = Stk.linkOf r) (h1 : 1 < r0) (k : Nat) :
    Cr.run n r0 (xs, Cr.new cls) (5 + k) = (crXs r0 xs x r cls, crEnd r0 xs x r cls) := by
  have hr : ∀ y ∈ r, y < n := fun y hy => hs y (by simp [hy])
  have ht : topN n (xs.getD 1 0) = (x : Int) := by rw [topN_link hs h]; simp [Stk.linkOf]
  have hb := belowN_link hr hl
  have s1 : Cr.run n r0 (xs, Cr.new cls) 1 = (xs, ⟨cls, 0, 1, 0, 0, 0, ⟨1, 1, 0, xs.getD 1 0, [x], false⟩, ⟨0, 0, 0, 0⟩, 0, false⟩) := by
    show Cr.step n r0 (xs, Cr.new cls) = _
    unfold Cr.step Cr.new Cr.go Cr.xs Po.go Po.xs
    have : ¬ ((x : Int) = -1) := by omega
    simp [-List.getD_eq_getElem?_getD, ht, this]
  have s2 : Cr.run n r0 (xs, Cr.new cls) 2 = (xs, ⟨cls, 0, 2, 0, 0, 0, ⟨1, 2, Stk.linkOf r - 1, xs.getD 1 0, [x], false⟩, ⟨0, 0, 0, 0⟩, 0, false⟩) := by
    show Cr.step n r0 (Cr.run n r0 (xs, Cr.new cls) 1) = _
    rw [s1]
    unfold Cr.step Cr.go Cr.xs Po.go Po.xs Po.last
    simp only [List.length_cons, List.length_nil]
    simp [-List.getD_eq_getElem?_getD, List.getD_cons_zero, hb]
  have s3 : Cr.run n r0 (xs, Cr.new cls) 3 = (xs.set 1 (nextW (xs.getD 1 0) (Stk.linkOf r - 1)), ⟨cls, 1, 3, 3, x, 0, ⟨1, 0, Stk.linkOf r - 1, xs.getD 1 0, [x], true⟩, ⟨0, 0, 0, 0⟩, 0, false⟩) := by
    show Cr.step n r0 (Cr.run n r0 (xs, Cr.new cls) 2) = _
    rw [s2]
    unfold Cr.step Cr.go Cr.xs Po.go Po.xs
    simp [-List.getD_eq_getElem?_getD, List.getD_cons_zero]
  have s4 : Cr.run n r0 (xs, Cr.new cls) 4 = (xs.set 1 (nextW (xs.getD 1 0) (Stk.linkOf r - 1)), ⟨cls, 2, 4, 3, x, 0, ⟨1, 0, Stk.linkOf r - 1, xs.getD 1 0, [x], true⟩, rtOf (xs.getD (r0 + x) 0), 0, false⟩) := by
    show Cr.step n r0 (Cr.run n r0 (xs, Cr.new cls) 3) = _
    rw [s3]
    unfold Cr.step Cr.go Cr.xs
    have e := getD_other (xs := xs) (i := 1) (j := r0 + x) (v := nextW (xs.getD 1 0) (Stk.linkOf r - 1)) (by omega)
    simp only [e]
    simp [-List.getD_eq_getElem?_getD, List.getD_cons_zero]
  have s5 : Cr.run n r0 (xs, Cr.new cls) 5 = (crXs r0 xs x r cls, crEnd r0 xs x r cls) := by
    show Cr.step n r0 (Cr.run n r0 (xs, Cr.new cls) 4) = _
    rw [s4]
    unfold Cr.step Cr.go Cr.xs crXs crEnd rtOf
    simp [-List.getD_eq_getElem?_getD, List.getD_cons_zero]
  rw [Cr.run_fin (by rw [s5]; rfl), s5]
def edEnd (xs : List Int) (r0 slot : Nat) (gen : Int) : Ed := ⟨slot, gen, 0, 2, 2, chunkN (rtOf (xs.getD (r0 + slot) 0)).m, xs.getD (r0 + slot) 0, 0, true⟩
def edStale (xs : List Int) (r0 slot : Nat) (gen : Int) : Ed := ⟨slot, gen, 1, 1, 1, -1, xs.getD (r0 + slot) 0, 3, true⟩
theorem Ed.run_live {slot : Nat} {gen : Int} (h : liveB (rtOf (xs.getD (r0 + slot) 0)).g (rtOf (xs.getD (r0 + slot) 0)).m gen = true) (k : Nat) :
    Ed.run r0 (xs, Ed.new slot gen) (2 + k) = (xs.set (r0 + slot) (rootV (rtOf (xs.getD (r0 + slot) 0)).g 0 0 0), edEnd xs r0 slot gen) := by
  have s1 : Ed.run r0 (xs, Ed.new slot gen) 1 = (xs, ⟨slot, gen, 1, 1, 0, -1, xs.getD (r0 + slot) 0, 0, false⟩) := by
    show Ed.step r0 (xs, Ed.new slot gen) = _
    unfold Ed.step Ed.new Ed.go Ed.xs Ed.live
    simp only [h]
    simp [-List.getD_eq_getElem?_getD, List.getD_cons_zero]
  have s2 : Ed.run r0 (xs, Ed.new slot gen) 2 = (xs.set (r0 + slot) (rootV (rtOf (xs.getD (r0 + slot) 0)).g 0 0 0), edEnd xs r0 slot gen) := by
    show Ed.step r0 (Ed.run r0 (xs, Ed.new slot gen) 1) = _
    rw [s1]
    unfold Ed.step Ed.go Ed.xs edEnd
    simp [-List.getD_eq_getElem?_getD, List.getD_cons_zero]
  rw [Ed.run_fin (by rw [s2]; rfl), s2]
theorem Ed.run_stale {slot : Nat} {gen : Int} (h : liveB (rtOf (xs.getD (r0 + slot) 0)).g (rtOf (xs.getD (r0 + slot) 0)).m gen = false) (k : Nat) :
    Ed.run r0 (xs, Ed.new slot gen) (1 + k) = (xs, edStale xs r0 slot gen) := by
  have s1 : Ed.run r0 (xs, Ed.new slot gen) 1 = (xs, edStale xs r0 slot gen) := by
    show Ed.step r0 (xs, Ed.new slot gen) = _
    unfold Ed.step Ed.new Ed.go Ed.xs Ed.live edStale
    simp only [h]
    simp [-List.getD_eq_getElem?_getD, List.getD_cons_zero]
  rw [Ed.run_fin (by rw [s1]; rfl), s1]
def puXs (n hd ln : Nat) (xs : List Int) (x : Nat) : List Int := (xs.set (ln + x) (topN n (xs.getD hd 0) + 1)).set hd (nextW (xs.getD hd 0) x)
theorem Pu.run_one {x : Nat} (h : hd < ln) (k : Nat) : Pu.run n hd ln (xs, Pu.new [x]) (3 + k) = (puXs n hd ln xs x, ⟨[x], 0, xs.getD hd 0, true⟩) := by
  have s1 : Pu.run n hd ln (xs, Pu.new [x]) 1 = (xs, ⟨[x], 1, xs.getD hd 0, false⟩) := by
    show Pu.step n hd ln (xs, Pu.new [x]) = _
    unfold Pu.step Pu.new Pu.go Pu.xs
    simp [-List.getD_eq_getElem?_getD, List.getD_cons_zero]
  have s2 : Pu.run n hd ln (xs, Pu.new [x]) 2 = (xs.set (ln + x) (topN n (xs.getD hd 0) + 1), ⟨[x], 2, xs.getD hd 0, false⟩) := by
    show Pu.step n hd ln (Pu.run n hd ln (xs, Pu.new [x]) 1) = _
    rw [s1]
    unfold Pu.step Pu.go Pu.xs
    simp [-List.getD_eq_getElem?_getD, List.getD_cons_zero]
  have s3 : Pu.run n hd ln (xs, Pu.new [x]) 3 = (puXs n hd ln xs x, ⟨[x], 0, xs.getD hd 0, true⟩) := by
    show Pu.step n hd ln (Pu.run n hd ln (xs, Pu.new [x]) 2) = _
    rw [s2]
    have e := getD_other (xs := xs) (i := ln + x) (j := hd) (v := topN n (xs.getD hd 0) + 1) (by omega)
    unfold Pu.step Pu.go Pu.xs puXs
    simp only [e]
    simp [-List.getD_eq_getElem?_getD, List.getD_cons_zero]
  rw [Pu.run_fin (by rw [s3]), s3]
end
end Go.Proofs.YtkopplnjomkleaaGreat
