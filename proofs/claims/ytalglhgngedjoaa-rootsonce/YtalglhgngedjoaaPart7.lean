/-
  Texts beneath RootsOnce, part 7: RootsData, RtMath, Pop2, Pop3.
-/
import Derived.Test.YtalglhgngedjoaaPart6
import Derived.Deep.RegionLaw
/-
  The machines of package roots as plain data: what they are behind each access, what the cells are. No function of the program is named here.
-/
namespace Go.Proofs.Ytalglhgngedjoaa
open Go.RowKit
open W64
set_option maxRecDepth 100000
/-- The four numbers that a root's word tells. -/
structure Rt where
  g : Int
  m : Int
  c : Int
  o : Int
def rtOf (x : Int) : Rt := ⟨x / 4294967296, x / 65536 % 65536, x / 4096 % 16, x % 4096⟩
def laterN (g : Int) : Int := if 4294967295 ≤ g then 0 else g + 1
/-- A Look. -/
structure Lk where
  slot : Nat
  gen : Int
  off : Int
  code : Int
  fin : Bool
/-- An End: 0: the Load is next, 1: the Cas. -/
structure Ed where
  slot : Nat
  gen : Int
  i : Nat
  steps : Nat
  point : Nat
  chunk : Int
  old : Int
  code : Int
  fin : Bool
/-- A Create: 0: the Pop, 1: the Load of the root, 2: its Store. -/
structure Cr where
  cls : Int
  i : Nat
  steps : Nat
  point : Nat
  slot : Nat
  gen : Int
  pop : Po
  rt : Rt
  code : Int
  fin : Bool
def Lk.live (r0 : Nat) (xs : List Int) (K : Lk) : Bool := liveB (rtOf (xs.getD (r0 + K.slot) 0)).g (rtOf (xs.getD (r0 + K.slot) 0)).m K.gen
def Lk.go (r0 : Nat) (xs : List Int) (K : Lk) : Lk :=
  if K.live r0 xs = true then ⟨K.slot, K.gen, (rtOf (xs.getD (r0 + K.slot) 0)).o, K.code, true⟩ else ⟨K.slot, K.gen, K.off, 3, true⟩
def Ed.live (r0 : Nat) (xs : List Int) (K : Ed) : Bool := liveB (rtOf (xs.getD (r0 + K.slot) 0)).g (rtOf (xs.getD (r0 + K.slot) 0)).m K.gen
def Ed.go (r0 : Nat) (xs : List Int) (K : Ed) : Ed :=
  if K.i = 0 then
    if K.live r0 xs = true then ⟨K.slot, K.gen, 1, K.steps + 1, K.point, K.chunk, xs.getD (r0 + K.slot) 0, K.code, false⟩
    else ⟨K.slot, K.gen, 1, K.steps + 1, K.steps + 1, K.chunk, xs.getD (r0 + K.slot) 0, 3, true⟩
  else if xs.getD (r0 + K.slot) 0 = K.old then ⟨K.slot, K.gen, 0, K.steps + 1, K.steps + 1, chunkN (rtOf K.old).m, K.old, K.code, true⟩
  else ⟨K.slot, K.gen, 0, K.steps + 1, K.point, K.chunk, K.old, K.code, false⟩
def Ed.xs (r0 : Nat) (xs : List Int) (K : Ed) : List Int := if K.i ≠ 0 ∧ xs.getD (r0 + K.slot) 0 = K.old then xs.set (r0 + K.slot) (rootV (rtOf K.old).g 0 0 0) else xs
def Cr.go (n r0 : Nat) (xs : List Int) (K : Cr) : Cr :=
  if K.i = 0 then
    if (K.pop.go n 1 (r0 + n) xs).fin = false then ⟨K.cls, 0, K.steps + 1, K.point, K.slot, K.gen, K.pop.go n 1 (r0 + n) xs, K.rt, K.code, false⟩
    else if (K.pop.go n 1 (r0 + n) xs).l = [] then ⟨K.cls, 0, K.steps + 1, K.steps + 1, K.slot, K.gen, K.pop.go n 1 (r0 + n) xs, K.rt, 7, true⟩
    else ⟨K.cls, 1, K.steps + 1, K.steps + 1, (K.pop.go n 1 (r0 + n) xs).l.getD 0 0, K.gen, K.pop.go n 1 (r0 + n) xs, K.rt, K.code, false⟩
  else if K.i = 1 then ⟨K.cls, 2, K.steps + 1, K.point, K.slot, K.gen, K.pop, rtOf (xs.getD (r0 + K.slot) 0), K.code, false⟩
  else ⟨K.cls, K.i, K.steps + 1, K.point, K.slot, laterN K.rt.g, K.pop, K.rt, K.code, true⟩
def Cr.xs (r0 : Nat) (xs : List Int) (K : Cr) : List Int :=
  if K.i = 0 then K.pop.xs 1 xs else if K.i = 1 then xs else xs.set (r0 + K.slot) (rootV (laterN K.rt.g) 1 K.cls 0)
end Go.Proofs.Ytalglhgngedjoaa

/-
  Package roots in plain data: the list that the cells tell, the machines run to their end by one alone. No function of the program is named here.
-/
namespace Go.Proofs.Ytalglhgngedjoaa
open Go.RowKit
open W64
set_option maxRecDepth 100000
set_option linter.unusedSimpArgs false
def cutC (a : Int) : Int := if a < 0 then 0 else if 3 < a then 3 else a
theorem cutC_in (a : Int) : 0 ≤ cutC a ∧ cutC a ≤ 3 := by unfold cutC; split; omega; split <;> omega
def Cr.new (cls : Int) : Cr := ⟨cls, 0, 0, 0, 0, 0, ⟨1, 0, 0, 0, [], false⟩, ⟨0, 0, 0, 0⟩, 0, false⟩
def Ed.new (slot : Nat) (gen : Int) : Ed := ⟨slot, gen, 0, 0, 0, -1, 0, 0, false⟩
def Lk.new (slot : Nat) (gen : Int) : Lk := ⟨slot, gen, 0, 0, false⟩
def Pu.new (l : List Nat) : Pu := ⟨l, 0, 0, false⟩
/-- The items from i on, f at most. -/
def walkL (n ln : Nat) (xs : List Int) : Nat → Int → List Nat
  | 0, _ => []
  | f + 1, i => if i < 0 then [] else i.toNat :: walkL n ln xs f (belowN n (xs.getD (ln + i.toNat) 0))
def lstOf (n hd ln : Nat) (xs : List Int) : List Nat := walkL n ln xs n (topN n (xs.getD hd 0))
section
variable {n ln hd r0 : Nat} {xs : List Int} {S : List Nat}
theorem walkL_len : ∀ (f : Nat) (i : Int), (walkL n ln xs f i).length ≤ f
  | 0, _ => by simp [walkL]
  | f + 1, i => by
    unfold walkL
    split
    · simp
    · have := walkL_len f (belowN n (xs.getD (ln + i.toNat) 0))
      rw [List.length_cons]; omega
theorem walkL_neg {f : Nat} {i : Int} (h : i < 0) : walkL n ln xs f i = [] := by
  cases f with
  | zero => rfl
  | succ f => unfold walkL; rw [if_pos h]
theorem walkL_nat {f x : Nat} : walkL n ln xs (f + 1) (x : Int) = x :: walkL n ln xs f (belowN n (xs.getD (ln + x) 0)) := by
  conv => lhs; unfold walkL
  rw [if_neg (by omega)]; simp
theorem link_small {S : List Nat} (h : ∀ x ∈ S, x < n) : 0 ≤ Stk.linkOf S ∧ Stk.linkOf S ≤ n := by
  cases S with
  | nil => simp [Stk.linkOf]
  | cons x r => have := h x (by simp); simp [Stk.linkOf]; omega
theorem topN_link {x : Int} {S : List Nat} (h : ∀ y ∈ S, y < n) (hx : x % 4294967296 = Stk.linkOf S) : topN n x = Stk.linkOf S - 1 := by
  have := link_small h
  unfold topN; rw [if_neg (by omega)]; omega
theorem belowN_link {x : Int} {S : List Nat} (h : ∀ y ∈ S, y < n) (hx : x = Stk.linkOf S) : belowN n x = Stk.linkOf S - 1 := by
  have := link_small h
  unfold belowN; rw [if_neg (by omega)]; omega
theorem walkL_chain : ∀ (S : List Nat) (f : Nat), S.length ≤ f → (∀ x ∈ S, x < n) → Stk.Chain (fun i => xs.getD (ln + i) 0) S → walkL n ln xs f (Stk.linkOf S - 1) = S
  | [], f, _, _, _ => walkL_neg (by simp [Stk.linkOf])
  | x :: r, 0, h, _, _ => by simp at h
  | x :: r, f + 1, h, hs, hc => by
    have hr : ∀ y ∈ r, y < n := fun y hy => hs y (by simp [hy])
    have h1 : xs.getD (ln + x) 0 = Stk.linkOf r := hc.1
    have e : Stk.linkOf (x :: r) - 1 = (x : Int) := by simp [Stk.linkOf]
    rw [e, walkL_nat, belowN_link hr h1, walkL_chain r f (by simpa using h) hr hc.2]
theorem lstOf_chain (hl : S.length ≤ n) (hs : ∀ x ∈ S, x < n) (hc : Stk.Chain (fun i => xs.getD (ln + i) 0) S) (ht : xs.getD hd 0 % 4294967296 = Stk.linkOf S) : lstOf n hd ln xs = S := by
  unfold lstOf
  rw [topN_link hs ht, walkL_chain S n hl hs hc]
theorem Chain.congr {lk lk' : Nat → Int} : ∀ {S : List Nat}, Stk.Chain lk S → (∀ x ∈ S, lk' x = lk x) → Stk.Chain lk' S
  | [], _, _ => trivial
  | x :: r, h, e => ⟨(e x (by simp)).trans h.1, Chain.congr h.2 fun y hy => e y (by simp [hy])⟩
theorem nextW_mod {x i : Int} (h0 : -1 ≤ i) (h1 : i ≤ 4096) : nextW x i % 4294967296 = i + 1 := by
  have ht : 0 ≤ nextT (x / 4294967296) ∧ nextT (x / 4294967296) ≤ 4294967295 := by
    unfold nextT
    split
    · rename_i h; have := inB_iff.1 h; omega
    · omega
  unfold nextW headV
  rw [if_pos (headB_iff.2 ⟨⟨h0, by omega⟩, ht⟩)]
  unfold headN; omega
/-! ### One alone, step by step -/
def Cr.step (n r0 : Nat) (s : List Int × Cr) : List Int × Cr := if s.2.fin = true then s else (s.2.xs r0 s.1, s.2.go n r0 s.1)
def Cr.run (n r0 : Nat) (s : List Int × Cr) : Nat → List Int × Cr
  | 0 => s
  | k + 1 => Cr.step n r0 (Cr.run n r0 s k)
def Ed.step (r0 : Nat) (s : List Int × Ed) : List Int × Ed := if s.2.fin = true then s else (s.2.xs r0 s.1, s.2.go r0 s.1)
def Ed.run (r0 : Nat) (s : List Int × Ed) : Nat → List Int × Ed
  | 0 => s
  | k + 1 => Ed.step r0 (Ed.run r0 s k)
def Pu.step (n hd ln : Nat) (s : List Int × Pu) : List Int × Pu := if s.2.fin = true then s else (s.2.xs n hd ln s.1, s.2.go hd s.1)
def Pu.run (n hd ln : Nat) (s : List Int × Pu) : Nat → List Int × Pu
  | 0 => s
  | k + 1 => Pu.step n hd ln (Pu.run n hd ln s k)
theorem getD_other {xs : List Int} {i j : Nat} {v : Int} (h : i ≠ j) : (xs.set i v).getD j 0 = xs.getD j 0 := by rw [getD_set, if_neg (fun e => h e.1)]
theorem getD_same {xs : List Int} {i : Nat} {v : Int} (h : i < xs.length) : (xs.set i v).getD i 0 = v := by rw [getD_set, if_pos ⟨rfl, h⟩]
/-- The cells behind a Create that has taken x, below which there is r. -/
def crXs (r0 : Nat) (xs : List Int) (x : Nat) (r : List Nat) (cls : Int) : List Int :=
  (xs.set 1 (nextW (xs.getD 1 0) (Stk.linkOf r - 1))).set (r0 + x) (rootV (laterN (xs.getD (r0 + x) 0 / 4294967296)) 1 cls 0)
def crEnd (r0 : Nat) (xs : List Int) (x : Nat) (r : List Nat) (cls : Int) : Cr :=
  ⟨cls, 2, 5, 3, x, laterN (xs.getD (r0 + x) 0 / 4294967296), ⟨1, 0, Stk.linkOf r - 1, xs.getD 1 0, [x], true⟩, rtOf (xs.getD (r0 + x) 0), 0, true⟩
def crNone (xs : List Int) (cls : Int) : Cr := ⟨cls, 0, 1, 1, 0, 0, ⟨1, 0, 0, xs.getD 1 0, [], true⟩, ⟨0, 0, 0, 0⟩, 7, true⟩
theorem Cr.run_fin {s : List Int × Cr} {j : Nat} (h : (Cr.run n r0 s j).2.fin = true) : ∀ k, Cr.run n r0 s (j + k) = Cr.run n r0 s j
  | 0 => rfl
  | k + 1 => by
    show Cr.step n r0 (Cr.run n r0 s (j + k)) = _
    rw [Cr.run_fin h k]
    unfold Cr.step
    rw [if_pos h]
theorem Ed.run_fin {s : List Int × Ed} {j : Nat} (h : (Ed.run r0 s j).2.fin = true) : ∀ k, Ed.run r0 s (j + k) = Ed.run r0 s j
  | 0 => rfl
  | k + 1 => by
    show Ed.step r0 (Ed.run r0 s (j + k)) = _
    rw [Ed.run_fin h k]
    unfold Ed.step
    rw [if_pos h]
theorem Pu.run_fin {s : List Int × Pu} {j : Nat} (h : (Pu.run n hd ln s j).2.fin = true) : ∀ k, Pu.run n hd ln s (j + k) = Pu.run n hd ln s j
  | 0 => rfl
  | k + 1 => by
    show Pu.step n hd ln (Pu.run n hd ln s (j + k)) = _
    rw [Pu.run_fin h k]
    unfold Pu.step
    rw [if_pos h]
theorem Cr.run_none (cls : Int) (h : xs.getD 1 0 % 4294967296 = 0) (k : Nat) : Cr.run n r0 (xs, Cr.new cls) (1 + k) = (xs, crNone xs cls) := by
  have ht : topN n (xs.getD 1 0) = -1 := topN_link (S := []) (by simp) (by simpa [Stk.linkOf] using h)
  have e1 : Cr.run n r0 (xs, Cr.new cls) 1 = (xs, crNone xs cls) := by
    show Cr.step n r0 (xs, Cr.new cls) = _
    unfold Cr.step Cr.new Cr.go Cr.xs Po.go Po.xs crNone
    simp [-List.getD_eq_getElem?_getD, ht]
  rw [Cr.run_fin (by rw [e1]; rfl), e1]
theorem Cr.run_some {x : Nat} {r : List Nat} (cls : Int) (hs : ∀ y ∈ x :: r, y < n) (h : xs.getD 1 0 % 4294967296 = Stk.linkOf (x :: r)) (hl : xs.getD (r0 + n + x) 0 = Stk.linkOf r) (h1 : 1 < r0) (k : Nat) :
    Cr.run n r0 (xs, Cr.new cls) (5 + k) = (crXs r0 xs x r cls, crEnd r0 xs x r cls) := by
  have hr : ∀ y ∈ r, y < n := fun y hy => hs y (by simp [hy])
  have ht : topN n (xs.getD 1 0) = (x : Int) := by rw [topN_link hs h]; simp [Stk.linkOf]
  have hb := belowN_link hr hl
  have s1 : Cr.run n r0 (xs, Cr.new cls) 1 = (xs, ⟨cls, 0, 1, 0, 0, 0, ⟨1, 1, 0, xs.getD 1 0, [x], false⟩, ⟨0, 0, 0, 0⟩, 0, false⟩) := by
    show Cr.step n r0 (xs, Cr.new cls) = _
    unfold Cr.step Cr.new Cr.go Cr.xs Po.go Po.xs
    have : ¬ ((x : Int) = -1) := by omega
    simp [-List.getD_eq_getElem?_getD, ht, this]
  have s2 : Cr.run n r0 (xs, Cr.new cls) 2 = (xs, ⟨cls, 0, 2, 0, 0, 0, ⟨1, 2, Stk.linkOf r - 1, xs.getD 1 0, [x], false⟩, ⟨0, 0, 0, 0⟩, 0, false⟩) := by
    show Cr.step n r0 (Cr.run n r0 (xs, Cr.new cls) 1) = _
    rw [s1]
    unfold Cr.step Cr.go Cr.xs Po.go Po.xs Po.last
    simp only [List.length_cons, List.length_nil]
    simp [-List.getD_eq_getElem?_getD, List.getD_cons_zero, hb]
  have s3 : Cr.run n r0 (xs, Cr.new cls) 3 = (xs.set 1 (nextW (xs.getD 1 0) (Stk.linkOf r - 1)), ⟨cls, 1, 3, 3, x, 0, ⟨1, 0, Stk.linkOf r - 1, xs.getD 1 0, [x], true⟩, ⟨0, 0, 0, 0⟩, 0, false⟩) := by
    show Cr.step n r0 (Cr.run n r0 (xs, Cr.new cls) 2) = _
    rw [s2]
    unfold Cr.step Cr.go Cr.xs Po.go Po.xs
    simp [-List.getD_eq_getElem?_getD, List.getD_cons_zero]
  have s4 : Cr.run n r0 (xs, Cr.new cls) 4 = (xs.set 1 (nextW (xs.getD 1 0) (Stk.linkOf r - 1)), ⟨cls, 2, 4, 3, x, 0, ⟨1, 0, Stk.linkOf r - 1, xs.getD 1 0, [x], true⟩, rtOf (xs.getD (r0 + x) 0), 0, false⟩) := by
    show Cr.step n r0 (Cr.run n r0 (xs, Cr.new cls) 3) = _
    rw [s3]
    unfold Cr.step Cr.go Cr.xs
    have e := getD_other (xs := xs) (i := 1) (j := r0 + x) (v := nextW (xs.getD 1 0) (Stk.linkOf r - 1)) (by omega)
    simp only [e]
    simp [-List.getD_eq_getElem?_getD, List.getD_cons_zero]
  have s5 : Cr.run n r0 (xs, Cr.new cls) 5 = (crXs r0 xs x r cls, crEnd r0 xs x r cls) := by
    show Cr.step n r0 (Cr.run n r0 (xs, Cr.new cls) 4) = _
    rw [s4]
    unfold Cr.step Cr.go Cr.xs crXs crEnd rtOf
    simp [-List.getD_eq_getElem?_getD, List.getD_cons_zero]
  rw [Cr.run_fin (by rw [s5]; rfl), s5]
def edEnd (xs : List Int) (r0 slot : Nat) (gen : Int) : Ed := ⟨slot, gen, 0, 2, 2, chunkN (rtOf (xs.getD (r0 + slot) 0)).m, xs.getD (r0 + slot) 0, 0, true⟩
def edStale (xs : List Int) (r0 slot : Nat) (gen : Int) : Ed := ⟨slot, gen, 1, 1, 1, -1, xs.getD (r0 + slot) 0, 3, true⟩
theorem Ed.run_live {slot : Nat} {gen : Int} (h : liveB (rtOf (xs.getD (r0 + slot) 0)).g (rtOf (xs.getD (r0 + slot) 0)).m gen = true) (k : Nat) :
    Ed.run r0 (xs, Ed.new slot gen) (2 + k) = (xs.set (r0 + slot) (rootV (rtOf (xs.getD (r0 + slot) 0)).g 0 0 0), edEnd xs r0 slot gen) := by
  have s1 : Ed.run r0 (xs, Ed.new slot gen) 1 = (xs, ⟨slot, gen, 1, 1, 0, -1, xs.getD (r0 + slot) 0, 0, false⟩) := by
    show Ed.step r0 (xs, Ed.new slot gen) = _
    unfold Ed.step Ed.new Ed.go Ed.xs Ed.live
    simp only [h]
    simp [-List.getD_eq_getElem?_getD, List.getD_cons_zero]
  have s2 : Ed.run r0 (xs, Ed.new slot gen) 2 = (xs.set (r0 + slot) (rootV (rtOf (xs.getD (r0 + slot) 0)).g 0 0 0), edEnd xs r0 slot gen) := by
    show Ed.step r0 (Ed.run r0 (xs, Ed.new slot gen) 1) = _
    rw [s1]
    unfold Ed.step Ed.go Ed.xs edEnd
    simp [-List.getD_eq_getElem?_getD, List.getD_cons_zero]
  rw [Ed.run_fin (by rw [s2]; rfl), s2]
theorem Ed.run_stale {slot : Nat} {gen : Int} (h : liveB (rtOf (xs.getD (r0 + slot) 0)).g (rtOf (xs.getD (r0 + slot) 0)).m gen = false) (k : Nat) :
    Ed.run r0 (xs, Ed.new slot gen) (1 + k) = (xs, edStale xs r0 slot gen) := by
  have s1 : Ed.run r0 (xs, Ed.new slot gen) 1 = (xs, edStale xs r0 slot gen) := by
    show Ed.step r0 (xs, Ed.new slot gen) = _
    unfold Ed.step Ed.new Ed.go Ed.xs Ed.live edStale
    simp only [h]
    simp [-List.getD_eq_getElem?_getD, List.getD_cons_zero]
  rw [Ed.run_fin (by rw [s1]; rfl), s1]
def puXs (n hd ln : Nat) (xs : List Int) (x : Nat) : List Int := (xs.set (ln + x) (topN n (xs.getD hd 0) + 1)).set hd (nextW (xs.getD hd 0) x)
theorem Pu.run_one {x : Nat} (h : hd < ln) (k : Nat) : Pu.run n hd ln (xs, Pu.new [x]) (3 + k) = (puXs n hd ln xs x, ⟨[x], 0, xs.getD hd 0, true⟩) := by
  have s1 : Pu.run n hd ln (xs, Pu.new [x]) 1 = (xs, ⟨[x], 1, xs.getD hd 0, false⟩) := by
    show Pu.step n hd ln (xs, Pu.new [x]) = _
    unfold Pu.step Pu.new Pu.go Pu.xs
    simp [-List.getD_eq_getElem?_getD, List.getD_cons_zero]
  have s2 : Pu.run n hd ln (xs, Pu.new [x]) 2 = (xs.set (ln + x) (topN n (xs.getD hd 0) + 1), ⟨[x], 2, xs.getD hd 0, false⟩) := by
    show Pu.step n hd ln (Pu.run n hd ln (xs, Pu.new [x]) 1) = _
    rw [s1]
    unfold Pu.step Pu.go Pu.xs
    simp [-List.getD_eq_getElem?_getD, List.getD_cons_zero]
  have s3 : Pu.run n hd ln (xs, Pu.new [x]) 3 = (puXs n hd ln xs x, ⟨[x], 0, xs.getD hd 0, true⟩) := by
    show Pu.step n hd ln (Pu.run n hd ln (xs, Pu.new [x]) 2) = _
    rw [s2]
    have e := getD_other (xs := xs) (i := ln + x) (j := hd) (v := topN n (xs.getD hd 0) + 1) (by omega)
    unfold Pu.step Pu.go Pu.xs puXs
    simp only [e]
    simp [-List.getD_eq_getElem?_getD, List.getD_cons_zero]
  rw [Pu.run_fin (by rw [s3]), s3]
end
end Go.Proofs.Ytalglhgngedjoaa

/-
  Package stack: the machine Pop: the Load of a link, the exchange, Step, Done.
-/
namespace Go.Proofs.Ytalglhgngedjoaa
open Go.RowKit
open W64
set_option maxRecDepth 100000
section
variable {w w' : World} {p g q hd ln n b most : Nat} {s : St} {v v' : Value} {l l' : List Nat} {deep old : Int} {nx : Value}
theorem wrap_last {K k : Nat} (h : K = k + 1) (h8 : K ≤ 8) : (k : Int) < (K : Int) ∧ wrap64 ((K : Int) - 1) = k ∧ IntKind.i64.wrap ((K : Int) - 1) = k := by
  refine ⟨by omega, ?_, ?_⟩
  · rw [wrap64_in (by omega) (by omega)]; omega
  · rw [IntWalk.i64_in _ (by omega)]; omega
theorem wrap_ln {ln x n L : Nat} (h : x < n) (h1 : ln + n ≤ L) (h2 : L ≤ 8388608) : wrap64 ((ln : Int) + x) = ln + x ∧ IntKind.i64.wrap ((ln : Int) + x) = ln + x :=
  ⟨wrap64_in (by omega) (by omega), IntWalk.i64_in _ (by omega)⟩
set_option maxHeartbeats 4000000 in
theorem pop_linkA (E : Env w p g q hd ln n s) (P : PopAt w b q v l most deep old nx) (A : Apart b p g q v) (hl0 : l ≠ []) (hn : ∀ x ∈ l, x < n) (hl : l.length ≤ 8) (hd : belowN n (s.get (ln + (l.getD (l.length - 1) 0 : Nat))) = -1) :
    Calls Try.prog 74 #[.pointer (some ⟨b, 0, none⟩)] w fun e w' => e = .returned (.tuple #[]) ∧ PopAt w' b q v l most (-1) old (meth 85 b) ∧ Mem w' p g (s.hit 1 (ln + (l.getD (l.length - 1) 0 : Nat)) (s.get (ln + (l.getD (l.length - 1) 0 : Nat))) true) ∧ Else [b, p, g] w w' := by
  obtain ⟨r, cap, rfl, ds⟩ := P.row.get hl0
  have lp := List.length_pos_iff.2 hl0
  have d0 := ds (l.length - 1) (by omega)
  clear ds
  obtain ⟨c0, c1, c2, c3, _, c5⟩ := P.cells
  obtain ⟨k0, _, k2, _⟩ := E.cells
  have m0 := hn _ (Stk.getD_mem (show l.length - 1 < l.length by omega))
  generalize l.getD (l.length - 1) 0 = x at *
  have hx := E.ok (ln + x)
  have hh := Lib.hid (E.hasL (i := x) (by omega) (by omega))
  have n1 := E.n1
  have hl2 := E.hl
  have ht := E.top
  obtain ⟨z, hz⟩ : ∃ z, s.get (ln + x) = z := ⟨_, rfl⟩
  rw [hz] at hx hd ⊢
  obtain ⟨k, hk⟩ : ∃ k, l.length = k + 1 := ⟨l.length - 1, by omega⟩
  have hk1 : l.length - 1 = k := by omega
  rw [hk1] at d0
  obtain ⟨K, hK⟩ : ∃ K : Nat, K = l.length := ⟨_, rfl⟩
  rw [← hK] at c2
  have i0 : (0 : Int) ≤ (k : Int) := Int.natCast_nonneg _
  obtain ⟨i1, s1, s2⟩ := wrap_last (hK.trans hk) (Nat.le_trans (Nat.le_of_eq hK) hl)
  obtain ⟨s3, s4⟩ := wrap_ln m0 hl2 ht
  have hq : q ∉ [p, g] := by simp [E.np, E.ng]
  have hb := A.b2
  have hbq := A.bq
  have hr : r ∉ [p, g] := fun hk => A.v2 r hk rfl
  have HE := Lib.hid E
  have HP := Lib.hid P
  have HA := Lib.hid A
  have HD := Lib.hid hd
  have HZ := Lib.hid hz
  have HK := Lib.hid hK
  have hf := run_func
  clear P E A hd hz hk hk1 hn hl2 ht m0 hK
  go_enter Try.func74, Try.ntmps74
  go_upto_region 0 with fail
  go_region_held3 (fun w' => w'.cell? ⟨b, 0, none⟩ = some (.pointer (some ⟨q, 0, none⟩)) ∧ w'.cell? ⟨q, 0, none⟩ = some (.pointer (some ⟨p, 0, none⟩)) ∧ w'.cell? ⟨q, 2, none⟩ = some (.int .i64 ln) ∧ w'.cell? ⟨b, 2, none⟩ = some (.slice (some ⟨r, 0, none⟩) K cap) ∧ w'.cell? ⟨r, k, none⟩ = some (.int .i64 x)) ((first | exact ⟨c0, k0, k2, c2, d0⟩ | exact ⟨E1.kept c0 hb, E1.kept k0 hq, E1.kept k2 hq, E1.kept c2 hb, E1.kept d0 hr⟩))
    (first
      | (go_at_call 50; refine (load_to (HE.out.mem.up (up_drew w)) hh.out HZ.out rfl).mono ?_; rintro e w1 ⟨rfl, M1, E1⟩))
  have HE1 := Lib.hid ((Else.of_up (up_drew w)).trans E1)
  have P2 := Lib.hid (HP.out.else HE1.out HA.out.b2 HA.out.v2)
  have EE := Lib.hid (HE.out.turn M1 HE1.out (HE.out.ok.hit 1 (ln + x) true hx.1 hx.2) (hit_len _ _ _ _ _))
  clear M1 E1 c0 c1 c2 c3 c5 d0 k0 k2
  obtain ⟨c0, c1, c2, c3, _, c5⟩ := P2.out.cells
  have f3 := P2.out.top.frozen 3
  go_upto_region 2 with (go_at_call 84; refine (ofLink_to EE.out hx.1 hx.2 HD.out).mono ?_; rintro e w9 ⟨rfl, rfl⟩)
  have P3 := Lib.hid (P2.out.below (-1))
  have M3 := Lib.hid (EE.out.mem.self HA.out.bp HA.out.bg 3 (.int .i64 (-1)))
  have E3 : Else [b, p, g] w (w1.setCell ⟨b, 3, none⟩ (.int .i64 (-1))) := else_self (HE1.out.wide b) (by simp)
  have E3 := Lib.hid E3
  clear c0 c1 c2 c3 c5 f3 P2 EE HE1
  generalize w1.setCell ⟨b, 3, none⟩ (.int .i64 (-1)) = w2 at *
  obtain ⟨c0, c1, c2, c3, _, c5⟩ := P3.out.cells
  rw [← HK.out] at c2
  go_quiet (fail)
  have f5 := P3.out.top.frozen 5
  go_wp2_with fail
  refine bodyPost_ret (v := .tuple #[]) (by simp [results, Try.results74, go_sem]) rfl ?_
  have V := Up.drewN w2 nq
  exact ⟨rfl, (P3.out.up V).next _, (M3.out.up V).self HA.out.bp HA.out.bg _ _, else_self (E3.out.up V) (by simp)⟩
set_option maxHeartbeats 4000000 in
theorem pop_linkB (E : Env w p g q hd ln n s) (P : PopAt w b q v l most deep old nx) (A : Apart b p g q v) (hl0 : l ≠ []) (hn : ∀ x ∈ l, x < n) (hl : l.length ≤ 8) {d : Nat} (hd : belowN n (s.get (ln + (l.getD (l.length - 1) 0 : Nat))) = d) (hm : l.length = most) :
    Calls Try.prog 74 #[.pointer (some ⟨b, 0, none⟩)] w fun e w' => e = .returned (.tuple #[]) ∧ PopAt w' b q v l most (d : Int) old (meth 85 b) ∧ Mem w' p g (s.hit 1 (ln + (l.getD (l.length - 1) 0 : Nat)) (s.get (ln + (l.getD (l.length - 1) 0 : Nat))) true) ∧ Else [b, p, g] w w' := by
  obtain ⟨r, cap, rfl, ds⟩ := P.row.get hl0
  have lp := List.length_pos_iff.2 hl0
  have d0 := ds (l.length - 1) (by omega)
  clear ds
  obtain ⟨c0, c1, c2, c3, _, c5⟩ := P.cells
  obtain ⟨k0, _, k2, _⟩ := E.cells
  have m0 := hn _ (Stk.getD_mem (show l.length - 1 < l.length by omega))
  generalize l.getD (l.length - 1) 0 = x at *
  have hx := E.ok (ln + x)
  have hh := Lib.hid (E.hasL (i := x) (by omega) (by omega))
  have n1 := E.n1
  have hl2 := E.hl
  have ht := E.top
  obtain ⟨z, hz⟩ : ∃ z, s.get (ln + x) = z := ⟨_, rfl⟩
  rw [hz] at hx hd ⊢
  obtain ⟨k, hk⟩ : ∃ k, l.length = k + 1 := ⟨l.length - 1, by omega⟩
  have hk1 : l.length - 1 = k := by omega
  rw [hk1] at d0
  obtain ⟨K, hK⟩ : ∃ K : Nat, K = l.length := ⟨_, rfl⟩
  rw [← hK] at c2
  have i0 : (0 : Int) ≤ (k : Int) := Int.natCast_nonneg _
  obtain ⟨i1, s1, s2⟩ := wrap_last (hK.trans hk) (Nat.le_trans (Nat.le_of_eq hK) hl)
  obtain ⟨s3, s4⟩ := wrap_ln m0 hl2 ht
  have hq : q ∉ [p, g] := by simp [E.np, E.ng]
  have hb := A.b2
  have hbq := A.bq
  have hr : r ∉ [p, g] := fun hk => A.v2 r hk rfl
  have HE := Lib.hid E
  have HP := Lib.hid P
  have HA := Lib.hid A
  have HD := Lib.hid hd
  have HZ := Lib.hid hz
  have HK := Lib.hid hK
  have hf := run_func
  clear P E A hd hz hk hk1 hn hl2 ht m0 hK
  go_enter Try.func74, Try.ntmps74
  go_upto_region 0 with fail
  go_region_held3 (fun w' => w'.cell? ⟨b, 0, none⟩ = some (.pointer (some ⟨q, 0, none⟩)) ∧ w'.cell? ⟨q, 0, none⟩ = some (.pointer (some ⟨p, 0, none⟩)) ∧ w'.cell? ⟨q, 2, none⟩ = some (.int .i64 ln) ∧ w'.cell? ⟨b, 2, none⟩ = some (.slice (some ⟨r, 0, none⟩) K cap) ∧ w'.cell? ⟨r, k, none⟩ = some (.int .i64 x)) ((first | exact ⟨c0, k0, k2, c2, d0⟩ | exact ⟨E1.kept c0 hb, E1.kept k0 hq, E1.kept k2 hq, E1.kept c2 hb, E1.kept d0 hr⟩))
    (first
      | (go_at_call 50; refine (load_to (HE.out.mem.up (up_drew w)) hh.out HZ.out rfl).mono ?_; rintro e w1 ⟨rfl, M1, E1⟩))
  have HE1 := Lib.hid ((Else.of_up (up_drew w)).trans E1)
  have P2 := Lib.hid (HP.out.else HE1.out HA.out.b2 HA.out.v2)
  have EE := Lib.hid (HE.out.turn M1 HE1.out (HE.out.ok.hit 1 (ln + x) true hx.1 hx.2) (hit_len _ _ _ _ _))
  clear M1 E1 c0 c1 c2 c3 c5 d0 k0 k2
  obtain ⟨c0, c1, c2, c3, _, c5⟩ := P2.out.cells
  have f3 := P2.out.top.frozen 3
  go_upto_region 2 with (go_at_call 84; refine (ofLink_to EE.out hx.1 hx.2 HD.out).mono ?_; rintro e w9 ⟨rfl, rfl⟩)
  have P3 := Lib.hid (P2.out.below (d : Int))
  have M3 := Lib.hid (EE.out.mem.self HA.out.bp HA.out.bg 3 (.int .i64 (d : Int)))
  have E3 : Else [b, p, g] w (w1.setCell ⟨b, 3, none⟩ (.int .i64 (d : Int))) := else_self (HE1.out.wide b) (by simp)
  have E3 := Lib.hid E3
  clear c0 c1 c2 c3 c5 f3 P2 EE HE1
  generalize w1.setCell ⟨b, 3, none⟩ (.int .i64 (d : Int)) = w2 at *
  obtain ⟨c0, c1, c2, c3, _, c5⟩ := P3.out.cells
  rw [← HK.out] at c2
  have g1 : ((d : Int) == -1) = false := by simp
  have g2 : ((K : Int) == (most : Int)) = true := by have := HK.out; simp; omega
  go_quiet (fail)
  have f5 := P3.out.top.frozen 5
  go_wp2_with fail
  refine bodyPost_ret (v := .tuple #[]) (by simp [results, Try.results74, go_sem]) rfl ?_
  have V := Up.drewN w2 nq
  exact ⟨rfl, (P3.out.up V).next _, (M3.out.up V).self HA.out.bp HA.out.bg _ _, else_self (E3.out.up V) (by simp)⟩

set_option maxHeartbeats 2000000 in
theorem pop_turn (E : Env w p g q hd ln n s) (P : PopAt w b q v l most deep old nx) (A : Apart b p g q v) {c : Bool} {s' : St}
    (hc : ∀ {w1 : World}, Env w1 p g q hd ln n s → Calls Try.prog 88 #[.pointer (some ⟨q, 0, none⟩), .int .u64 old, .int .i64 deep] w1 fun e w' => e = .returned (.bool c) ∧ Mem w' p g s' ∧ Else [p, g] w1 w') :
    Calls Try.prog 85 #[.pointer (some ⟨b, 0, none⟩)] w fun e w' => e = .returned (.tuple #[]) ∧ PopAt w' b q v l most deep old (if c then .nilFunc else meth 55 b) ∧ Mem w' p g s' ∧ Else [b, p, g] w w' := by
  obtain ⟨c0, _, _, c3, c4, c5⟩ := P.cells
  have hb := A.b2
  have HP := Lib.hid P
  have HA := Lib.hid A
  have HC := Lib.hid (hc (E.up (up_drew w)))
  have hf := run_func
  clear P E A hc
  cases c
  · go_enter Try.func85, Try.ntmps85
    go_upto_region 0 with fail
    go_region_held3 (fun w' => w'.cell? ⟨b, 0, none⟩ = some (.pointer (some ⟨q, 0, none⟩)) ∧ w'.cell? ⟨b, 3, none⟩ = some (.int .i64 deep) ∧ w'.cell? ⟨b, 4, none⟩ = some (.int .u64 old)) ((first | exact ⟨c0, c3, c4⟩ | exact ⟨E2.kept c0 hb, E2.kept c3 hb, E2.kept c4 hb⟩))
      (first
        | (go_at_call 88; refine HC.out.mono ?_; rintro e w2 ⟨rfl, M2, E2⟩))
    have E3 := Lib.hid ((Else.of_up (up_drew w)).trans E2)
    have P2 := Lib.hid (HP.out.else E3.out HA.out.b2 HA.out.v2)
    have j5 := P2.out.cells.2.2.2.2.2
    have f5 := P2.out.top.frozen 5
    go_wp2_with fail
    go_end0
    exact ⟨rfl, P2.out.next _, M2.self HA.out.bp HA.out.bg _ _, else_self (E3.out.wide b) (by simp)⟩
  · go_enter Try.func85, Try.ntmps85
    go_upto_region 0 with fail
    go_region_held3 (fun w' => w'.cell? ⟨b, 0, none⟩ = some (.pointer (some ⟨q, 0, none⟩)) ∧ w'.cell? ⟨b, 3, none⟩ = some (.int .i64 deep) ∧ w'.cell? ⟨b, 4, none⟩ = some (.int .u64 old)) ((first | exact ⟨c0, c3, c4⟩ | exact ⟨E2.kept c0 hb, E2.kept c3 hb, E2.kept c4 hb⟩))
      (first
        | (go_at_call 88; refine HC.out.mono ?_; rintro e w2 ⟨rfl, M2, E2⟩))
    have E3 := Lib.hid ((Else.of_up (up_drew w)).trans E2)
    have P2 := Lib.hid (HP.out.else E3.out HA.out.b2 HA.out.v2)
    have j5 := P2.out.cells.2.2.2.2.2
    have f5 := P2.out.top.frozen 5
    go_wp2_with fail
    go_end0
    exact ⟨rfl, P2.out.next _, M2.self HA.out.bp HA.out.bg _ _, else_self (E3.out.wide b) (by simp)⟩
end
end Go.Proofs.Ytalglhgngedjoaa

/-
  Package stack: the machine Pop: the Load of a link, the exchange, Step, Done.
-/
namespace Go.Proofs.Ytalglhgngedjoaa
open Go.RowKit
open W64
set_option maxRecDepth 100000
section
variable {w w' : World} {p g q hd ln n b most : Nat} {s : St} {v v' : Value} {l l' : List Nat} {deep old : Int} {nx : Value}
theorem Else.of_grown {a c : World} {row : Option Nat} (h : a.grownBy c row) : Else row.toList a c :=
  ⟨h.os, h.tape, h.output, h.size, fun k hk hn => h.block k hk (fun e => hn (by rw [← e]; simp))⟩
theorem more_end {w w4 wD : World} {p g q b most r cap K gg cap2 d : Nat} {s : St} {l : List Nat} {deep old : Int} {nx : Value} {o : Obj}
    (P : PopAt w4 b q (.slice (some ⟨r, 0, none⟩) l.length cap) l most deep old nx) (M : Mem w4 p g s) (E : Else [b, p, g] w w4) (A : Apart b p g q (.slice (some ⟨r, 0, none⟩) l.length cap))
    (O : wD.ownsRow 0 3 1 (.slice (some ⟨gg, 0, none⟩) (K + 1) cap2) (K + 1) ((I l).map (Value.int .i64) ++ [.int .i64 (d : Int)])) (G : (w4.drew.alloc o).grownBy wD (Value.slice (some ⟨r, 0, none⟩) K cap).ownBlock)
    (hat : (Value.slice (some ⟨r, 0, none⟩) K cap).ownBlock = some gg ∨ gg = w4.heap.size + 1) (hK : K = l.length) :
    (∃ r' cap', ((Value.slice (some ⟨r, 0, none⟩) l.length cap).ownBlock = some r' ∨ w.heap.size ≤ r') ∧ PopAt (wD.setCell ⟨b, 2, none⟩ (.slice (some ⟨gg, 0, none⟩) (K + 1) cap2)) b q (.slice (some ⟨r', 0, none⟩) (l.length + 1) cap') (l ++ [d]) most deep old nx) ∧
    Mem (wD.setCell ⟨b, 2, none⟩ (.slice (some ⟨gg, 0, none⟩) (K + 1) cap2)) p g s ∧ ∀ r', (Value.slice (some ⟨r, 0, none⟩) l.length cap).ownBlock = some r' → Else [b, r', p, g] w (wD.setCell ⟨b, 2, none⟩ (.slice (some ⟨gg, 0, none⟩) (K + 1) cap2)) := by
  subst hK
  have U : Up w4 (w4.drew.alloc o) := (up_drew w4).then_alloc o
  have hbw := P.top.lt
  have hrb : r ≠ b := fun e => P.away (by rw [e]; rfl)
  have EG := Else.of_grown G
  have hgb : gg ≠ b := by
    rcases hat with h | h
    · simp [Value.ownBlock] at h; omega
    · omega
  have top := EG.whole (P.top.up U) (by simp [Value.ownBlock]; exact fun e => hrb e.symm)
  have M2 := (M.up U).else EG (by simp [Value.ownBlock]; exact fun e => A.vp (by simp [Value.ownBlock, e])) (by simp [Value.ownBlock]; exact fun e => A.vg (by simp [Value.ownBlock, e]))
  refine ⟨⟨gg, cap2, ?_, ⟨top.set 2 _, row_self (ints_of_own O (by simp [I]) (by simp [I])) (by simp [Value.ownBlock]; exact hgb) _, by simp [Value.ownBlock]; exact hgb⟩⟩, M2.self A.bp A.bg _ _, fun r' hr' => ?_⟩
  · rcases hat with h | h
    · exact .inl h
    · have := E.size; exact .inr (by omega)
  · simp [Value.ownBlock] at hr'; subst hr'
    have E1 : Else [b, r, p, g] w w4 := E.more (by intro k hk; simp at hk ⊢; rcases hk with h | h | h <;> simp [h])
    have E2 : Else [b, r, p, g] (w4.drew.alloc o) wD := EG.more (by intro k hk; simp [Value.ownBlock] at hk; simp [hk])
    exact else_self ((E1.up U).trans E2) (by simp)
set_option maxHeartbeats 4000000 in
theorem pop_linkC (E : Env w p g q hd ln n s) (P : PopAt w b q v l most deep old nx) (A : Apart b p g q v) (hl0 : l ≠ []) (hn : ∀ x ∈ l, x < n) (hl : l.length ≤ 8) {d : Nat} (hd : belowN n (s.get (ln + (l.getD (l.length - 1) 0 : Nat))) = d) (hm : l.length ≠ most) :
    Calls Try.prog 74 #[.pointer (some ⟨b, 0, none⟩)] w fun e w' => e = .returned (.tuple #[]) ∧ (∃ r cap, (v.ownBlock = some r ∨ w.heap.size ≤ r) ∧ PopAt w' b q (.slice (some ⟨r, 0, none⟩) (l.length + 1) cap) (l ++ [d]) most d old nx) ∧ Mem w' p g (s.hit 1 (ln + (l.getD (l.length - 1) 0 : Nat)) (s.get (ln + (l.getD (l.length - 1) 0 : Nat))) true) ∧ (∀ r, v.ownBlock = some r → Else [b, r, p, g] w w') := by
  obtain ⟨r, cap, rfl, ds⟩ := P.row.get hl0
  have lp := List.length_pos_iff.2 hl0
  have d0 := ds (l.length - 1) (by omega)
  clear ds
  obtain ⟨c0, c1, c2, c3, _, c5⟩ := P.cells
  obtain ⟨k0, _, k2, _⟩ := E.cells
  have m0 := hn _ (Stk.getD_mem (show l.length - 1 < l.length by omega))
  generalize l.getD (l.length - 1) 0 = x at *
  have hx := E.ok (ln + x)
  have hh := Lib.hid (E.hasL (i := x) (by omega) (by omega))
  have n1 := E.n1
  have hl2 := E.hl
  have ht := E.top
  obtain ⟨z, hz⟩ : ∃ z, s.get (ln + x) = z := ⟨_, rfl⟩
  rw [hz] at hx hd ⊢
  obtain ⟨k, hk⟩ : ∃ k, l.length = k + 1 := ⟨l.length - 1, by omega⟩
  have hk1 : l.length - 1 = k := by omega
  rw [hk1] at d0
  obtain ⟨K, hK⟩ : ∃ K : Nat, K = l.length := ⟨_, rfl⟩
  rw [← hK] at c2
  have i0 : (0 : Int) ≤ (k : Int) := Int.natCast_nonneg _
  obtain ⟨i1, s1, s2⟩ := wrap_last (hK.trans hk) (Nat.le_trans (Nat.le_of_eq hK) hl)
  obtain ⟨s3, s4⟩ := wrap_ln m0 hl2 ht
  have hq : q ∉ [p, g] := by simp [E.np, E.ng]
  have hb := A.b2
  have hbq := A.bq
  have hr : r ∉ [p, g] := fun hk => A.v2 r hk rfl
  have HE := Lib.hid E
  have HP := Lib.hid P
  have HA := Lib.hid A
  have HD := Lib.hid hd
  have HZ := Lib.hid hz
  have HK := Lib.hid hK
  have hf := run_func
  clear P E A hd hz hk hk1 hn hl2 ht m0 hK
  go_enter Try.func74, Try.ntmps74
  go_upto_region 0 with fail
  go_region_held3 (fun w' => w'.cell? ⟨b, 0, none⟩ = some (.pointer (some ⟨q, 0, none⟩)) ∧ w'.cell? ⟨q, 0, none⟩ = some (.pointer (some ⟨p, 0, none⟩)) ∧ w'.cell? ⟨q, 2, none⟩ = some (.int .i64 ln) ∧ w'.cell? ⟨b, 2, none⟩ = some (.slice (some ⟨r, 0, none⟩) K cap) ∧ w'.cell? ⟨r, k, none⟩ = some (.int .i64 x)) ((first | exact ⟨c0, k0, k2, c2, d0⟩ | exact ⟨E1.kept c0 hb, E1.kept k0 hq, E1.kept k2 hq, E1.kept c2 hb, E1.kept d0 hr⟩))
    (first
      | (go_at_call 50; refine (load_to (HE.out.mem.up (up_drew w)) hh.out HZ.out rfl).mono ?_; rintro e w1 ⟨rfl, M1, E1⟩))
  have HE1 := Lib.hid ((Else.of_up (up_drew w)).trans E1)
  have P2 := Lib.hid (HP.out.else HE1.out HA.out.b2 HA.out.v2)
  have EE := Lib.hid (HE.out.turn M1 HE1.out (HE.out.ok.hit 1 (ln + x) true hx.1 hx.2) (hit_len _ _ _ _ _))
  clear M1 E1 c0 c1 c2 c3 c5 d0 k0 k2
  obtain ⟨c0, c1, c2, c3, _, c5⟩ := P2.out.cells
  have f3 := P2.out.top.frozen 3
  go_upto_region 2 with (go_at_call 84; refine (ofLink_to EE.out hx.1 hx.2 HD.out).mono ?_; rintro e w9 ⟨rfl, rfl⟩)
  have P3 := Lib.hid (P2.out.below (d : Int))
  have M3 := Lib.hid (EE.out.mem.self HA.out.bp HA.out.bg 3 (.int .i64 (d : Int)))
  have E3 : Else [b, p, g] w (w1.setCell ⟨b, 3, none⟩ (.int .i64 (d : Int))) := else_self (HE1.out.wide b) (by simp)
  have E3 := Lib.hid E3
  clear c0 c1 c2 c3 c5 f3 P2 EE HE1
  generalize w1.setCell ⟨b, 3, none⟩ (.int .i64 (d : Int)) = w2 at *
  obtain ⟨c0, c1, c2, c3, _, c5⟩ := P3.out.cells
  rw [← HK.out] at c2
  have g1 : ((d : Int) == -1) = false := by simp
  have g2 : ((K : Int) == (most : Int)) = false := by have := HK.out; simp; omega
  go_quiet (fail)
  have V := Up.drewN w2 nq
  have P4 := Lib.hid (P3.out.up V)
  have M4 := Lib.hid (M3.out.up V)
  have E4 := Lib.hid (E3.out.up V)
  clear c0 c1 c2 c3 c5 P3 M3 E3 V
  go_upto_region 4 with fail
  generalize w2.drewN nq = w4 at *
  obtain ⟨_, _, c2, c3, _, _⟩ := P4.out.cells
  rw [← HK.out] at c2
  have fb := P4.out.top.frozen 2
  obtain ⟨i9, hi, hz0, hz1, hz2⟩ := info_parts info_int
  have own4 := P4.out.row
  unfold Ints at own4
  rw [I_len, ← HK.out] at own4
  have OWN := Lib.hid (own_up own4 ((up_drew w4).then_alloc (.cells #[.int .i64 (d : Int)] 3)))
  have hK8 : K ≤ 8 := Nat.le_trans (Nat.le_of_eq HK.out) hl
  have g63 : K + 1 ≤ maxLen := by unfold maxLen; omega
  have gby : (K + 1) * 8 ≤ 140737488355328 := by omega
  have hbw := P4.out.top.lt
  have hH : (w4.drew.alloc (.cells #[.int .i64 (d : Int)] 3)).heap.size = w4.heap.size + 1 := by simp
  have hrb : r ≠ b := fun e => HP.out.away (by rw [e]; rfl)
  have hbr : some b ≠ (Value.slice (some ⟨r, 0, none⟩) K cap).ownBlock := by simp [Value.ownBlock]; exact fun e => hrb e.symm
  have P5 := Lib.hid (P4.out.up ((up_drew w4).then_alloc (.cells #[.int .i64 (d : Int)] 3)))
  clear own4
  go_region_law ((refine step_append_lies _ (by rfl) _ _ 22 (by rfl) 0 3 i9 (.int .i64 0) 1 8 Try.underlying22 hi hz0 hz1 hz2 rfl (by decide) (.slice (some ⟨r, 0, none⟩) K cap) K ((I l).map (Value.int .i64)) (by rfl) OWN.out ⟨w4.heap.size, 0, none⟩ 1 1 [.int .i64 (d : Int)] (by rfl) rfl (one_new _ _ _) (by simp [Value.oneCell']) (by decide) g63 gby (Nat.zero_le _) _ hH ?_; intro gg cap2 wD hownD hgrow hat hltD; have P6 := Lib.hid (Whole.grown P5.out.top hgrow hbr); have y2 := P6.out.cell (i := 2) rfl; have f2 := P6.out.frozen 2; have HOD := Lib.hid hownD; have HG := Lib.hid hgrow; clear hownD hgrow))
  all_goals
    go_wp2_with fail
    go_end0
    refine ⟨rfl, ?_⟩
    have fin := more_end P4.out M4.out E4.out HA.out HOD.out HG.out hat HK.out
    exact fin
end
end Go.Proofs.Ytalglhgngedjoaa
