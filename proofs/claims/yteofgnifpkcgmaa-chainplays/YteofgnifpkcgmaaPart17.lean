/-
  Texts beneath ChainPlays, part 17: ArrsIn, ChPlay.
-/
import Derived.Test.YteofgnifpkcgmaaPart16
import Derived.OpenShut
/-
  A slice of arrays of numbers that came in, opened (as IsRows of RowsIn). No program is named here.
-/
namespace Go.Proofs.Yteofgnifpkcgmaa
open Go.ChangeShapes Go.WideShapes Go.RowKit Go.Deep Go.Joins
theorem IsRows.three {k0 k1 k2 : IntKind} {w : World} {a : Option Addr} {len cap : Nat} {z : Nat → Nat → Int} (h : IsRows [k0, k1, k2] w a len cap z) {i : Nat} (hi : i < len) :
    ∃ b off, a = some ⟨b, off, none⟩ ∧ b < w.heap.size ∧ w.cell? ⟨b, off + i * 3, none⟩ = some (.int k0 (z i 0)) ∧ w.cell? ⟨b, off + i * 3 + 1, none⟩ = some (.int k1 (z i 1)) ∧
      w.cell? ⟨b, off + i * 3 + 2, none⟩ = some (.int k2 (z i 2)) := by
  obtain ⟨b, off, ha, hb, hc⟩ := h.at (by simp) (by omega)
  exact ⟨b, off, ha, hb, (hc i hi 0 k0 rfl).1, (hc i hi 1 k1 rfl).1, (hc i hi 2 k2 rfl).1⟩
section
variable {H : Type} {enc : TypeId × Value → H} {P : Program} {w : World} {base : Nat} {spare : Nat → Bool} {held : Bool}
theorem open_arrs {r : Reach} {b0 : Nat} {t e ee : TypeId} {n : Nat} {k : IntKind} {ks : List IntKind} {v : Value} {d : DataW H} {p : List MemPlace} (ht : P.underlying t = some (.slice e)) (he : P.underlying e = some (.array n ee))
    (c1 : P.cellsOf ee = 1) (ce : P.cellsOf e = n) (hn : ks = List.replicate n k) (hk : P.underlying ee = some (.int k))
    (hv : Value.okWide P w r b0 t v) (h : DataW.Trod enc P w base spare held t v d p) :
    ∃ a len cap z, v = .slice a len cap ∧ IsRows ks w a len cap z := by
  obtain ⟨a, len, cap, rfl⟩ := okWide_slice ht hv
  refine ⟨a, len, cap, ?_⟩
  obtain ⟨fuel, hf⟩ := h
  have hkl : ks.length = n := by rw [hn]; simp
  rcases open_slice ht hf with ⟨hcs, _⟩ | ⟨x, l, c, m, n', D, Pl, hcs, _, hl, hm, hmm, _, hx⟩
  · simp [Value.cells] at hcs
    obtain ⟨rfl, rfl, rfl⟩ := hcs
    exact ⟨fun _ _ => 0, rfl, Nat.zero_le _, .inl ⟨rfl, rfl, rfl⟩⟩
  · simp [Value.cells] at hcs
    obtain ⟨rfl, rfl, rfl⟩ := hcs
    have hlm : len ≤ m := by rw [hmm]; split <;> omega
    obtain ⟨z, hz⟩ := choose_rows (len := len) (R := fun i z => ∀ j k, ks[j]? = some k → w.cell? (x.add (i * ks.length + j)) = some (.int k (z j)) ∧ (Lit.int k (z j)).wf = true) (fun i hi => by
      refine choose_nums (R := fun j k z => w.cell? (x.add (i * ks.length + j)) = some (.int k z) ∧ (Lit.int k z).wf = true) (fun j k' hjk => ?_)
      obtain ⟨cs', h1, h2⟩ := hx i (by omega)
      rw [ce] at h1
      obtain ⟨_, hlen, hcell⟩ := World.cells?_some h1
      obtain ⟨xs, q, _, _, _, hxl, hg⟩ := DataW.trod_array he h2
      have hj : j < n := by rw [← hkl]; exact (List.getElem?_eq_some_iff.1 hjk).1
      obtain rfl : k' = k := by
        rw [hn, List.getElem?_replicate, if_pos hj] at hjk
        exact (Option.some.inj hjk).symm
      have g := hg j hj
      rw [c1, Nat.mul_one] at g
      have ej := hcell j hj
      rw [add_add] at ej
      have hjc : j < cs'.length := by omega
      have ed : (cs'.drop j).take 1 = [cs'[j]] := by
        rw [List.drop_eq_getElem_cons hjc]; rfl
      rw [ed, List.getElem?_eq_getElem (by omega)] at g
      obtain ⟨u, e1, _, hw⟩ := DataW.trod_int hk g
      rw [List.getElem?_eq_getElem hjc] at ej
      simp at e1
      exact ⟨u, by rw [hkl, ej, e1], hw⟩)
    exact ⟨z, rfl, by omega, .inr ⟨x, rfl, hl, hm, hz⟩⟩
end
end Go.Proofs.Yteofgnifpkcgmaa

/-
  Both memories beside each other (ChB): the program's chains, the document's; a round of ChainPlays.
-/
namespace Go.Proofs.Yteofgnifpkcgmaa
open Go.RowKit
open W64
set_option maxRecDepth 100000
set_option linter.unusedSimpArgs false
theorem IsRows.two {k0 k1 : IntKind} {w : World} {a : Option Addr} {len cap : Nat} {z : Nat → Nat → Int} (h : IsRows [k0, k1] w a len cap z) {i : Nat} (hi : i < len) :
    ∃ b off, a = some ⟨b, off, none⟩ ∧ b < w.heap.size ∧ w.cell? ⟨b, off + i * 2, none⟩ = some (.int k0 (z i 0)) ∧ w.cell? ⟨b, off + i * 2 + 1, none⟩ = some (.int k1 (z i 1)) := by
  obtain ⟨b, off, ha, hb, hc⟩ := h.at (by simp) (by omega)
  exact ⟨b, off, ha, hb, (hc i hi 0 k0 rfl).1, (hc i hi 1 k1 rfl).1⟩
abbrev boxM (n : Nat) : Array Value := #[.int .i64 1, .int .i64 (n : Int), .int .i64 8, .int .i64 1, .int .i64 0, .int .i64 1]
/-- Both memories, newer than W, and the configuration at bc. -/
structure ChB (W w : World) (bc q p g qs k pr gr qp qsr qe n : Nat) (s : St) (xs : List Int) (cnt : Int) : Prop where
  cha : Cha w q p g qs (cfM n) 6 n s
  rp : RP w k pr gr qp qsr qe (cfM n) 6 n xs cnt
  cf : Whole w bc 25 (boxM n)
  ne : g ≠ gr
  up : Up W w
  hp : W.heap.size ≤ p
  hg : W.heap.size ≤ g
  hpr : W.heap.size ≤ pr
  hgr : W.heap.size ≤ gr
section
variable {W w w' : World} {bc q p g qs k pr gr qp qsr qe n a f m b j : Nat} {s s' : St} {xs xs' : List Int} {cnt cnt' : Int} {v : Value} {L S : List Nat} {fin : Bool}
theorem walk_set1 : ∀ (f : Nat) (i : Int), walkL n 6 (xs.set 1 1) f i = walkL n 6 xs f i
  | 0, _ => rfl
  | f + 1, i => by
    unfold walkL
    split
    · rfl
    · rw [getD_other (by omega), walk_set1 f]
theorem lst_set1 : lstOf n 0 6 (xs.set 1 1) = lstOf n 0 6 xs := by
  unfold lstOf
  rw [walk_set1, getD_other (by decide)]
theorem set_set1 {i : Nat} {y : Int} : (xs.set 1 1).set (6 + i) y = (xs.set (6 + i) y).set 1 1 := List.set_comm _ _ (by omega)
theorem new_mem0 (h3 : 3 ≤ n) (h10 : n ≤ 10) : newXs (6 + 9 * n) 4 1 n = (mem0 n).xs.set 1 1 := by
  have : n = 3 ∨ n = 4 ∨ n = 5 ∨ n = 6 ∨ n = 7 ∨ n = 8 ∨ n = 9 ∨ n = 10 := by omega
  rcases this with rfl | rfl | rfl | rfl | rfl | rfl | rfl | rfl <;> rfl
theorem ChB.ups (T : ChB W w bc q p g qs k pr gr qp qsr qe n s xs cnt) (u : Up w w') : ChB W w' bc q p g qs k pr gr qp qsr qe n s xs cnt := ⟨T.cha.up u, T.rp.up u, T.cf.up u, T.ne, T.up.trans u, T.hp, T.hg, T.hpr, T.hgr⟩
theorem ChB.prog (T : ChB W w bc q p g qs k pr gr qp qsr qe n s xs cnt) (C : Cha w' q p g qs (cfM n) 6 n s') (E : Else [p, g] w w') : ChB W w' bc q p g qs k pr gr qp qsr qe n s' xs cnt := by
  have P := T.cha.env.mem.top
  have G := T.cha.env.mem.row
  have a1 := T.rp.env.mem.top.ne_type P (by decide)
  have a2 := T.rp.env.mem.top.ne_type G (by decide)
  have a3 := T.rp.env.mem.row.ne_type P (by decide)
  have a4 := T.rp.env.stk.ne_type P (by decide)
  have a5 := T.rp.env.stk.ne_type G (by decide)
  have a6 := T.rp.obj.ne_type P (by decide)
  have a7 := T.rp.obj.ne_type G (by decide)
  have a8 := T.cf.ne_type P (by decide)
  have a9 := T.cf.ne_type G (by decide)
  refine ⟨C, T.rp.else E (by simp [a1, a2, a3, a4, a5, a6, a7, T.ne.symm]), E.whole T.cf (by simp [a8, a9]), T.ne, Else.up_new T.up E ?_, T.hp, T.hg, T.hpr, T.hgr⟩
  intro j hj
  simp at hj
  rcases hj with rfl | rfl
  · exact T.hp
  · exact T.hg
theorem ChB.ref (T : ChB W w bc q p g qs k pr gr qp qsr qe n s xs cnt) (R : RP w' k pr gr qp qsr qe (cfM n) 6 n xs' cnt') (E : Else [pr, gr] w w') : ChB W w' bc q p g qs k pr gr qp qsr qe n s xs' cnt' := by
  have P := T.rp.env.mem.top
  have G := T.rp.env.mem.row
  have a1 := T.cha.env.mem.top.ne_type P (by decide)
  have a2 := T.cha.env.mem.top.ne_type G (by decide)
  have a3 := T.cha.env.mem.row.ne_type P (by decide)
  have a4 := T.cha.env.stk.ne_type P (by decide)
  have a5 := T.cha.env.stk.ne_type G (by decide)
  have a6 := T.cha.obj.ne_type P (by decide)
  have a7 := T.cha.obj.ne_type G (by decide)
  have a8 := T.cf.ne_type P (by decide)
  have a9 := T.cf.ne_type G (by decide)
  refine ⟨T.cha.else E (by simp [a1, a2, a3, a4, a5, a6, a7, T.ne]), R, E.whole T.cf (by simp [a8, a9]), T.ne, Else.up_new T.up E ?_, T.hp, T.hg, T.hpr, T.hgr⟩
  intro j hj
  simp at hj
  rcases hj with rfl | rfl
  · exact T.hpr
  · exact T.hgr
/-- What of the reference's is read in a round: its memory's cells, the links' cell of a. -/
theorem ChB.look (T : ChB W w bc q p g qs k pr gr qp qsr qe n s xs cnt) {X A : Nat} {z : Int} (hX : xs.length = X) (hA : A < xs.length) (hz : xs.getD A 0 = z) (u : Up w w') :
    w'.cell? ⟨bc, 0, none⟩ = some (.int .i64 1) ∧ w'.cell? ⟨bc, 1, none⟩ = some (.int .i64 (n : Int)) ∧ w'.cell? ⟨bc, 2, none⟩ = some (.int .i64 8) ∧ w'.cell? ⟨bc, 3, none⟩ = some (.int .i64 1) ∧ w'.cell? ⟨bc, 4, none⟩ = some (.int .i64 0) ∧ w'.cell? ⟨bc, 5, none⟩ = some (.int .i64 1) ∧
    w'.cell? ⟨k, 6, none⟩ = some (.pointer (some ⟨pr, 0, none⟩)) ∧ w'.cell? ⟨pr, 0, none⟩ = some (.slice (some ⟨gr, 0, none⟩) X X) ∧ w'.cell? ⟨gr, A, none⟩ = some (.int .u64 z) := by
  have r0 := T.rp.env.mem.cells.1
  have rh := T.rp.env.mem.cell hA
  rw [hX] at r0
  rw [hz] at rh
  exact ⟨u.kept (T.cf.cell rfl), u.kept (T.cf.cell rfl), u.kept (T.cf.cell rfl), u.kept (T.cf.cell rfl), u.kept (T.cf.cell rfl), u.kept (T.cf.cell rfl), u.kept (T.rp.obj.cell rfl), u.kept r0, u.kept rh⟩
/-- While the document walks alone. -/
structure RWkS (w0 : World) (k p g qp qs qe : Nat) (c : Cf) (lk n : Nat) (xs : List Int) (cn : Int) (S : List Nat) (b j : Nat) (v : Value) (L : List Nat) (fin : Bool) (w : World) : Prop where
  rp : RP w k p g qp qs qe c lk n xs (cn + j)
  mach : RWkM w b k v L fin
  he : Else [p, g] w0 w
  hb : w0.heap.size ≤ b
  hv : ∀ k, v.ownBlock = some k → w0.heap.size ≤ k
  go : fin = false → WkInv n lk xs S L ∧ L.length = j + 1
  end_ : fin = true → L = S ∧ L.length = j
def RWkAt (w0 : World) (k p g qp qs qe : Nat) (c : Cf) (lk n : Nat) (xs : List Int) (cn : Int) (S : List Nat) (b : Nat) (st : Value) (w : World) : Prop :=
  ∃ (j : Nat) (v : Value) (L : List Nat) (fin : Bool), st = .int .i64 ((S.length : Int) - j) ∧ RWkS w0 k p g qp qs qe c lk n xs cn S b j v L fin w
variable {w0 : World} {c : Cf} {lk : Nat} {cn : Int}
theorem RWkS.len (X : RWkS w0 k p g qp qs qe c lk n xs cn S b j v L fin w) (hS : S.length ≤ n) : j ≤ n := by
  cases fin with
  | false => have h := X.go rfl; have := h.1.le; omega
  | true => obtain ⟨h1, h2⟩ := X.end_ rfl; rw [h1] at h2; omega
theorem RWkS.step (X : RWkS w0 k p g qp qs qe c lk n xs cn S b j v L false w) (hc : 0 ≤ cn ∧ cn ≤ 1000000) (hj : j ≤ 1000) :
    Calls Try.prog 23 #[.pointer (some ⟨b, 0, none⟩)] w fun e w' => e = .returned (.bool true) ∧ ∃ v' L' fin', RWkS w0 k p g qp qs qe c lk n xs cn S b (j + 1) v' L' fin' w' := by
  obtain ⟨I1, I2⟩ := X.go rfl
  refine (rwkStep X.rp X.mach I1.ne I1.all I1.le).mono ?_
  rintro e w' ⟨rfl, v', O⟩
  have ec : wrap64 (cn + (j : Int) + 1) = cn + ((j + 1 : Nat) : Int) := by rw [wrap64_in (by omega) (by omega)]; omega
  refine ⟨rfl, v', wkGo n lk xs L, wkEnd n lk xs L, by rw [← ec]; exact O.rp, O.mach, ?_, X.hb, ?_, ?_, ?_⟩
  · refine X.he.new_too O.he ?_
    intro x hx
    simp [wkOwn] at hx
    rcases hx with rfl | rfl | rfl | hx
    · exact .inr X.hb
    · exact .inl (by simp)
    · exact .inl (by simp)
    · exact .inr (X.hv _ (mem_blk.1 hx))
  · intro k hk
    rcases O.near with h | h
    · exact X.hv k (h ▸ hk)
    · exact Nat.le_trans X.he.size (h k hk)
  · intro hf
    obtain ⟨a1, a2⟩ := I1.goes (fun i => (X.rp.env.ok i).1) hf
    exact ⟨a1, by omega⟩
  · intro hf
    have e : wkGo n lk xs L = L := by unfold wkGo; rw [if_pos hf]
    rw [e]
    exact ⟨I1.done hf, I2⟩
theorem RWkS.new (R : RP w k p g qp qs qe c lk n xs cn) (hw0 : Up w0 w) (M : RWkM w b k v [a] false) (hb : w0.heap.size ≤ b) (hv : Fresh w0 v) (ha : a < n) (hS : walkL n lk xs n (a : Int) = S) : RWkS w0 k p g qp qs qe c lk n xs cn S b 0 v [a] false w :=
  ⟨by simpa using R, M, Else.of_up hw0, hb, hv, fun _ => ⟨hS ▸ WkInv.start ha, rfl⟩, fun h => by cases h⟩
/-- ChainPlays, behind j rounds. -/
def PlRel (W : World) (bc q p g qs k pr gr qp qsr qe n len : Nat) (i : Value) (wr : World) : Prop :=
  ∃ (j : Nat) (s : St), i = .int .i64 j ∧ j ≤ len ∧ (0 ≤ s.c ∧ s.c ≤ 100 * j) ∧ ChB W wr bc q p g qs k pr gr qp qsr qe n s (s.xs.set 1 1) s.c
/-- Both are made. -/
theorem ChB.new {w1 w2 : World} {bc : Nat} (T : ChS W w1 q p g qs n (mem0 n)) (h3 : 3 ≤ n) (h10 : n ≤ 10) (cf : Whole w2 bc 25 (boxM n)) (u : Up w1 w2)
    (R : RW w2 k pr gr qp qsr qe (cfM n) 4 1 (newXs (6 + 9 * n) 4 1 n) 0) (E : REnv w2 pr gr qp 0 (4 + 2 * 1) n (newXs (6 + 9 * n) 4 1 n) 0) (hpr : w1.heap.size ≤ pr) (hgr : w1.heap.size ≤ gr) :
    ChB W w2 bc q p g qs k pr gr qp qsr qe n (mem0 n) ((mem0 n).xs.set 1 1) (mem0 n).c := by
  rw [new_mem0 h3 h10] at R E
  have hc : (mem0 n).c = 0 := mem0_c n
  rw [hc]
  have h1 := T.cha.env.mem.row.lt
  exact ⟨T.cha.up u, ⟨R.obj, E, R.may, by dsimp only; rfl, rfl⟩, cf, by omega, T.up.trans u, T.hp, T.hg, Nat.le_trans T.up.size hpr, Nat.le_trans T.up.size hgr⟩
/-- A Set of both. -/
theorem setS_both {A : Nat} {B : Int} (hc : 0 ≤ s.c ∧ s.c ≤ 1000000) : (setS s 6 A B).xs = s.xs.set (6 + A) (B + 1) ∧ (setS s 6 A B).c = s.c + 1 ∧ wrap64 (s.c + 1) = s.c + 1 := by
  have e : wrap64 (s.c + 1) = s.c + 1 := wrap64_in (by omega) (by omega)
  exact ⟨setS_xs _ _ _ _, by rw [setS_c, e], e⟩
end
end Go.Proofs.Yteofgnifpkcgmaa
