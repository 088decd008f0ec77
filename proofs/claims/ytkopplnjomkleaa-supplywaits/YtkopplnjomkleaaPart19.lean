/-
  Texts beneath SupplyWaits, part 19: ChRef, Conserve, SupMath, RefTake, RefTake2, RefTake3, RefGive, RefSpill.
-/
import Derived.Test.YtkopplnjomkleaaPart18
/-
  The reference's chains over its memory (RP): Set, Walk, Behind.
-/
namespace Go.Proofs.Ytkopplnjomkleaa
open Go.RowKit
open W64
set_option maxRecDepth 100000
set_option linter.unusedSimpArgs false
/-- The document's W lies at k, over the memory at p (its cells at g), its pool at qp; the links begin at lk; n chunks. -/
structure RP (w : World) (k p g qp qs qe : Nat) (c : Cf) (lk n : Nat) (xs : List Int) (cnt : Int) : Prop where
  obj : Whole w k 74 #[.int .i64 c.wk, .int .i64 c.ch, .int .i64 c.wo, .int .i64 c.sl, .int .i64 c.ca, .int .i64 c.ba, .pointer (some ⟨p, 0, none⟩), .pointer (some ⟨qp, 0, none⟩), .pointer (some ⟨qs, 0, none⟩), .pointer (some ⟨qe, 0, none⟩)]
  env : REnv w p g qp 0 lk n xs cnt
  may : mayB c = true
  hk : (lk : Int) = 3 + c.wk + 2 * c.sl
  hn : (n : Int) = c.ch
section
variable {w0 w w' : World} {k p g qp qs qe lk n b : Nat} {c : Cf} {xs xs' : List Int} {cnt cnt' : Int} {v : Value} {L : List Nat} {fin : Bool}
theorem RP.kp (R : RP w k p g qp qs qe c lk n xs cnt) : k ≠ p := R.obj.ne_type R.env.mem.top (by decide)
theorem RP.kg (R : RP w k p g qp qs qe c lk n xs cnt) : k ≠ g := R.obj.ne_type R.env.mem.row (by decide)
theorem RP.turn (R : RP w k p g qp qs qe c lk n xs cnt) (m : Ref w' p g xs' cnt') {x : List Nat} (u : Else x w w') (h1 : k ∉ x) (h2 : qp ∉ x) (ok : Words xs') (hl : xs'.length = xs.length) : RP w' k p g qp qs qe c lk n xs' cnt' :=
  ⟨u.whole R.obj h1, R.env.turn m u h2 ok hl, R.may, R.hk, R.hn⟩
theorem RP.else (R : RP w k p g qp qs qe c lk n xs cnt) {x : List Nat} (u : Else x w w') (h : p ∉ x ∧ g ∉ x ∧ qp ∉ x ∧ k ∉ x) : RP w' k p g qp qs qe c lk n xs cnt :=
  ⟨u.whole R.obj h.2.2.2, R.env.else u h.1 h.2.1 h.2.2.1, R.may, R.hk, R.hn⟩
theorem RP.up (R : RP w k p g qp qs qe c lk n xs cnt) (u : Up w w') : RP w' k p g qp qs qe c lk n xs cnt := ⟨R.obj.up u, R.env.up u, R.may, R.hk, R.hn⟩
theorem RP.at (R : RP w k p g qp qs qe c lk n xs cnt) {i : Nat} (h : i < n) : llinkN c (i : Int) = ((lk + i : Nat) : Int) ∧ lk + i < xs.length := by
  have h1 := R.hk
  have h2 := R.hn
  have h3 := R.env.hl
  refine ⟨?_, by omega⟩
  unfold llinkN
  rw [atN_is R.may (by omega) (by omega)]
  omega
theorem RP.nn (R : RP w k p g qp qs qe c lk n xs cnt) : 6 ≤ lk ∧ 1 ≤ n ∧ n ≤ 4096 ∧ xs.length ≤ 8388608 := by
  have h1 := R.hk
  obtain ⟨h2, _, _, h3, _⟩ := may_small R.may
  exact ⟨by omega, R.env.n0, R.env.n1, R.env.top⟩
theorem RP.cells (R : RP w k p g qp qs qe c lk n xs cnt) (u : Up w w') : w'.cell? ⟨k, 0, none⟩ = some (.int .i64 c.wk) ∧ w'.cell? ⟨k, 1, none⟩ = some (.int .i64 c.ch) ∧ w'.cell? ⟨k, 2, none⟩ = some (.int .i64 c.wo) ∧ w'.cell? ⟨k, 3, none⟩ = some (.int .i64 c.sl) ∧ w'.cell? ⟨k, 4, none⟩ = some (.int .i64 c.ca) ∧ w'.cell? ⟨k, 5, none⟩ = some (.int .i64 c.ba) ∧ w'.cell? ⟨k, 6, none⟩ = some (.pointer (some ⟨p, 0, none⟩)) ∧ w'.cell? ⟨k, 7, none⟩ = some (.pointer (some ⟨qp, 0, none⟩)) :=
  ⟨u.kept (R.obj.cell rfl), u.kept (R.obj.cell rfl), u.kept (R.obj.cell rfl), u.kept (R.obj.cell rfl), u.kept (R.obj.cell rfl), u.kept (R.obj.cell rfl), u.kept (R.obj.cell rfl), u.kept (R.obj.cell rfl)⟩
/-! ### A Set -/
def rseRow (k : Nat) (chunk bh : Int) (fin : Bool) : Array Value := #[.pointer (some ⟨k, 0, none⟩), .int .i64 chunk, .int .i64 bh, .bool fin]
variable {rb : Array Value}
end
end Go.Proofs.Ytkopplnjomkleaa

/-
  The machines of package stack as plain data (Po, Pu), over a stack wherever its head and its links lie, held by StackMath's invariant: each item is in one place. No program is named here.
-/
namespace Go.Proofs.Ytkopplnjomkleaa
open Go.RowKit
open W64
set_option maxRecDepth 100000
/-- The links of a stack whose links begin at ln. -/
def lkX (ln : Nat) (xs : List Int) : Nat → Int := fun i => xs.getD (ln + i) 0
def machPo (P : Po) : Stk.Mach := .pop P.most P.i P.deep P.old (if P.i = 0 then [] else P.l)
def machPu (U : Pu) : Stk.Mach := .push U.l U.i U.old
/-- The invariant at these cells. -/
abbrev GX (n hd ln : Nat) (xs : List Int) (t : Nat) (S : List Nat) (m : Nat → Stk.Mach) (has : Nat → List Nat) : Prop := Stk.GI n (xs.getD hd 0) (lkX ln xs) t S m has
section
variable {n hd ln t u : Nat} {xs : List Int} {S : List Nat} {m : Nat → Stk.Mach} {has : Nat → List Nat} {P : Po} {U : Pu}
theorem lkX_hd (h : hd < ln) (xs : List Int) (v : Int) : lkX ln (xs.set hd v) = lkX ln xs := by
  funext i
  unfold lkX
  rw [getD_set, if_neg (by omega)]
theorem lkX_ln {y : Nat} (h : ln + y < xs.length) (v : Int) : lkX ln (xs.set (ln + y) v) = Stk.upd (lkX ln xs) y v := by
  funext i
  unfold lkX Stk.upd
  rw [getD_set]
  by_cases e : i = y
  · subst e; rw [if_pos ⟨rfl, h⟩, if_pos rfl]
  · rw [if_neg (by omega), if_neg e]
theorem hdX_hd (h : hd < xs.length) (v : Int) : (xs.set hd v).getD hd 0 = v := by rw [getD_set, if_pos ⟨rfl, h⟩]
theorem hdX_ln {y : Nat} (h : hd < ln) (v : Int) : (xs.set (ln + y) v).getD hd 0 = xs.getD hd 0 := by rw [getD_set, if_neg (by omega)]
theorem nextX {h x : Int} (ht : h / 4294967296 = t) (h1 : t < 4294967295) (h0 : -1 ≤ x) (hx : x ≤ 4096) : nextW h x = x + 1 + ((t + 1 : Nat) : Int) * 4294967296 := by
  rw [← (nextW_is (x := h) h0 hx).2, ht]
  have : nextT (t : Int) = ((t + 1 : Nat) : Int) := by
    unfold nextT inB
    rw [if_pos (by simp; omega)]; omega
  rw [this]; rfl
/-- What one access of a Pop leaves. -/
theorem po_gx (G : GX n hd ln xs t S m has) (hu : u < 4) (e : m u = machPo P) (K : P.Ok n) (hf : P.fin = false) (h1 : hd < ln) (h2 : hd < xs.length) (hn : 1 ≤ n) (hn4 : n ≤ 4096) (ht : t < 4294967295) :
    ((P.go n hd ln xs).fin = false ∧ GX n hd ln (P.xs hd xs) t S (Stk.upd m u (machPo (P.go n hd ln xs))) has) ∨
    ((P.go n hd ln xs).fin = true ∧ ∃ t' S', t' ≤ t + 1 ∧ GX n hd ln (P.xs hd xs) t' S' (Stk.upd m u .idle) (Stk.upd has u (has u ++ (P.go n hd ln xs).l))) := by
  obtain ⟨most, i, deep, old, l, fin⟩ := P
  dsimp only at hf
  subst hf
  have hp : Stk.puts (m u) = [] := by rw [e]; rfl
  have hmod := G.mod
  have hlk := G.link_le
  have hi2 := K.i2
  dsimp only at hi2
  rcases (show i = 0 ∨ i = 1 ∨ i = 2 by omega) with rfl | rfl | rfl
  · have hxs : Po.xs hd xs ⟨most, 0, deep, old, l, false⟩ = xs := by unfold Po.xs; rw [if_neg (by simp)]
    rw [hxs]
    cases S with
    | nil =>
      have hT : topN n (xs.getD hd 0) = -1 := by
        have h0 : xs.getD hd 0 % 4294967296 = 0 := hmod
        unfold topN; rw [if_neg (by omega)]; omega
      refine .inr ?_
      unfold Po.go
      dsimp only
      rw [if_pos rfl, if_pos hT]
      refine ⟨rfl, t, [], by omega, ?_⟩
      dsimp only
      rw [List.append_nil, Stk.upd_id]
      exact G.pop_over hu hp
    | cons x r =>
      have hx := G.mem_lt (x := x) (by simp)
      have hT : topN n (xs.getD hd 0) = x := by
        have h0 : xs.getD hd 0 % 4294967296 = (x : Int) + 1 := hmod
        unfold topN; rw [if_neg (by omega)]; omega
      refine .inl ?_
      unfold Po.go
      dsimp only
      rw [if_pos rfl, if_neg (by rw [hT]; omega), hT]
      refine ⟨rfl, ?_⟩
      unfold machPo
      dsimp only
      rw [if_neg (by decide), Int.toNat_natCast]
      exact G.pop_load hu hp rfl most deep
  · have hxs : Po.xs hd xs ⟨most, 1, deep, old, l, false⟩ = xs := by unfold Po.xs; rw [if_neg (by simp)]
    rw [hxs]
    have hne : l ≠ [] := K.ne (by simp)
    have hall := K.lt
    dsimp only at hall
    have hla : Po.last ⟨most, 1, deep, old, l, false⟩ = l.getLast hne := by unfold Po.last; rw [Stk.getLast_getD hne]
    have hin := hall _ (List.getLast_mem hne)
    have hlx := G.links _ hin
    have e' : m u = .pop most 1 deep old l := by rw [e]; unfold machPo; dsimp only; rw [if_neg (by decide)]
    have hB : belowN n (xs.getD (ln + l.getLast hne) 0) = lkX ln xs (l.getLast hne) - 1 := by
      show belowN n (lkX ln xs (l.getLast hne)) = _
      unfold belowN; rw [if_neg (by omega)]
    refine .inl ?_
    unfold Po.go
    dsimp only
    rw [if_neg (by decide), if_pos rfl, hla, hB]
    split
    · refine ⟨rfl, ?_⟩
      unfold machPo
      dsimp only
      rw [if_neg (by decide)]
      exact G.pop_last hu e' hne
    · rename_i hc
      refine ⟨rfl, ?_⟩
      unfold machPo
      dsimp only
      rw [if_neg (by decide)]
      obtain ⟨d, hd'⟩ : ∃ d : Nat, lkX ln xs (l.getLast hne) = d + 1 := ⟨(lkX ln xs (l.getLast hne) - 1).toNat, by
        have : ¬ lkX ln xs (l.getLast hne) - 1 = -1 := fun h => hc (.inl h)
        omega⟩
      have ed : (lkX ln xs (l.getLast hne) - 1).toNat = d := by omega
      rw [ed]
      exact G.pop_more hu e' hne hd' _
  · have e' : m u = .pop most 2 deep old l := by rw [e]; unfold machPo; dsimp only; rw [if_neg (by decide)]
    have hd2 := K.d2 rfl
    dsimp only at hd2
    by_cases ho : xs.getD hd 0 = old
    · refine .inr ?_
      have hxs : Po.xs hd xs ⟨most, 2, deep, old, l, false⟩ = xs.set hd (nextW old deep) := by unfold Po.xs; rw [if_pos ⟨rfl, ho⟩]
      unfold Po.go
      dsimp only
      rw [if_neg (by decide), if_neg (by decide), hxs]
      refine ⟨by simp only [ho]; simp, ?_⟩
      rw [← ho] at e'
      obtain ⟨r, hS, G'⟩ := G.pop_yes hu e'
      refine ⟨t + 1, r, Nat.le_refl _, ?_⟩
      unfold GX
      rw [hdX_hd h2, lkX_hd h1, ← ho, nextX G.tag ht hd2.1 (by omega)]
      exact G'
    · refine .inl ?_
      have hxs : Po.xs hd xs ⟨most, 2, deep, old, l, false⟩ = xs := by unfold Po.xs; rw [if_neg (fun h => ho h.2)]
      unfold Po.go
      dsimp only
      rw [if_neg (by decide), if_neg (by decide), hxs]
      refine ⟨decide_eq_false ho, ?_⟩
      unfold machPo
      dsimp only
      rw [if_pos rfl]
      exact G.pop_new hu hp most deep old
/-- What one access of a Push leaves. -/
theorem pu_gx (G : GX n hd ln xs t S m has) (hu : u < 4) (e : m u = machPu U) (K : U.Ok n) (hf : U.fin = false) (h1 : hd < ln) (h2 : ln + n ≤ xs.length) (hn4 : n ≤ 4096) (ht : t < 4294967295) :
    ((U.go hd xs).fin = false ∧ GX n hd ln (U.xs n hd ln xs) t S (Stk.upd m u (machPu (U.go hd xs))) has) ∨
    ((U.go hd xs).fin = true ∧ GX n hd ln (U.xs n hd ln xs) (t + 1) (U.l ++ S) (Stk.upd m u .idle) has) := by
  obtain ⟨l, i, old, fin⟩ := U
  dsimp only at hf
  subst hf
  have e' : m u = .push l i old := e
  have hne : l ≠ [] := K.ne
  have hall := K.lt
  have htop := K.top
  dsimp only at hall htop
  have lp := List.length_pos_iff.2 hne
  unfold Pu.go Pu.xs
  dsimp only
  by_cases c1 : i + 1 < l.length
  · rw [if_pos c1, if_pos c1]
    refine .inl ⟨rfl, ?_⟩
    have hy := hall _ (Stk.getD_mem (show i < l.length by omega))
    unfold GX
    rw [hdX_ln h1, lkX_ln (by omega)]
    exact G.push_store hu e' c1
  · rw [if_neg c1, if_neg c1]
    by_cases c2 : i + 1 = l.length
    · rw [if_pos c2, if_pos c2]
      exact .inl ⟨rfl, G.push_load hu e' c2⟩
    · rw [if_neg c2, if_neg c2]
      by_cases c3 : i = l.length
      · rw [if_pos c3, if_pos c3]
        refine .inl ⟨rfl, ?_⟩
        have hy := hall _ (Stk.getD_mem (show l.length - 1 < l.length by omega))
        have k := G.ok u hu
        rw [e'] at k
        obtain ⟨_, _, _, k4, _⟩ := k
        obtain ⟨_, k6, k7⟩ := k4 (by omega)
        have hT : topN n old + 1 = old % 4294967296 := by unfold topN; rw [if_neg (by omega)]; omega
        unfold GX
        rw [hdX_ln h1, lkX_ln (by omega), hT]
        have := G.push_link hu e' c3
        rw [c3] at this ⊢
        exact this
      · rw [if_neg c3, if_neg c3]
        have c4 : i = l.length + 1 := by omega
        by_cases ho : xs.getD hd 0 = old
        · rw [if_pos ho]
          refine .inr ⟨decide_eq_true ho, ?_⟩
          have hy := hall _ (Stk.getD_mem lp)
          rw [← ho] at e'
          have := G.push_yes hu e' c4
          unfold GX
          rw [hdX_hd (by omega), lkX_hd h1, ← ho, nextX G.tag ht (by omega) (by omega)]
          exact this
        · rw [if_neg ho]
          exact .inl ⟨decide_eq_false ho, G.push_no hu e' c4⟩
/-- What the workers have is another order of the same. -/
theorem Stk.GI.perm {hd' : Int} {lk : Nat → Int} (G : Stk.GI n hd' lk t S m has) {has' : Nat → List Nat} (h : ∀ v, v < 4 → ∀ x, (has' v).count x = (has v).count x) : Stk.GI n hd' lk t S m has' := by
  refine ⟨G.head, G.chain, G.small, G.links, fun x => ?_, G.ok⟩
  have c := G.cnt x
  unfold Stk.sum4 at c ⊢
  dsimp only at c ⊢
  rw [h 0 (by decide), h 1 (by decide), h 2 (by decide), h 3 (by decide)]
  exact c
/-- A cell that is neither the head nor a link is turned. -/
theorem gx_far (G : GX n hd ln xs t S m has) {a : Nat} {v : Int} (h1 : a ≠ hd) (h2 : a < ln) : GX n hd ln (xs.set a v) t S m has := by
  have e1 : (xs.set a v).getD hd 0 = xs.getD hd 0 := by rw [getD_set, if_neg (fun h => h1 h.1)]
  unfold GX
  rw [e1, lkX_hd h2]
  exact G
/-- What one of them has is distinct items, all below n. -/
theorem gx_good (G : GX n hd ln xs t S m has) (hu : u < 4) : (∀ x ∈ has u, x < n) ∧ (has u).Nodup ∧ (has u).length ≤ n := by
  have key : ∀ x, (has u).count x ≤ if x < n then 1 else 0 := by
    intro x
    have c := G.cnt x
    have s := Stk.sum4_ge (fun w => (has w).count x + (Stk.puts (m w)).count x) hu
    split at c <;> rename_i hx
    · rw [if_pos hx]; omega
    · rw [if_neg hx]; omega
  have ha : ∀ x ∈ has u, x < n := by
    intro x hx
    have p := List.count_pos_iff.2 hx
    have k := key x
    by_cases h : x < n
    · exact h
    · rw [if_neg h] at k; omega
  have hd : (has u).Nodup := by
    rw [List.nodup_iff_count]
    intro x
    have k := key x
    split at k <;> omega
  refine ⟨ha, hd, ?_⟩
  have hl := (G.once rfl).1
  simp only [List.length_append] at hl
  rcases (show u = 0 ∨ u = 1 ∨ u = 2 ∨ u = 3 by omega) with rfl | rfl | rfl | rfl <;> omega
end
end Go.Proofs.Ytkopplnjomkleaa

/-
  A worker of the supply as plain data (Wo): its stash, its limbo, the chunks in its hand, its machine; what each call and each access leaves; all workers over one pool (SInv): each chunk is in one place. No program is named here.
-/
namespace Go.Proofs.Ytkopplnjomkleaa
open Go.RowKit
open W64
set_option maxRecDepth 100000
/-- A worker's machine: a Take ahead of its Load, a Take at its Pop (the epoch it has seen), a Give. -/
inductive Mc
  | idle
  | look
  | pop (seen : Int) (P : Po)
  | give (U : Pu)
structure Wo where
  st : List Nat
  lb : Lb
  hand : List Nat
  tag : Int
  mc : Mc
def Wo.zero : Wo := ⟨[], Lb.zero, [], 0, .idle⟩
/-- Numbers of a list that came as integers. -/
def toN (xs : List Int) : List Nat := xs.map Int.toNat
def Lb.items (S : Lb) : List Nat := toN (S.L 0) ++ toN (S.L 1) ++ toN (S.L 2)
def Wo.has (W : Wo) : List Nat := W.st ++ W.lb.items ++ W.hand
def Mc.mach : Mc → Stk.Mach
  | .idle => .idle
  | .look => .idle
  | .pop _ P => machPo P
  | .give U => machPu U
def Po.new (batch : Nat) : Po := ⟨batch, 0, 0, 0, [], false⟩
/-- What a Take is behind a look into the stash: done with its last one, else as mc says. -/
def Wo.kept (W : Wo) (mc : Mc) : Wo := match W.st.getLast? with
  | some a => ⟨W.st.dropLast, W.lb, W.hand ++ [a], W.tag, .idle⟩
  | none => ⟨W.st, W.lb, W.hand, W.tag, mc⟩
/-- A Take is made. -/
def Wo.take (W : Wo) (batch : Nat) : Wo := W.kept (if W.lb.size = 0 then .pop (-1) (Po.new batch) else .look)
/-- Ready. -/
def Wo.ready (W : Wo) (now : Int) : Wo := ⟨W.st ++ toN (W.lb.outs now), W.lb.rest now, W.hand, W.tag, W.mc⟩
/-- The Load of the epoch. -/
def Wo.look (W : Wo) (batch : Nat) (now : Int) : Wo := (W.ready now).kept (.pop now (Po.new batch))
/-- An access of its Pop, that leaves it so. -/
def Wo.popped (W : Wo) (seen : Int) (P : Po) : Wo :=
  if P.fin = true then (match P.l with
    | [] => ⟨W.st, W.lb, W.hand, W.tag, .idle⟩
    | x :: r => ⟨W.st ++ r, W.lb, W.hand ++ [x], W.tag, .idle⟩)
  else ⟨W.st, W.lb, W.hand, W.tag, .pop seen P⟩
/-- A Give of the first K of the stash is made. -/
def Wo.give (W : Wo) (K : Nat) : Wo := ⟨W.st.drop K, W.lb, W.hand, W.tag, if W.st.take K = [] then .idle else .give ⟨W.st.take K, 0, 0, false⟩⟩
def Wo.gave (W : Wo) (V : Pu) : Wo := ⟨W.st, W.lb, W.hand, W.tag, if V.fin = true then .idle else .give V⟩
def Wo.put (W : Wo) : Wo := ⟨W.st ++ W.hand, W.lb, [], W.tag, W.mc⟩
/-- What is in its hand is retired with a tag, of the bucket k. -/
def Wo.retire (W : Wo) (k : Nat) (tag : Int) : Wo := ⟨W.st ++ toN (W.lb.taken k tag), W.lb.retire k tag (I W.hand), [], tag, W.mc⟩
section
variable {W : Wo} {S R : Lb} {xs ys : List Int} {k : Nat} {tag now : Int}
theorem toN_app (xs ys : List Int) : toN (xs ++ ys) = toN xs ++ toN ys := by simp [toN]
theorem toN_I : ∀ l : List Nat, toN (I l) = l
  | [] => rfl
  | x :: r => by
    show ((x : Int).toNat :: toN (I r)) = x :: r
    rw [toN_I r, Int.toNat_natCast]
theorem toN_nil : toN [] = [] := rfl
theorem items_clear (hk : k < 3) (x : Nat) : (S.clear k).items.count x + (toN (S.L k)).count x = S.items.count x := by
  have : k = 0 ∨ k = 1 ∨ k = 2 := by omega
  unfold Lb.items Lb.clear put
  rcases this with rfl | rfl | rfl <;> simp [toN_nil, List.count_append] <;> omega
theorem items_add (hk : k < 3) (x : Nat) : (S.add k tag xs).items.count x = S.items.count x + (toN xs).count x := by
  have : k = 0 ∨ k = 1 ∨ k = 2 := by omega
  unfold Lb.items Lb.add put
  rcases this with rfl | rfl | rfl <;> simp [toN_app, List.count_append] <;> omega
theorem items_retire (hk : k < 3) (x : Nat) : (S.retire k tag xs).items.count x + (toN (S.taken k tag)).count x = S.items.count x + (toN xs).count x := by
  unfold Lb.retire Lb.taken
  split
  · rw [items_add hk]; have := items_clear (S := S) hk x; omega
  · rw [items_add hk, toN_nil]; simp
theorem items_rest (x : Nat) : (S.rest now).items.count x + (toN (S.outs now)).count x = S.items.count x := by
  have h := (Lb.walk (now := now) (P := fun R o => R.items.count x + (toN o).count x = S.items.count x) (fun R o k h hk => by
    have := items_clear (S := R) (Lb.opn_some hk).2.1 x
    rw [toN_app, List.count_append]; omega) S.cnt S [] rfl (by simp [toN_nil])).1
  simpa using h
theorem kept_count (mc : Mc) (x : Nat) : (W.kept mc).has.count x = W.has.count x := by
  unfold Wo.kept
  split
  · rename_i a ha
    have hst : W.st = W.st.dropLast ++ [a] := by
      obtain ⟨ys, h⟩ := List.getLast?_eq_some_iff.1 ha
      rw [h]; simp
    unfold Wo.has
    dsimp only
    conv => rhs; rw [hst]
    simp only [List.count_append]
    omega
  · rfl
theorem ready_count (x : Nat) : (W.ready now).has.count x = W.has.count x := by
  unfold Wo.ready Wo.has
  dsimp only
  have := items_rest (S := W.lb) (now := now) x
  simp only [List.count_append]
  omega
theorem put_count (x : Nat) : W.put.has.count x = W.has.count x := by
  unfold Wo.put Wo.has
  dsimp only
  simp only [List.count_append, List.count_nil]
  omega
theorem retire_count (hk : k < 3) (x : Nat) : (W.retire k tag).has.count x = W.has.count x := by
  unfold Wo.retire Wo.has
  dsimp only
  have := items_retire (S := W.lb) (tag := tag) (xs := I W.hand) hk x
  rw [toN_I] at this
  simp only [List.count_append, List.count_nil]
  omega
end
/-- What holds of a worker alone. -/
structure Wo.Ok (n : Nat) (W : Wo) : Prop where
  lb : W.lb.Ok
  pos : ∀ k, k < 3 → ∀ x ∈ W.lb.L k, 0 ≤ x
  tag : W.lb.last ≤ W.tag ∧ 0 ≤ W.tag
  pop : ∀ s P, W.mc = .pop s P → P.Ok n ∧ P.fin = false
  give : ∀ V, W.mc = .give V → V.Ok n ∧ V.fin = false
def has3 (W : Nat → Wo) (u : Nat) : List Nat := if u < 3 then (W u).has else []
def mach3 (W : Nat → Wo) (u : Nat) : Stk.Mach := if u < 3 then (W u).mc.mach else .idle
/-- Three workers over a pool whose head is cell 0 and whose links begin at ln. -/
structure SInv (n ln : Nat) (xs : List Int) (t : Nat) (S : List Nat) (W : Nat → Wo) : Prop where
  gi : GX n 0 ln xs t S (mach3 W) (has3 W)
  ok : ∀ u, u < 3 → (W u).Ok n
section
variable {n ln t u batch : Nat} {xs : List Int} {S : List Nat} {W : Nat → Wo} {V : Wo} {P : Po} {Q : Pu} {seen now tag : Int}
theorem has3_put (hu : u < 3) (V : Wo) : has3 (put W u V) = Stk.upd (has3 W) u V.has := by
  funext j
  unfold has3 Stk.upd put
  by_cases e : j = u
  · subst e; rw [if_pos hu, if_pos rfl, if_pos rfl]
  · rw [if_neg e, if_neg e]
theorem mach3_put (hu : u < 3) (V : Wo) : mach3 (put W u V) = Stk.upd (mach3 W) u V.mc.mach := by
  funext j
  unfold mach3 Stk.upd put
  by_cases e : j = u
  · subst e; rw [if_pos hu, if_pos rfl, if_pos rfl]
  · rw [if_neg e, if_neg e]
theorem upd_same_eq {α : Type} (f : Nat → α) {v : α} (h : v = f u) : Stk.upd f u v = f := by rw [h, Stk.upd_id]
theorem has3_at (hu : u < 3) : has3 W u = (W u).has := by unfold has3; rw [if_pos hu]
theorem mach3_at (hu : u < 3) : mach3 W u = (W u).mc.mach := by unfold mach3; rw [if_pos hu]
/-- One of them has the same in another order, and a machine that holds nothing, or begins. -/
theorem SInv.calm (I : SInv n ln xs t S W) (hu : u < 3) (hc : ∀ x, V.has.count x = (W u).has.count x) (ok : V.Ok n) (hp : Stk.puts (W u).mc.mach = []) (hm : V.mc.mach = .idle ∨ ∃ m d o, V.mc.mach = .pop m 0 d o []) : SInv n ln xs t S (put W u V) := by
  have hp' : Stk.puts (mach3 W u) = [] := by rw [mach3_at hu]; exact hp
  refine ⟨?_, fun v hv => ?_⟩
  · have G : GX n 0 ln xs t S (Stk.upd (mach3 W) u V.mc.mach) (has3 W) := by
      rcases hm with h | ⟨m, d, o, h⟩
      · rw [h]; exact I.gi.pop_over (by omega) hp'
      · rw [h]; exact I.gi.pop_new (by omega) hp' m d o
    unfold GX at G ⊢
    rw [has3_put hu, mach3_put hu]
    refine G.perm fun v hv x => ?_
    by_cases e : v = u
    · subst e; rw [Stk.upd_same, has3_at hu]; exact hc x
    · rw [Stk.upd_ne _ _ e]
  · unfold put
    split
    · exact ok
    · exact I.ok v hv
theorem SInv.far (I : SInv n ln xs t S W) {a : Nat} {v : Int} (h1 : a ≠ 0) (h2 : a < ln) : SInv n ln (xs.set a v) t S W := ⟨gx_far I.gi h1 h2, I.ok⟩
end
end Go.Proofs.Ytkopplnjomkleaa

/-
  The reference's Take: its Pop begins; a look into the stash (kept); it is made.
-/
namespace Go.Proofs.Ytkopplnjomkleaa
open Go.RowKit
open W64
set_option maxRecDepth 100000
set_option linter.unusedSimpArgs false
def rtkRow (b : Nat) (a ch sn : Int) (pv : Value) (dn : Bool) : Array Value := #[.pointer (some ⟨b, 0, none⟩), .int .i64 a, .int .i64 ch, .int .i64 sn, pv, .bool dn]
section
variable {w w1 w' : World} {bt b k qs ql p g qp qsr qe lk n : Nat} {F : List Nat} {m a ch sn : Int} {st : List Int} {R : Lb} {c : Cf} {xs : List Int} {cnt : Int} {pv : Value} {dn : Bool}
theorem tk_set {i : Nat} {v : Value} (n1 : bt ≠ b) (n2 : bt ≠ k) (hi : i ≠ 0) (h : w.cell? ⟨bt, 0, none⟩ = some (.pointer (some ⟨b, 0, none⟩)) ∧ w.cell? ⟨b, 0, none⟩ = some (.pointer (some ⟨k, 0, none⟩)) ∧ w.cell? ⟨k, 7, none⟩ = some (.pointer (some ⟨qp, 0, none⟩)) ∧ w.cell? ⟨k, 5, none⟩ = some (.int .i64 c.ba)) : (w.setCell ⟨bt, i, none⟩ v).cell? ⟨bt, 0, none⟩ = some (.pointer (some ⟨b, 0, none⟩)) ∧ (w.setCell ⟨bt, i, none⟩ v).cell? ⟨b, 0, none⟩ = some (.pointer (some ⟨k, 0, none⟩)) ∧ (w.setCell ⟨bt, i, none⟩ v).cell? ⟨k, 7, none⟩ = some (.pointer (some ⟨qp, 0, none⟩)) ∧ (w.setCell ⟨bt, i, none⟩ v).cell? ⟨k, 5, none⟩ = some (.int .i64 c.ba) :=
  ⟨kept_set (off_ne hi) h.1, kept_set (ad_ne n1) h.2.1, kept_set (ad_ne n2) h.2.2.1, kept_set (ad_ne n2) h.2.2.2⟩
end
end Go.Proofs.Ytkopplnjomkleaa

/-
  The reference's Take: it is made.
-/
namespace Go.Proofs.Ytkopplnjomkleaa
open Go.RowKit
open W64
section
variable {w w1 w' : World} {bt b k qs ql p g qp qsr qe lk n : Nat} {F : List Nat} {m a ch sn : Int} {st : List Int} {R : Lb} {c : Cf} {xs : List Int} {cnt : Int} {pv : Value} {dn : Bool}
theorem RSu.lt (E : RSu w b k qs ql F m st R) : ∀ x ∈ F, x < w.heap.size := by obtain ⟨Fs, Fl, E⟩ := E; exact E.lt
end
end Go.Proofs.Ytkopplnjomkleaa

/-
  The reference's Take: an access of its Pop.
-/
namespace Go.Proofs.Ytkopplnjomkleaa
open Go.RowKit
open W64
section
variable {w w1 w' : World} {bt b k qs ql p g qp qsr qe lk n : Nat} {F O F' O' : List Nat} {m a ch sn seen : Int} {st : List Int} {R : Lb} {c : Cf} {xs : List Int} {cnt : Int} {pv : Value} {dn : Bool} {mc : Mc} {P P' : Po}
theorem far_next (N1 : Next w F F') (N2 : Next w O O') (h : ∀ x, x ∈ F ∨ x ∈ O → x ≠ p ∧ x ≠ g ∧ x ≠ k ∧ x ≠ qp) (hp : p < w.heap.size) (hg : g < w.heap.size) (hk : k < w.heap.size) (hq : qp < w.heap.size) : ∀ x, x ∈ F' ∨ x ∈ O' → x ≠ p ∧ x ≠ g ∧ x ≠ k ∧ x ≠ qp := by
  intro x hx
  rcases hx with hx | hx
  · rcases N1 x hx with h1 | h1
    · exact h x (.inl h1)
    · omega
  · rcases N2 x hx with h1 | h1
    · exact h x (.inr h1)
    · omega
theorem RP.lts (E : RP w k p g qp qsr qe c lk n xs cnt) : p < w.heap.size ∧ g < w.heap.size ∧ k < w.heap.size ∧ qp < w.heap.size := ⟨E.env.mem.top.lt, E.env.mem.row.lt, E.obj.lt, E.env.stk.lt⟩
end
end Go.Proofs.Ytkopplnjomkleaa

/-
  The reference's Give: it is made (give), its Step, its Hand.
-/
namespace Go.Proofs.Ytkopplnjomkleaa
open Go.RowKit
open W64
/-- A Give's machine behind an access that leaves its Push so. -/
def gvMc (V : Pu) : Mc := if V.fin = true then .idle else .give V
section
variable {w w1 w' : World} {bg bt b k qs ql p g qp qsr qe lk n : Nat} {F O F' O' : List Nat} {m : Int} {st : List Int} {R : Lb} {c : Cf} {xs : List Int} {cnt : Int} {mc : Mc} {l : List Nat} {V : Pu} {o : Value}
end
end Go.Proofs.Ytkopplnjomkleaa

/-
  The reference's supply: Spill, All; it is made.
-/
namespace Go.Proofs.Ytkopplnjomkleaa
open Go.RowKit
open W64
set_option maxRecDepth 100000
set_option linter.unusedSimpArgs false
/-- A Give of l as it is made. -/
def spMc (l : List Nat) : Mc := if l = [] then .idle else .give ⟨l, 0, 0, false⟩
section
variable {w w1 w' : World} {bg b k qs ql p g qp qsr qe lk n : Nat} {F F1 : List Nat} {m : Int} {st : List Int} {R : Lb} {c : Cf} {xs : List Int} {cnt : Int} {T l : List Nat} {o : Value} {K : Nat}
theorem I_tk (T : List Nat) (K : Nat) : (I T).take K = I (T.take K) := by simp [I, List.map_take]
theorem I_dr (T : List Nat) (K : Nat) : (I T).drop K = I (T.drop K) := by simp [I, List.map_drop]
set_option maxHeartbeats 2000000 in
/-- A supply is made: nothing is kept. -/
theorem rsuNew (P : RP w k p g qp qsr qe c lk n xs cnt) (hm : cutM c.ca = m) :
    Calls Try.prog 29 #[.pointer (some ⟨k, 0, none⟩)] w fun e w' => ∃ b qs ql F, e = .returned (.pointer (some ⟨b, 0, none⟩)) ∧ RSu w' b k qs ql F m [] Lb.rzero ∧ (∀ x ∈ F, w.heap.size ≤ x) ∧ Up w w' := by
  have k4 := P.obj.cell (i := 4) (v := .int .i64 c.ca) rfl
  have HM := Lib.hid hm
  clear P hm
  go_enter Try.func29, Try.ntmps29
  go_wp2_with (first
    | (go_at_call 59; refine (rsnew_any _ _).mono ?_; rintro e w1 ⟨qs, rfl, S1, b1, U1⟩; rw [HM.out] at S1; have HS1 := Lib.hid S1; have HB1 := Lib.hid b1; have HU1 := Lib.hid U1; clear S1 b1 U1)
    | (go_at_call 60; refine (rlnew_any _).mono ?_; rintro e w2 ⟨ql, rfl, L2, b2, U2⟩; have HL2 := Lib.hid L2; have HB2 := Lib.hid b2; have HU2 := Lib.hid U2; clear L2 b2 U2))
  go_ret
  have s1 := HU1.out.size
  have s2 := HU2.out.size
  have hb1 := HB1.out
  have hb2 := HB2.out
  have hq1 := HS1.out.lt qs HS1.out.mem
  have hq2 := HL2.out.lt ql HL2.out.mem
  refine ⟨w2.heap.size, qs, ql, [w2.heap.size, qs, ql], rfl, ⟨[qs], [ql], Whole.new _ _ _, (HS1.out.up HU2.out).up (Up.alloc _ _), HL2.out.up (Up.alloc _ _), by simp, by simp, fun x hx => by simp at hx ⊢; omega, by simp; omega, by simp; omega, by simp, fun x hx => by simp at hx ⊢; omega⟩, fun x hx => by simp at hx; omega, (HU1.out.trans HU2.out).then_alloc _⟩
end
end Go.Proofs.Ytkopplnjomkleaa
