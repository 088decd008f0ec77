/-
  Texts beneath SupplyAll, part 25: Conserve, SupMath, RefTake, RefTake2.
-/
import Derived.Test.YtkopplnjomkleaaGreatPart24
/-
  The machines of package stack as plain data (Po, Pu), over a stack wherever its head and its links lie, held by StackMath's invariant: each item is in one place. No program is named here.
-/
namespace Go.Proofs.YtkopplnjomkleaaGreat
open Go.RowKit
open W64
set_option maxRecDepth 100000
/-- The links of a stack whose links begin at ln. -/
def lkX (ln : Nat) (xs : List Int) : Nat → Int := fun i => xs.getD (ln + i) 0
def machPo (P : Po) : Stk.Mach := .pop P.most P.i P.deep P.old (if P.i = 0 then [] else P.l)
def machPu (U : Pu) : Stk.Mach := .push U.l U.i U.old
/-- The invariant at these cells. -/
abbrev GX (n hd ln : Nat) (xs : List Int) (t : Nat) (S : List Nat) (m : Nat → Stk.Mach) (has : Nat → List Nat) : Prop := Stk.GI n (xs.getD hd 0) (lkX ln xs) t S m has
section
variable {n hd ln t u : Nat} {xs : List Int} {S : List Nat} {m : Nat → Stk.Mach} {has : Nat → List Nat} {P : Po} {U : Pu}
theorem lkX_hd (h : hd < ln) (xs : List Int) (v : Int) : lkX ln (xs.set hd v) = lkX ln xs := by
  funext i
  unfold lkX
  rw [getD_set, if_neg (by omega)]
theorem lkX_ln {y : Nat} (h : ln + y < xs.length) (v : Int) : lkX ln (xs.set (ln + y) v) = Stk.upd (lkX ln xs) y v := by
  funext i
  unfold lkX Stk.upd
  rw [getD_set]
  by_cases e : i = y
  · subst e; rw [if_pos ⟨rfl, h⟩, if_pos rfl]
  · rw [if_neg (by omega), if_neg e]
theorem hdX_hd (h : hd < xs.length) (v : Int) : (xs.set hd v).getD hd 0 = v := by rw [getD_set, if_pos ⟨rfl, h⟩]
theorem hdX_ln {y : Nat} (h : hd < ln) (v : Int) : (xs.set (ln + y) v).getD hd 0 = xs.getD hd 0 := by rw [getD_set, if_neg (by omega)]
theorem nextX {h x : Int} (ht : h / 4294967296 = t) (h1 : t < 4294967295) (h0 : -1 ≤ x) (hx : x ≤ 4096) : nextW h x = x + 1 + ((t + 1 : Nat) : Int) * 4294967296 := by
  rw [← (nextW_is (x := h) h0 hx).2, ht]
  have : nextT (t : Int) = ((t + 1 : Nat) : Int) := by
    unfold nextT inB
    rw [if_pos (by simp; omega)]; omega
  rw [this]; rfl
/-- What one access of a Pop leaves. -/
theorem po_gx (G : GX n hd ln xs t S m has) (hu : u < 4) (e : m u = machPo P) (K : P.Ok n) (hf : P.fin = false) (h1 : hd < ln) (h2 : hd < xs.length) (hn : 1 ≤ n) (hn4 : n ≤ 4096) (ht : t < 4294967295) :
    ((P.go n hd ln xs).fin = false ∧ GX n hd ln (P.xs hd xs) t S (Stk.upd m u (machPo (P.go n hd ln xs))) has) ∨
    ((P.go n hd ln xs).fin = true ∧ ∃ t' S', t' ≤ t + 1 ∧ GX n hd ln (P.xs hd xs) t' S' (Stk.upd m u .idle) (Stk.upd has u (has u ++ (P.go n hd ln xs).l))) := by
  obtain ⟨most, i, deep, old, l, fin⟩ := P
  dsimp only at hf
  subst hf
  have hp : Stk.puts (m u) = [] := by rw [e]; rfl
  have hmod := G.mod
  have hlk := G.link_le
  have hi2 := K.i2
  dsimp only at hi2
  rcases (show i = 0 ∨ i = 1 ∨ i = 2 by omega) with rfl | rfl | rfl
  · have hxs : Po.xs hd xs ⟨most, 0, deep, old, l, false⟩ = xs := by unfold Po.xs; rw [if_neg (by simp)]
    rw [hxs]
    cases S with
    | nil =>
      have hT : topN n (xs.getD hd 0) = -1 := by
        have h0 : xs.getD hd 0 % 4294967296 = 0 := hmod
        unfold topN; rw [if_neg (by omega)]; omega
      refine .inr ?_
      unfold Po.go
      dsimp only
      rw [if_pos rfl, if_pos hT]
      refine ⟨rfl, t, [], by omega, ?_⟩
      dsimp only
      rw [List.append_nil, Stk.upd_id]
      exact G.pop_over hu hp
    | cons x r =>
      have hx := G.mem_lt (x := x) (by simp)
      have hT : topN n (xs.getD hd 0) = x := by
        have h0 : xs.getD hd 0 % 4294967296 = (x : Int) + 1 := hmod
        unfold topN; rw [if_neg (by omega)]; omega
      refine .inl ?_
      unfold Po.go
      dsimp only
      rw [if_pos rfl, if_neg (by rw [hT]; omega), hT]
      refine ⟨rfl, ?_⟩
      unfold machPo
      dsimp only
      rw [if_neg (by decide), Int.toNat_natCast]
      exact G.pop_load hu hp rfl most deep
  · have hxs : Po.xs hd xs ⟨most, 1, deep, old, l, false⟩ = xs := by unfold Po.xs; rw [if_neg (by simp)]
    rw [hxs]
    have hne : l ≠ [] := K.ne (by simp)
    have hall := K.lt
    dsimp only at hall
    have hla : Po.last ⟨most, 1, deep, old, l, false⟩ = l.getLast hne := by unfold Po.last; rw [Stk.getLast_getD hne]
    have hin := hall _ (List.getLast_mem hne)
    have hlx := G.links _ hin
    have e' : m u = .pop most 1 deep old l := by rw [e]; unfold machPo; dsimp only; rw [if_neg (by decide)]
    have hB : belowN n (xs.getD (ln + l.getLast hne) 0) = lkX ln xs (l.getLast hne) - 1 := by
      show belowN n (lkX ln xs (l.getLast hne)) = _
      unfold belowN; rw [if_neg (by omega)]
    refine .inl ?_
    unfold Po.go
    dsimp only
    rw [if_neg (by decide), if_pos rfl, hla, hB]
    split
    · refine ⟨rfl, ?_⟩
      unfold machPo
      dsimp only
      rw [if_neg (by decide)]
      exact G.pop_last hu e' hne
    · rename_i hc
      refine ⟨rfl, ?_⟩
      unfold machPo
      dsimp only
      rw [if_neg (by decide)]
      obtain ⟨d, hd'⟩ : ∃ d : Nat, lkX ln xs (l.getLast hne) = d + 1 := ⟨(lkX ln xs (l.getLast hne) - 1).toNat, by
        have : ¬ lkX ln xs (l.getLast hne) - 1 = -1 := fun h => hc (.inl h)
        omega⟩
      have ed : (lkX ln xs (l.getLast hne) - 1).toNat = d := by omega
      rw [ed]
      exact G.pop_more hu e' hne hd' _
  · have e' : m u = .pop most 2 deep old l := by rw [e]; unfold machPo; dsimp only; rw [if_neg (by decide)]
    have hd2 := K.d2 rfl
    dsimp only at hd2
    by_cases ho : xs.getD hd 0 = old
    · refine .inr ?_
      have hxs : Po.xs hd xs ⟨most, 2, deep, old, l, false⟩ = xs.set hd (nextW old deep) := by unfold Po.xs; rw [if_pos ⟨rfl, ho⟩]
      unfold Po.go
      dsimp only
      rw [if_neg (by decide), if_neg (by decide), hxs]
      refine ⟨by simp only [ho]; simp, ?_⟩
      rw [← ho] at e'
      obtain ⟨r, hS, G'⟩ := G.pop_yes hu e'
      refine ⟨t + 1, r, Nat.le_refl _, ?_⟩
      unfold GX
      rw [hdX_hd h2, lkX_hd h1, ← ho, nextX G.tag ht hd2.1 (by omega)]
      exact G'
    · refine .inl ?_
      have hxs : Po.xs hd xs ⟨most, 2, deep, old, l, false⟩ = xs := by unfold Po.xs; rw [if_neg (fun h => ho h.2)]
      unfold Po.go
      dsimp only
      rw [if_neg (by decide), if_neg (by decide), hxs]
      refine ⟨decide_eq_false ho, ?_⟩
      unfold machPo
      dsimp only
      rw [if_pos rfl]
      exact G.pop_new hu hp most deep old
/-- What one access of a Push leaves. -/
theorem pu_gx (G : GX n hd ln xs t S m has) (hu : u < 4) (e : m u = machPu U) (K : U.Ok n) (hf : U.fin = false) (h1 : hd < ln) (h2 : ln + n ≤ xs.length) (hn4 : n ≤ 4096) (ht : t < 4294967295) :
    ((U.go hd xs).fin = false ∧ GX n hd ln (U.xs n hd ln xs) t S (Stk.upd m u (machPu (U.go hd xs))) has) ∨
    ((U.go hd xs).fin = true ∧ GX n hd ln (U.xs n hd ln xs) (t + 1) (U.l ++ S) (Stk.upd m u .idle) has) := by
  obtain ⟨l, i, old, fin⟩ := U
  dsimp only at hf
  subst hf
  have e' : m u = .push l i old := e
  have hne : l ≠ [] := K.ne
  have hall := K.lt
  have htop := K.top
  dsimp only at hall htop
  have lp := List.length_pos_iff.2 hne
  unfold Pu.go Pu.xs
  dsimp only
  by_cases c1 : i + 1 < l.length
  · rw [if_pos c1, if_pos c1]
    refine .inl ⟨rfl, ?_⟩
    have hy := hall _ (Stk.getD_mem (show i < l.length by omega))
    unfold GX
    rw [hdX_ln h1, lkX_ln (by omega)]
    exact G.push_store hu e' c1
  · rw [if_neg c1, if_neg c1]
    by_cases c2 : i + 1 = l.length
    · rw [if_pos c2, if_pos c2]
      exact .inl ⟨rfl, G.push_load hu e' c2⟩
    · rw [if_neg c2, if_neg c2]
      by_cases c3 : i = l.length
      · rw [if_pos c3, if_pos c3]
        refine .inl ⟨rfl, ?_⟩
        have hy := hall _ (Stk.getD_mem (show l.length - 1 < l.length by omega))
        have k := G.ok u hu
        rw [e'] at k
        obtain ⟨_, _, _, k4, _⟩ := k
        obtain ⟨_, k6, k7⟩ := k4 (by omega)
        have hT : topN n old + 1 = old % 4294967296 := by unfold topN; rw [if_neg (by omega)]; omega
        unfold GX
        rw [hdX_ln h1, lkX_ln (by omega), hT]
        have := G.push_link hu e' c3
        rw [c3] at this ⊢
        exact this
      · rw [if_neg c3, if_neg c3]
        have c4 : i = l.length + 1 := by omega
        by_cases ho : xs.getD hd 0 = old
        · rw [if_pos ho]
          refine .inr ⟨decide_eq_true ho, ?_⟩
          have hy := hall _ (Stk.getD_mem lp)
          rw [← ho] at e'
          have := G.push_yes hu e' c4
          unfold GX
          rw [hdX_hd (by omega), lkX_hd h1, ← ho, nextX G.tag ht (by omega) (by omega)]
          exact this
        · rw [if_neg ho]
          exact .inl ⟨decide_eq_false ho, G.push_no hu e' c4⟩
/-- What the workers have is another order of the same. -/
theorem Stk.GI.perm {hd' : Int} {lk : Nat → Int} (G : Stk.GI n hd' lk t S m has) {has' : Nat → List Nat} (h : ∀ v, v < 4 → ∀ x, (has' v).count x = (has v).count x) : Stk.GI n hd' lk t S m has' := by
  refine ⟨G.head, G.chain, G.small, G.links, fun x => ?_, G.ok⟩
  have c := G.cnt x
  unfold Stk.sum4 at c ⊢
  dsimp only at c ⊢
  rw [h 0 (by decide), h 1 (by decide), h 2 (by decide), h 3 (by decide)]
  exact c
/-- A cell that is neither the head nor a link is turned. -/
theorem gx_far (G : GX n hd ln xs t S m has) {a : Nat} {v : Int} (h1 : a ≠ hd) (h2 : a < ln) : GX n hd ln (xs.set a v) t S m has := by
  have e1 : (xs.set a v).getD hd 0 = xs.getD hd 0 := by rw [getD_set, if_neg (fun h => h1 h.1)]
  unfold GX
  rw [e1, lkX_hd h2]
  exact G
/-- What one of them has is distinct items, all below n. -/
theorem gx_good (G : GX n hd ln xs t S m has) (hu : u < 4) : (∀ x ∈ has u, x < n) ∧ (has u).Nodup ∧ (has u).length ≤ n := by
  have key : ∀ x, (has u).count x ≤ if x < n then 1 else 0 := by
    intro x
    have c := G.cnt x
    have s := Stk.sum4_ge (fun w => (has w).count x + (Stk.puts (m w)).count x) hu
    split at c <;> rename_i hx
    · rw [if_pos hx]; omega
    · rw [if_neg hx]; omega
  have ha : ∀ x ∈ has u, x < n := by
    intro x hx
    have p := List.count_pos_iff.2 hx
    have k := key x
    by_cases h : x < n
    · exact h
    · rw [if_neg h] at k; omega
  have hd : (has u).Nodup := by
    rw [List.nodup_iff_count]
    intro x
    have k := key x
    split at k <;> omega
  refine ⟨ha, hd, ?_⟩
  have hl := (G.once rfl).1
  simp only [List.length_append] at hl
  rcases (show u = 0 ∨ u = 1 ∨ u = 2 ∨ u = 3 by omega) with rfl | rfl | rfl | rfl <;> omega
end
end Go.Proofs.YtkopplnjomkleaaGreat

/-
  A worker of the supply as plain data (Wo): its stash, its limbo, the chunks in its hand, its machine; what each call and each access leaves; all workers over one pool (SInv): each chunk is in one place. No program is named here.
-/
namespace Go.Proofs.YtkopplnjomkleaaGreat
open Go.RowKit
open W64
set_option maxRecDepth 100000
/-- A worker's machine: a Take ahead of its Load, a Take at its Pop (the epoch it has seen), a Give. -/
inductive Mc
  | idle
  | look
  | pop (seen : Int) (P : Po)
  | give (U : Pu)
structure Wo where
  st : List Nat
  lb : Lb
  hand : List Nat
  tag : Int
  mc : Mc
def Wo.zero : Wo := ⟨[], Lb.zero, [], 0, .idle⟩
/-- Numbers of a list that came as integers. -/
def toN (xs : List Int) : List Nat := xs.map Int.toNat
def Lb.items (S : Lb) : List Nat := toN (S.L 0) ++ toN (S.L 1) ++ toN (S.L 2)
def Wo.has (W : Wo) : List Nat := W.st ++ W.lb.items ++ W.hand
def Mc.mach : Mc → Stk.Mach
  | .idle => .idle
  | .look => .idle
  | .pop _ P => machPo P
  | .give U => machPu U
def Po.new (batch : Nat) : Po := ⟨batch, 0, 0, 0, [], false⟩
/-- What a Take is behind a look into the stash: done with its last one, else as mc says. -/
def Wo.kept (W : Wo) (mc : Mc) : Wo := match W.st.getLast? with
  | some a => ⟨W.st.dropLast, W.lb, W.hand ++ [a], W.tag, .idle⟩
  | none => ⟨W.st, W.lb, W.hand, W.tag, mc⟩
/-- A Take is made. -/
def Wo.take (W : Wo) (batch : Nat) : Wo := W.kept (if W.lb.size = 0 then .pop (-1) (Po.new batch) else .look)
/-- Ready. -/
def Wo.ready (W : Wo) (now : Int) : Wo := ⟨W.st ++ toN (W.lb.outs now), W.lb.rest now, W.hand, W.tag, W.mc⟩
/-- The Load of the epoch. -/
def Wo.look (W : Wo) (batch : Nat) (now : Int) : Wo := (W.ready now).kept (.pop now (Po.new batch))
/-- An access of its Pop, that leaves it so. -/
def Wo.popped (W : Wo) (seen : Int) (P : Po) : Wo :=
  if P.fin = true then (match P.l with
    | [] => ⟨W.st, W.lb, W.hand, W.tag, .idle⟩
    | x :: r => ⟨W.st ++ r, W.lb, W.hand ++ [x], W.tag, .idle⟩)
  else ⟨W.st, W.lb, W.hand, W.tag, .pop seen P⟩
/-- A Give of the first K of the stash is made. -/
def Wo.give (W : Wo) (K : Nat) : Wo := ⟨W.st.drop K, W.lb, W.hand, W.tag, if W.st.take K = [] then .idle else .give ⟨W.st.take K, 0, 0, false⟩⟩
def Wo.gave (W : Wo) (V : Pu) : Wo := ⟨W.st, W.lb, W.hand, W.tag, if V.fin = true then .idle else .give V⟩
def Wo.put (W : Wo) : Wo := ⟨W.st ++ W.hand, W.lb, [], W.tag, W.mc⟩
/-- What is in its hand is retired with a tag, of the bucket k. -/
def Wo.retire (W : Wo) (k : Nat) (tag : Int) : Wo := ⟨W.st ++ toN (W.lb.taken k tag), W.lb.retire k tag (I W.hand), [], tag, W.mc⟩
section
variable {W : Wo} {S R : Lb} {xs ys : List Int} {k : Nat} {tag now : Int}
theorem toN_app (xs ys : List Int) : toN (xs ++ ys) = toN xs ++ toN ys := by simp [toN]
theorem toN_I : ∀ l : List Nat, toN (I l) = l
  | [] => rfl
  | x :: r => by
    show ((x : Int).toNat :: toN (I r)) = x :: r
    rw [toN_I r, Int.toNat_natCast]
theorem toN_nil : toN [] = [] := rfl
theorem items_clear (hk : k < 3) (x : Nat) : (S.clear k).items.count x + (toN (S.L k)).count x = S.items.count x := by
  have : k = 0 ∨ k = 1 ∨ k = 2 := by omega
  unfold Lb.items Lb.clear put
  rcases this with rfl | rfl | rfl <;> simp [toN_nil, List.count_append] <;> omega
theorem items_add (hk : k < 3) (x : Nat) : (S.add k tag xs).items.count x = S.items.count x + (toN xs).count x := by
  have : k = 0 ∨ k = 1 ∨ k = 2 := by omega
  unfold Lb.items Lb.add put
  rcases this with rfl | rfl | rfl <;> simp [toN_app, List.count_append] <;> omega
theorem items_retire (hk : k < 3) (x : Nat) : (S.retire k tag xs).items.count x + (toN (S.taken k tag)).count x = S.items.count x + (toN xs).count x := by
  unfold Lb.retire Lb.taken
  split
  · rw [items_add hk]; have := items_clear (S := S) hk x; omega
  · rw [items_add hk, toN_nil]; simp
theorem items_rest (x : Nat) : (S.rest now).items.count x + (toN (S.outs now)).count x = S.items.count x := by
  have h := (Lb.walk (now := now) (P := fun R o => R.items.count x + (toN o).count x = S.items.count x) (fun R o k h hk => by
    have := items_clear (S := R) (Lb.opn_some hk).2.1 x
    rw [toN_app, List.count_append]; omega) S.cnt S [] rfl (by simp [toN_nil])).1
  simpa using h
theorem kept_count (mc : Mc) (x : Nat) : (W.kept mc).has.count x = W.has.count x := by
  unfold Wo.kept
  split
  · rename_i a ha
    have hst : W.st = W.st.dropLast ++ [a] := by
      obtain ⟨ys, h⟩ := List.getLast?_eq_some_iff.1 ha
      rw [h]; simp
    unfold Wo.has
    dsimp only
    conv => rhs; rw [hst]
    simp only [List.count_append]
    omega
  · rfl
theorem ready_count (x : Nat) : (W.ready now).has.count x = W.has.count x := by
  unfold Wo.ready Wo.has
  dsimp only
  have := items_rest (S := W.lb) (now := now) x
  simp only [List.count_append]
  omega
theorem put_count (x : Nat) : W.put.has.count x = W.has.count x := by
  unfold Wo.put Wo.has
  dsimp only
  simp only [List.count_append, List.count_nil]
  omega
theorem retire_count (hk : k < 3) (x : Nat) : (W.retire k tag).has.count x = W.has.count x := by
  unfold Wo.retire Wo.has
  dsimp only
  have := items_retire (S := W.lb) (tag := tag) (xs := I W.hand) hk x
  rw [toN_I] at this
  simp only [List.count_append, List.count_nil]
  omega
end
/-- What holds of a worker alone. -/
structure Wo.Ok (n : Nat) (W : Wo) : Prop where
  lb : W.lb.Ok
  pos : ∀ k, k < 3 → ∀ x ∈ W.lb.L k, 0 ≤ x
  tag : W.lb.last ≤ W.tag ∧ 0 ≤ W.tag
  pop : ∀ s P, W.mc = .pop s P → P.Ok n ∧ P.fin = false
  give : ∀ V, W.mc = .give V → V.Ok n ∧ V.fin = false
def has3 (W : Nat → Wo) (u : Nat) : List Nat := if u < 3 then (W u).has else []
def mach3 (W : Nat → Wo) (u : Nat) : Stk.Mach := if u < 3 then (W u).mc.mach else .idle
/-- Three workers over a pool whose head is cell 0 and whose links begin at ln. -/
structure SInv (n ln : Nat) (xs : List Int) (t : Nat) (S : List Nat) (W : Nat → Wo) : Prop where
  gi : GX n 0 ln xs t S (mach3 W) (has3 W)
  ok : ∀ u, u < 3 → (W u).Ok n
section
variable {n ln t u batch : Nat} {xs : List Int} {S : List Nat} {W : Nat → Wo} {V : Wo} {P : Po} {Q : Pu} {seen now tag : Int}
theorem has3_put (hu : u < 3) (V : Wo) : has3 (put W u V) = Stk.upd (has3 W) u V.has := by
  funext j
  unfold has3 Stk.upd put
  by_cases e : j = u
  · subst e; rw [if_pos hu, if_pos rfl, if_pos rfl]
  · rw [if_neg e, if_neg e]
theorem mach3_put (hu : u < 3) (V : Wo) : mach3 (put W u V) = Stk.upd (mach3 W) u V.mc.mach := by
  funext j
  unfold mach3 Stk.upd put
  by_cases e : j = u
  · subst e; rw [if_pos hu, if_pos rfl, if_pos rfl]
  · rw [if_neg e, if_neg e]
theorem upd_same_eq {α : Type} (f : Nat → α) {v : α} (h : v = f u) : Stk.upd f u v = f := by rw [h, Stk.upd_id]
theorem has3_at (hu : u < 3) : has3 W u = (W u).has := by unfold has3; rw [if_pos hu]
theorem mach3_at (hu : u < 3) : mach3 W u = (W u).mc.mach := by unfold mach3; rw [if_pos hu]
/-- One of them has the same in another order, and a machine that holds nothing, or begins. -/
theorem SInv.calm (I : SInv n ln xs t S W) (hu : u < 3) (hc : ∀ x, V.has.count x = (W u).has.count x) (ok : V.Ok n) (hp : Stk.puts (W u).mc.mach = []) (hm : V.mc.mach = .idle ∨ ∃ m d o, V.mc.mach = .pop m 0 d o []) : SInv n ln xs t S (put W u V) := by
  have hp' : Stk.puts (mach3 W u) = [] := by rw [mach3_at hu]; exact hp
  refine ⟨?_, fun v hv => ?_⟩
  · have G : GX n 0 ln xs t S (Stk.upd (mach3 W) u V.mc.mach) (has3 W) := by
      rcases hm with h | ⟨m, d, o, h⟩
      · rw [h]; exact I.gi.pop_over (by omega) hp'
      · rw [h]; exact I.gi.pop_new (by omega) hp' m d o
    unfold GX at G ⊢
    rw [has3_put hu, mach3_put hu]
    refine G.perm fun v hv x => ?_
    by_cases e : v = u
    · subst e; rw [Stk.upd_same, has3_at hu]; exact hc x
    · rw [Stk.upd_ne _ _ e]
  · unfold put
    split
    · exact ok
    · exact I.ok v hv
theorem SInv.far (I : SInv n ln xs t S W) {a : Nat} {v : Int} (h1 : a ≠ 0) (h2 : a < ln) : SInv n ln (xs.set a v) t S W := ⟨gx_far I.gi h1 h2, I.ok⟩
end
end Go.Proofs.YtkopplnjomkleaaGreat

/-
  The reference's Take: its Pop begins; a look into the stash (kept); it is made.
-/
namespace Go.Proofs.YtkopplnjomkleaaGreat
open Go.RowKit
open W64
set_option maxRecDepth 100000
set_option linter.unusedSimpArgs false
def rtkRow (b : Nat) (a ch sn : Int) (pv : Value) (dn : Bool) : Array Value := #[.pointer (some ⟨b, 0, none⟩), .int .i64 a, .int .i64 ch, .int .i64 sn, pv, .bool dn]
section
variable {w w1 w' : World} {bt b k qs ql p g qp qsr qe lk n : Nat} {F : List Nat} {m a ch sn : Int} {st : List Int} {R : Lb} {c : Cf} {xs : List Int} {cnt : Int} {pv : Value} {dn : Bool}
/-- The cells that a Take reads ahead of its Pop. -/
theorem tk_cells {a ch sn : Int} {pv : Value} {dn : Bool} (T : Whole w bt 141 (rtkRow b a ch sn pv dn)) (cb : w.cell? ⟨b, 0, none⟩ = some (.pointer (some ⟨k, 0, none⟩))) (ck : w.cell? ⟨k, 7, none⟩ = some (.pointer (some ⟨qp, 0, none⟩))) (cc : w.cell? ⟨k, 5, none⟩ = some (.int .i64 c.ba)) (u : Up w w') :
    w'.cell? ⟨bt, 0, none⟩ = some (.pointer (some ⟨b, 0, none⟩)) ∧ w'.cell? ⟨b, 0, none⟩ = some (.pointer (some ⟨k, 0, none⟩)) ∧ w'.cell? ⟨k, 7, none⟩ = some (.pointer (some ⟨qp, 0, none⟩)) ∧ w'.cell? ⟨k, 5, none⟩ = some (.int .i64 c.ba) :=
  ⟨u.kept (T.cell rfl), u.kept cb, u.kept ck, u.kept cc⟩
theorem tk_set {i : Nat} {v : Value} (n1 : bt ≠ b) (n2 : bt ≠ k) (hi : i ≠ 0) (h : w.cell? ⟨bt, 0, none⟩ = some (.pointer (some ⟨b, 0, none⟩)) ∧ w.cell? ⟨b, 0, none⟩ = some (.pointer (some ⟨k, 0, none⟩)) ∧ w.cell? ⟨k, 7, none⟩ = some (.pointer (some ⟨qp, 0, none⟩)) ∧ w.cell? ⟨k, 5, none⟩ = some (.int .i64 c.ba)) : (w.setCell ⟨bt, i, none⟩ v).cell? ⟨bt, 0, none⟩ = some (.pointer (some ⟨b, 0, none⟩)) ∧ (w.setCell ⟨bt, i, none⟩ v).cell? ⟨b, 0, none⟩ = some (.pointer (some ⟨k, 0, none⟩)) ∧ (w.setCell ⟨bt, i, none⟩ v).cell? ⟨k, 7, none⟩ = some (.pointer (some ⟨qp, 0, none⟩)) ∧ (w.setCell ⟨bt, i, none⟩ v).cell? ⟨k, 5, none⟩ = some (.int .i64 c.ba) :=
  ⟨kept_set (off_ne hi) h.1, kept_set (ad_ne n1) h.2.1, kept_set (ad_ne n2) h.2.2.1, kept_set (ad_ne n2) h.2.2.2⟩
set_option maxHeartbeats 8000000 in
/-- The Pop comes next. -/
theorem rtkPop (T : Whole w bt 141 (rtkRow b a ch sn pv dn)) (cb : w.cell? ⟨b, 0, none⟩ = some (.pointer (some ⟨k, 0, none⟩))) (ck : w.cell? ⟨k, 7, none⟩ = some (.pointer (some ⟨qp, 0, none⟩))) (cc : w.cell? ⟨k, 5, none⟩ = some (.int .i64 c.ba)) (n1 : bt ≠ b) (n2 : bt ≠ k) {most : Nat} (hm : min (max c.ba 1) 8 = most) (n : Nat) :
    Calls Tryz.prog 87 #[.pointer (some ⟨bt, 0, none⟩)] w fun e w' => e = .returned (.tuple #[]) ∧ ∃ bp, Whole w' bt 141 (rtkRow b 1 ch sn (.pointer (some ⟨bp, 0, none⟩)) dn) ∧ RPoM w' bp qp n (.slice none 0 0) ⟨most, 0, 0, 0, [], false⟩ ∧ w.heap.size ≤ bp ∧ Else [bt] w w' := by
  have HT := Lib.hid T
  have HC0 := Lib.hid (tk_cells T cb ck cc (up_drew w))
  have HP := Lib.hid (fun w0 => rpoNew (w := w0) (q := qp) c.ba hm n)
  have HNE := Lib.hid (And.intro n1 n2)
  clear T cb ck cc hm n1 n2
  go_enter Tryz.func87, Tryz.ntmps87
  go_upto_region 0 with fail
  have t1 := (HT.out.up (up_drew w)).cell (i := 1) (v := .int .i64 a) rfl
  have t4 := (HT.out.up (up_drew w)).cell (i := 4) (v := pv) rfl
  go_region_held3 (fun w' => w'.cell? ⟨bt, 0, none⟩ = some (.pointer (some ⟨b, 0, none⟩)) ∧ w'.cell? ⟨b, 0, none⟩ = some (.pointer (some ⟨k, 0, none⟩)) ∧ w'.cell? ⟨k, 7, none⟩ = some (.pointer (some ⟨qp, 0, none⟩)) ∧ w'.cell? ⟨k, 5, none⟩ = some (.int .i64 c.ba))
    ((first | with_reducible exact HC2.out | with_reducible exact HC0.out | with_reducible exact tk_set HNE.out.1 HNE.out.2 (by decide) HC2.out | with_reducible exact tk_set HNE.out.1 HNE.out.2 (by decide) (tk_set HNE.out.1 HNE.out.2 (by decide) HC2.out)))
    (first
      | (go_at_call 123; (with_reducible refine (HP.out _).mono ?_); rintro e w2 ⟨rfl, M2, U2⟩; have HM2 := Lib.hid M2; have HU2 := Lib.hid ((up_drew w).trans U2); have HT2 := Lib.hid (HT.out.up HU2.out); have HC2 := Lib.hid (show w2.cell? ⟨bt, 0, none⟩ = some (.pointer (some ⟨b, 0, none⟩)) ∧ w2.cell? ⟨b, 0, none⟩ = some (.pointer (some ⟨k, 0, none⟩)) ∧ w2.cell? ⟨k, 7, none⟩ = some (.pointer (some ⟨qp, 0, none⟩)) ∧ w2.cell? ⟨k, 5, none⟩ = some (.int .i64 c.ba) from ⟨U2.kept HC0.out.1, U2.kept HC0.out.2.1, U2.kept HC0.out.2.2.1, U2.kept HC0.out.2.2.2⟩); have f1 := HT2.out.frozen 1; have f4 := HT2.out.frozen 4; have s1 := HT2.out.cell (i := 1) (v := .int .i64 a) rfl; have s4 := HT2.out.cell (i := 4) (v := pv) rfl; clear M2 U2))
  have hlt := HT.out.lt
  go_end0
  have u1 : Else [bt] w2 (w2.setCell ⟨bt, 1, none⟩ (.int .i64 1)) := (Else.refl [bt] w2).set (.inl (by simp)) _
  have u2 := u1.set (p := ⟨bt, 4, none⟩) (.inl (by simp)) (.pointer (some ⟨w.drew.heap.size, 0, none⟩))
  have hsz : w.drew.heap.size = w.heap.size := rfl
  exact ⟨rfl, _, (HT2.out.set 1 (.int .i64 1)).set 4 (.pointer (some ⟨w.drew.heap.size, 0, none⟩)), HM2.out.else u2 (by simp; omega) (fun x hx => by simp [Value.ownBlock]), Nat.le_refl _, (Else.of_up HU2.out).trans u2⟩
/-- A look into the stash: there is none. -/
theorem rsuTakeN (E : RSu w b k qs ql F m [] R) : Calls Tryz.prog 122 #[.pointer (some ⟨qs, 0, none⟩)] w fun e w' => e = .returned (.tuple #[.int .i64 0, .bool false]) ∧ w = w' := by
  obtain ⟨Fs, Fl, E⟩ := E
  exact rstake_none E.sta
theorem rsuTakeS {y : Int} (E : RSu w b k qs ql F m (st ++ [y]) R) (hl : st.length ≤ 8000) : Calls Tryz.prog 122 #[.pointer (some ⟨qs, 0, none⟩)] w fun e w' => e = .returned (.tuple #[.int .i64 y, .bool true]) ∧ Turned w w' F fun F' => RSu w' b k qs ql F' m st R := by
  obtain ⟨Fs, Fl, E⟩ := E
  exact (rstake_some E.sta hl).mono fun e w' ⟨he, G⟩ => ⟨he, E.sgave G⟩
set_option maxHeartbeats 2000000 in
theorem rtkKept_no (E : RSu w b k qs ql F m [] R) (T : Whole w bt 141 (rtkRow b a ch sn pv dn)) :
    Calls Tryz.prog 86 #[.pointer (some ⟨bt, 0, none⟩)] w fun e w' => e = .returned (.tuple #[]) ∧ w = w' := by
  obtain ⟨c0, c1, c2⟩ := E.cells
  have t0 := T.cell (i := 0) (v := .pointer (some ⟨b, 0, none⟩)) rfl
  have HS := Lib.hid (rsuTakeN E)
  clear E T
  go_enter Tryz.func86, Tryz.ntmps86
  go_wp2_with (go_at_call 122; (with_reducible refine HS.out.mono ?_); rintro e w1 ⟨rfl, rfl⟩)
  go_end0
  exact ⟨rfl, rfl⟩
set_option maxHeartbeats 2000000 in
theorem rtkKept_yes {y : Int} (E : RSu w b k qs ql F m (st ++ [y]) R) (hl : st.length ≤ 8000) (T : Whole w bt 141 (rtkRow b a ch sn pv dn)) (hb : bt ∉ F) :
    Calls Tryz.prog 86 #[.pointer (some ⟨bt, 0, none⟩)] w fun e w' => e = .returned (.tuple #[]) ∧ Whole w' bt 141 (rtkRow b a y sn pv true) ∧ Turned w w' (bt :: F) fun F' => ∃ F'', F' = bt :: F'' ∧ RSu w' b k qs ql F'' m st R ∧ bt ∉ F'' := by
  obtain ⟨c0, c1, c2⟩ := E.cells
  have t0 := T.cell (i := 0) (v := .pointer (some ⟨b, 0, none⟩)) rfl
  have HS := Lib.hid (rsuTakeS E hl)
  have HT := Lib.hid T
  have HB := Lib.hid hb
  clear E T hl hb
  go_enter Tryz.func86, Tryz.ntmps86
  go_upto_region 2 with (go_at_call 122; (with_reducible refine HS.out.mono ?_); rintro e w1 ⟨rfl, F1, E1, N1, X1⟩; have HE1 := Lib.hid E1; have HN1 := Lib.hid (And.intro N1 X1); clear E1 N1 X1)
  clear c0 c1 c2 t0
  have HT1 := Lib.hid (HN1.out.2.whole HT.out HB.out)
  have s2 := HT1.out.cell (i := 2) (v := .int .i64 ch) rfl
  have s5 := HT1.out.cell (i := 5) (v := .bool dn) rfl
  have f2 := HT1.out.frozen 2
  have f5 := HT1.out.frozen 5
  go_wp2_with fail
  go_end0
  have hlt := HT.out.lt
  have hn : bt ∉ F1 := fun h => by
    rcases HN1.out.1 bt h with h | h
    · exact HB.out h
    · omega
  have u1 : Else [bt] w1 (w1.setCell ⟨bt, 2, none⟩ (.int .i64 y)) := (Else.refl [bt] w1).set (.inl (by simp)) _
  have u2 := u1.set (p := ⟨bt, 5, none⟩) (.inl (by simp)) (.bool true)
  refine ⟨rfl, (HT1.out.set 2 (.int .i64 y)).set 5 (.bool true), bt :: F1, ⟨F1, rfl, HE1.out.else u2 (fun x hx => by simp; rintro rfl; exact hn hx), hn⟩, ?_, ?_⟩
  · intro x hx
    rcases List.mem_cons.1 hx with rfl | hx
    · exact .inl (by simp)
    · exact (HN1.out.1 x hx).imp (fun h => by simp [h]) id
  · exact (HN1.out.2.more (fun x hx => by simp [hx])).trans (u2.more (fun x hx => by simp at hx; simp [hx]))
/-- A Take lies at bt: as its machine mc says; its chunk (-1: none yet), the epoch it has seen; its own blocks O. -/
def RTkM (w : World) (bt b qp n : Nat) (mc : Mc) (ch sn : Int) (O : List Nat) : Prop := match mc with
  | .idle => bt ∈ O ∧ (∀ x ∈ O, x < w.heap.size) ∧ ∃ a pv, Whole w bt 141 (rtkRow b a ch sn pv true)
  | .look => O = [bt] ∧ ch = -1 ∧ sn = -1 ∧ Whole w bt 141 (rtkRow b 0 (-1) (-1) (.pointer none) false)
  | .pop s P => ch = -1 ∧ sn = s ∧ ∃ bp v, O = bt :: bp :: blk v ∧ Whole w bt 141 (rtkRow b 1 (-1) s (.pointer (some ⟨bp, 0, none⟩)) false) ∧ RPoM w bp qp n v P ∧ bp ≠ bt ∧ v.ownBlock ≠ some bt ∧ v.ownBlock ≠ some bp
  | .give _ => False
end
end Go.Proofs.YtkopplnjomkleaaGreat

/-
  The reference's Take: it is made.
-/
namespace Go.Proofs.YtkopplnjomkleaaGreat
open Go.RowKit
open W64
set_option maxRecDepth 100000
set_option linter.unusedSimpArgs false
/-- What is behind the making of a Take. -/
def TkMade (w w' : World) (bt b k qs ql qp n : Nat) (F : List Nat) (m : Int) (st : List Int) (R : Lb) (mc : Mc) (ch sn : Int) : Prop :=
  ∃ O, RTkM w' bt b qp n mc ch sn O ∧ (∀ x ∈ O, w.heap.size ≤ x) ∧ Turned w w' F fun F' => RSu w' b k qs ql F' m st R ∧ ∀ x ∈ O, x ∉ F'
section
variable {w w1 w' : World} {bt b k qs ql p g qp qsr qe lk n : Nat} {F : List Nat} {m a ch sn : Int} {st : List Int} {R : Lb} {c : Cf} {xs : List Int} {cnt : Int} {pv : Value} {dn : Bool}
theorem rsuLen (E : RSu w b k qs ql F m st R) (hs : R.size ≤ 8000) {d : Nat} (hd : R.size = d) : Calls Tryz.prog 94 #[.pointer (some ⟨ql, 0, none⟩)] w fun e w' => e = .returned (.int .i64 (d : Nat)) ∧ Up w w' := by
  obtain ⟨Fs, Fl, E⟩ := E
  exact hd ▸ rllen_any E.lim (by omega)
theorem RSu.lt (E : RSu w b k qs ql F m st R) : ∀ x ∈ F, x < w.heap.size := by obtain ⟨Fs, Fl, E⟩ := E; exact E.lt
set_option maxHeartbeats 4000000 in
/-- The stash has some: it is done as it is made. -/
theorem rtkTake_yes {y : Int} (E : RSu w b k qs ql F m (st ++ [y]) R) (hl : st.length ≤ 8000) :
    Calls Tryz.prog 41 #[.pointer (some ⟨b, 0, none⟩)] w fun e w' => ∃ bt, e = .returned (.pointer (some ⟨bt, 0, none⟩)) ∧ TkMade w w' bt b k qs ql qp n F m st R .idle y (-1) := by
  have hF := E.lt
  have HE := Lib.hid (E.up (Up.alloc w (.cells (rtkRow b 0 (-1) (-1) (.pointer none) false) 141)))
  have HT := Lib.hid (Whole.new w 141 (rtkRow b 0 (-1) (-1) (.pointer none) false))
  have HL := Lib.hid hl
  have HU := Lib.hid (Up.alloc w (.cells (rtkRow b 0 (-1) (-1) (.pointer none) false) 141))
  have HB := Lib.hid (show w.heap.size ∉ F from fun h => by have := hF _ h; omega)
  have HF := Lib.hid hF
  unfold rtkRow at HE HT HU
  obtain ⟨bt, hbt⟩ : ∃ bt, w.heap.size = bt := ⟨_, rfl⟩
  rw [hbt] at HT HB
  have HBT := Lib.hid hbt
  clear E hl hF
  go_enter Tryz.func41, Tryz.ntmps41
  go_upto_region 2 with fail
  clear hbt
  generalize w.alloc (.cells #[.pointer (some ⟨b, 0, none⟩), .int .i64 0, .int .i64 (-1), .int .i64 (-1), .pointer none, .bool false] 141) = w0 at *
  go_upto_region 3 with (go_at_call 86; (with_reducible refine (rtkKept_yes HE.out HL.out HT.out HB.out).mono ?_); rintro e w1 ⟨rfl, T1, U1⟩; have HT1 := Lib.hid T1; have HU1 := Lib.hid U1; clear T1 U1)
  have t5 := HT1.out.cell (i := 5) (v := .bool true) rfl
  go_wp2_with fail
  go_ret
  obtain ⟨F', ⟨F'', rfl, E2, nb⟩, N, X⟩ := HU1.out
  have hsz := HU.out.size
  have hb := HBT.out
  refine ⟨bt, rfl, [bt], ⟨by simp, fun x hx => by simp at hx; subst hx; exact HT1.out.lt, _, _, HT1.out⟩, fun x hx => by simp at hx; omega, F'', ⟨E2, fun x hx => by simp at hx; subst hx; exact nb⟩, fun x hx => ?_, ?_⟩
  · rcases N x (by simp [hx]) with h | h
    · rcases List.mem_cons.1 h with rfl | h
      · exact absurd hx nb
      · exact .inl h
    · exact .inr (by omega)
  · exact Else.into (Else.of_up HU.out) X (fun x hx => by
      rcases List.mem_cons.1 hx with rfl | hx
      · exact .inr (by omega)
      · exact .inl hx)
set_option maxHeartbeats 4000000 in
/-- Nothing is kept: the Pop comes next. -/
theorem rtkTake_pop (E : RSu w b k qs ql F m [] R) (hR : R.size = 0) (P : RP w k p g qp qsr qe c lk n xs cnt) {most : Nat} (hm : min (max c.ba 1) 8 = most) :
    Calls Tryz.prog 41 #[.pointer (some ⟨b, 0, none⟩)] w fun e w' => ∃ bt, e = .returned (.pointer (some ⟨bt, 0, none⟩)) ∧ TkMade w w' bt b k qs ql qp n F m [] R (.pop (-1) (Po.new most)) (-1) (-1) := by
  have hF := E.lt
  have HK := Lib.hid (show b < w.heap.size ∧ k < w.heap.size from ⟨by obtain ⟨Fs, Fl, E⟩ := E; exact E.obj.lt, P.obj.lt⟩)
  have HE := Lib.hid (E.up (Up.alloc w (.cells (rtkRow b 0 (-1) (-1) (.pointer none) false) 141)))
  have HT := Lib.hid (Whole.new w 141 (rtkRow b 0 (-1) (-1) (.pointer none) false))
  have HP := Lib.hid (P.up (Up.alloc w (.cells (rtkRow b 0 (-1) (-1) (.pointer none) false) 141)))
  have HR := Lib.hid hR
  have HM := Lib.hid hm
  have HU := Lib.hid (Up.alloc w (.cells (rtkRow b 0 (-1) (-1) (.pointer none) false) 141))
  have HF := Lib.hid hF
  unfold rtkRow at HE HT HU HP
  obtain ⟨bt, hbt⟩ : ∃ bt, w.heap.size = bt := ⟨_, rfl⟩
  rw [hbt] at HT
  have HBT := Lib.hid hbt
  have HNE := Lib.hid (show bt ≠ b ∧ bt ≠ k ∧ bt ∉ F from ⟨by have := HK.out; omega, by have := HK.out; omega, fun h => by have := hF _ h; omega⟩)
  clear E hF P hR hm
  go_enter Tryz.func41, Tryz.ntmps41
  go_upto_region 2 with fail
  clear hbt
  generalize w.alloc (.cells #[.pointer (some ⟨b, 0, none⟩), .int .i64 0, .int .i64 (-1), .int .i64 (-1), .pointer none, .bool false] 141) = w0 at *
  go_upto_region 3 with (go_at_call 86; (with_reducible refine (rtkKept_no HE.out HT.out).mono ?_); rintro e w1 ⟨rfl, rfl⟩)
  have t5 := HT.out.cell (i := 5) (v := .bool false) rfl
  obtain ⟨c0, c1, c2⟩ := HE.out.cells
  go_upto_region 4 with (go_at_call 94; (with_reducible refine (rsuLen HE.out (by rw [HR.out]; decide) HR.out).mono ?_); rintro e w1 ⟨rfl, U1⟩; have HU1 := Lib.hid U1; clear U1)
  clear t5 c0 c1 c2
  have HPOP := Lib.hid (rtkPop (HT.out.up HU1.out) (HE.out.up HU1.out).cells.1 ((HP.out.up HU1.out).obj.cell rfl) ((HP.out.up HU1.out).obj.cell rfl) HNE.out.1 HNE.out.2.1 HM.out n)
  go_wp2_with (go_at_call 87; (with_reducible refine HPOP.out.mono ?_); rintro e w2 ⟨rfl, bp, T2, M2, b2, X2⟩; have HT2 := Lib.hid T2; have HM2 := Lib.hid M2; have HB2 := Lib.hid b2; have HX2 := Lib.hid X2; clear T2 M2 b2 X2)
  go_ret
  have h1 := (HU.out.trans HU1.out).size
  have h2 := HB2.out
  have h3 := HBT.out
  have h4 := (HT.out.up HU1.out).lt
  refine ⟨bt, rfl, [bt, bp], ⟨rfl, rfl, bp, _, rfl, HT2.out, HM2.out, by omega, by simp [Value.ownBlock], by simp [Value.ownBlock]⟩, fun x hx => by simp at hx; omega, F, ⟨(HE.out.up HU1.out).else HX2.out (fun x hx => by simp; rintro rfl; exact HNE.out.2.2 hx), fun x hx h => ?_⟩, Next.refl _ _, ?_⟩
  · have := HF.out x h
    simp at hx
    omega
  · exact Else.into (Else.of_up (HU.out.trans HU1.out)) HX2.out (fun x hx => by simp at hx; exact .inr (by omega))
set_option maxHeartbeats 4000000 in
/-- The stash has none, the limbo some: the Load of the epoch comes next. -/
theorem rtkTake_look (E : RSu w b k qs ql F m [] R) (hR : R.size ≠ 0) (hs : R.size ≤ 8000) :
    Calls Tryz.prog 41 #[.pointer (some ⟨b, 0, none⟩)] w fun e w' => ∃ bt, e = .returned (.pointer (some ⟨bt, 0, none⟩)) ∧ TkMade w w' bt b k qs ql qp n F m [] R .look (-1) (-1) := by
  have hF := E.lt
  have HE := Lib.hid (E.up (Up.alloc w (.cells (rtkRow b 0 (-1) (-1) (.pointer none) false) 141)))
  have HT := Lib.hid (Whole.new w 141 (rtkRow b 0 (-1) (-1) (.pointer none) false))
  obtain ⟨d, hd⟩ : ∃ d, R.size = d := ⟨_, rfl⟩
  have HR := Lib.hid hd
  have HS := Lib.hid hs
  have HU := Lib.hid (Up.alloc w (.cells (rtkRow b 0 (-1) (-1) (.pointer none) false) 141))
  have HF := Lib.hid hF
  have g1 : ¬ (d : Int) = 0 := by omega
  have g2 : ((d : Int) == 0) = false := by simpa using g1
  unfold rtkRow at HE HT HU
  obtain ⟨bt, hbt⟩ : ∃ bt, w.heap.size = bt := ⟨_, rfl⟩
  rw [hbt] at HT
  have HBT := Lib.hid hbt
  clear E hF hR hd hs
  go_enter Tryz.func41, Tryz.ntmps41
  go_upto_region 2 with fail
  clear hbt
  generalize w.alloc (.cells #[.pointer (some ⟨b, 0, none⟩), .int .i64 0, .int .i64 (-1), .int .i64 (-1), .pointer none, .bool false] 141) = w0 at *
  go_upto_region 3 with (go_at_call 86; (with_reducible refine (rtkKept_no HE.out HT.out).mono ?_); rintro e w1 ⟨rfl, rfl⟩)
  have t5 := HT.out.cell (i := 5) (v := .bool false) rfl
  obtain ⟨c0, c1, c2⟩ := HE.out.cells
  go_wp2_with (go_at_call 94; (with_reducible refine (rsuLen HE.out HS.out HR.out).mono ?_); rintro e w1 ⟨rfl, U1⟩; have HU1 := Lib.hid U1; clear U1)
  go_ret
  have h1 := (HU.out.trans HU1.out).size
  have h3 := HBT.out
  refine ⟨bt, rfl, [bt], ⟨rfl, rfl, rfl, HT.out.up HU1.out⟩, fun x hx => by simp at hx; omega, F, ⟨HE.out.up HU1.out, fun x hx h => ?_⟩, Next.refl _ _, Else.of_up (HU.out.trans HU1.out)⟩
  have := HF.out x h
  simp at hx
  omega
end
end Go.Proofs.YtkopplnjomkleaaGreat
