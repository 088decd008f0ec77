/-
  Texts beneath SupplyWaits, part 25: SupTells, SupWait.
-/
import Derived.Test.YtkopplnjomkleaaPart24
/-
  What the cells tell of the pool (Tells), as it is filled, behind a Pop, behind a store elsewhere; the statements' own take over it.
-/
namespace Go.Proofs.Ytkopplnjomkleaa
open Go.RowKit
open W64
set_option maxRecDepth 100000
set_option linter.unusedSimpArgs false
section
variable {n ln L ch j k : Nat} {xs : List Int} {S : List Nat} {v : Int}
theorem fillS_at (h1 : 1 ≤ ch) (hj : j < L) (h0 : 1 ≤ ln) : (fillS (St.zero L) 0 ln ch).xs.getD j 0 = if 0 = j then 1 else if ln ≤ j ∧ j < ln + ch then (if j + 1 = ln + ch then 0 else ((j - ln : Nat) : Int) + 2) else 0 := by
  have hz : (St.zero L).xs = List.replicate L 0 := rfl
  have hzl : (St.zero L).xs.length = L := by rw [hz, List.length_replicate]
  unfold fillS St.lay
  dsimp only
  rw [getD_set, List.length_set, fillK_len, hzl, getD_set, fillK_len, hzl, fillK_at _ _ _ _ (by rw [hzl]; exact hj), hz, rep_at, show ((ln : Int) + ch - 1).toNat = ln + ch - 1 by omega, show ((0 : Nat) : Int).toNat = 0 from rfl]
  by_cases e0 : 0 = j
  · rw [if_pos ⟨e0, hj⟩, if_pos e0]
  · rw [if_neg (show ¬ (0 = j ∧ j < L) from fun h => e0 h.1), if_neg e0]
    by_cases e1 : ln ≤ j ∧ j < ln + ch
    · rw [if_pos e1]
      by_cases e2 : j + 1 = ln + ch
      · rw [if_pos (show ln + ch - 1 = j ∧ j < L by omega), if_pos e2]
      · rw [if_neg (show ¬ (ln + ch - 1 = j ∧ j < L) by omega), if_neg e2, if_pos (show ln ≤ j ∧ j < ln + (ch - 1) by omega)]
    · rw [if_neg e1, if_neg (show ¬ (ln + ch - 1 = j ∧ j < L) by omega), if_neg (show ¬ (ln ≤ j ∧ j < ln + (ch - 1)) by omega)]
theorem tells_fill (h1 : 1 ≤ n) (h2 : n ≤ 4096) (h0 : 1 ≤ ln) (hL : ln + n ≤ L) : Tells n ln (fillS (St.zero L) 0 ln n).xs (List.range n) := by
  have G := Stk.GI.fill (n := n) (hd := (fillS (St.zero L) 0 ln n).xs.getD 0 0) (lk := lkX ln (fillS (St.zero L) 0 ln n).xs) (by omega) (by omega) (by rw [fillS_at h1 (by omega) h0, if_pos rfl]) (fun i hi => by
    unfold lkX
    rw [fillS_at h1 (by omega) h0, if_neg (by omega), if_pos (by omega)]
    by_cases e : i + 1 < n
    · rw [if_pos e, if_neg (by omega), show ln + i - ln = i by omega]
    · rw [if_neg e, if_pos (by omega)])
  exact Tells.of_gi (t := 0) (m := fun _ => .idle) (has := fun _ => []) G
theorem tells_drop (T : Tells n ln xs S) (hn : n ≤ 4096) (h0 : 1 ≤ ln) (hl : 0 < xs.length) (k : Nat) : Tells n ln (xs.set 0 (nextW (xs.getD 0 0) (Stk.linkOf (S.drop k) - 1))) (S.drop k) := by
  have hlt : ∀ x ∈ S.drop k, x < n := fun x hx => T.lt x (List.mem_of_mem_drop hx)
  have h2 := Stk.linkOf_le (n := n) (S := S.drop k) hlt
  have h3 := Stk.linkOf_nonneg (S.drop k)
  have e : lkX ln (xs.set 0 (nextW (xs.getD 0 0) (Stk.linkOf (S.drop k) - 1))) = lkX ln xs := by
    funext i
    unfold lkX
    rw [getD_set, if_neg (by omega)]
  refine ⟨hlt, ?_, ?_⟩
  · rw [e]
    exact Stk.Chain.right (a := S.take k) (by rw [List.take_append_drop]; exact T.chain)
  · rw [getD_set, if_pos ⟨rfl, hl⟩, nextW_mod (by omega) (by omega)]
    omega
theorem tells_far (T : Tells n ln xs S) {i : Nat} (h1 : i ≠ 0) (h2 : i < ln) : Tells n ln (xs.set i v) S := by
  have e : lkX ln (xs.set i v) = lkX ln xs := by
    funext j
    unfold lkX
    rw [getD_set, if_neg (by omega)]
  exact ⟨T.lt, by rw [e]; exact T.chain, by rw [getD_set, if_neg (by omega)]; exact T.head⟩
theorem tells_lst (T : Tells n ln xs S) (h : S.length ≤ n) : lstOf n 0 ln xs = S := lstOf_chain h T.lt T.chain T.head
end
section
variable {W w w' : World} {l : Lia} {xs : List Int} {vS vX : Value} {st : List Int} {R : Lb} {b most x i dd : Nat} {S : List Nat} {now y : Int}
/-- What a take out of the pool leaves. -/
def TkLeft (W w' : World) (l : Lia) (xs : List Int) (b : Nat) (vS vX : Value) (R : Lb) (st : List Nat) (S : List Nat) : Prop := ∃ xs', Tells l.n l.lk xs' S ∧ xs'.length = xs.length ∧ (∀ i, i ≠ 0 → xs'.getD i 0 = xs.getD i 0) ∧ LoneB W w' l xs' b vS vX (I st) R
theorem LoneB.nums (A : LoneB W w l xs b vS vX st R) : l.n ≤ 4096 ∧ 0 < xs.length ∧ l.lk + l.n ≤ xs.length := by
  obtain ⟨d, rfl, L⟩ := A
  obtain ⟨s, hs, E0, E1⟩ := L.sm
  have h1 := E0.hh
  have h2 := E0.hl
  rw [hs] at h1 h2
  exact ⟨E0.n1, by omega, h2⟩
theorem take_cons (hb : 1 ≤ most) (x : Nat) (S : List Nat) : (x :: S).take most = x :: S.take (most - 1) := by
  obtain ⟨m, rfl⟩ : ∃ m, most = m + 1 := ⟨most - 1, by omega⟩
  simp
theorem take_tells (A : LoneB W w l xs b vS vX [] R) (hR : R.size = 0) (T : Tells l.n l.lk xs (x :: S)) (hm : min (max l.c.ba 1) 8 = most) (hlk : 1 ≤ l.lk) (hdd : ((x :: S).take most).length + 2 = dd) :
    Calls Try.prog 8 #[.pointer (some ⟨b, 0, none⟩)] w fun e w' => e = .returned (.tuple #[.int .i64 (x : Int), .bool true, .int .i64 (dd : Int)]) ∧ TkLeft W w' l xs b vS vX R (S.take (most - 1)) ((x :: S).drop most) := by
  obtain ⟨n1, n2, n3⟩ := A.nums
  obtain ⟨d, rfl, L⟩ := A
  have hb : 1 ≤ most := by omega
  have hb8 : most ≤ 8 := by omega
  have hK := pop_alone T hb (by simp)
  have hmid := pop_mid T hb (by simp)
  have hlen : ((x :: S).take most).length ≤ 8 := by rw [List.length_take]; omega
  have htk := take_cons hb x S
  subst hdd
  refine (take_pool (ch := (x : Int)) (st := I (S.take (most - 1))) (cI := (x : Int)) (cB := true) L hR hm hmid hK rfl (.inr ⟨x, S.take (most - 1), htk, rfl, rfl, by rw [List.length_take]; omega⟩) (by rw [List.length_set]) ⟨by omega, by omega⟩ (by unfold chI; rw [if_neg (by omega)]) (by unfold chB; exact decide_eq_true (by omega))).mono ?_
  rintro e w' ⟨rfl, F, L'⟩
  exact ⟨rfl, _, tells_drop T n1 hlk n2 most, List.length_set .., fun i hi => by rw [getD_set, if_neg (by omega)], d.re F, rfl, L'⟩
theorem take_dry (A : LoneB W w l xs b vS vX [] R) (hR : R.size = 0) (T : Tells l.n l.lk xs []) :
    Calls Try.prog 8 #[.pointer (some ⟨b, 0, none⟩)] w fun e w' => e = .returned (.tuple #[.int .i64 0, .bool false, .int .i64 1]) ∧ LoneB W w' l xs b vS vX [] R := by
  obtain ⟨d, rfl, L⟩ := A
  obtain ⟨most, hm⟩ : ∃ most : Nat, min (max l.c.ba 1) 8 = most := ⟨(min (max l.c.ba 1) 8).toNat, by omega⟩
  have hK := pop_empty T most
  refine (take_pool (K := 1) (ch := -1) (st := []) (cI := 0) (cB := false) L hR hm (fun i hi => ⟨Po.new most, by rw [show i = 0 by omega]; rfl, rfl⟩) hK rfl (.inl ⟨rfl, rfl, rfl⟩) rfl ⟨by decide, by decide⟩ (by decide) (by decide)).mono ?_
  rintro e w' ⟨rfl, F, L'⟩
  exact ⟨rfl, d.re F, rfl, L'⟩
theorem take_wait (A : LoneB W w l xs b vS vX [] R) (hR : R.size ≠ 0) (hs : R.size ≤ 8000) (hx : cutE (xs.getD 2 0) = now) (h2 : 2 < xs.length) (hr : R.outs now = []) (T : Tells l.n l.lk xs (x :: S)) (hm : min (max l.c.ba 1) 8 = most) (hlk : 1 ≤ l.lk) (hdd : ((x :: S).take most).length + 3 = dd) :
    Calls Try.prog 8 #[.pointer (some ⟨b, 0, none⟩)] w fun e w' => e = .returned (.tuple #[.int .i64 (x : Int), .bool true, .int .i64 (dd : Int)]) ∧ TkLeft W w' l xs b vS vX (R.rest now) (S.take (most - 1)) ((x :: S).drop most) := by
  obtain ⟨n1, n2, n3⟩ := A.nums
  obtain ⟨d, rfl, L⟩ := A
  have hb : 1 ≤ most := by omega
  have hb8 : most ≤ 8 := by omega
  have hK := pop_alone T hb (by simp)
  have hmid := pop_mid T hb (by simp)
  have hlen : ((x :: S).take most).length ≤ 8 := by rw [List.length_take]; omega
  have htk := take_cons hb x S
  subst hdd
  refine (take_look (ch := (x : Int)) (st := I (S.take (most - 1))) (cI := (x : Int)) (cB := true) L hR hs hx h2 hr hm hmid hK rfl (.inr ⟨x, S.take (most - 1), htk, rfl, rfl, by rw [List.length_take]; omega⟩) (by rw [List.length_set]) ⟨by omega, by omega⟩ (by unfold chI; rw [if_neg (by omega)]) (by unfold chB; exact decide_eq_true (by omega))).mono ?_
  rintro e w' ⟨rfl, F, L'⟩
  exact ⟨rfl, _, tells_drop T n1 hlk n2 most, List.length_set .., fun i hi => by rw [getD_set, if_neg (by omega)], d.re F, rfl, L'⟩
theorem take_rdy {ys : List Int} (A : LoneB W w l xs b vS vX [] R) (hR : R.size ≠ 0) (hs : R.size ≤ 8000) (hx : cutE (xs.getD 2 0) = now) (h2 : 2 < xs.length) (hr : R.outs now = ys ++ [y]) (hy : 0 ≤ y) (hl : (R.outs now).length ≤ 8000) :
    Calls Try.prog 8 #[.pointer (some ⟨b, 0, none⟩)] w fun e w' => e = .returned (.tuple #[.int .i64 y, .bool true, .int .i64 1]) ∧ LoneB W w' l xs b vS vX ys (R.rest now) := by
  obtain ⟨d, rfl, L⟩ := A
  exact (take_ready L hR hs hx h2 hr hy hl).mono fun _ _ ⟨he, F, L'⟩ => ⟨he, d.re F, rfl, L'⟩
theorem lbRetire {tag : Int} {kk : Nat} {R' : Lb} {st' : List Int} (A : LoneB W w l xs b vS vX st R) (x : Int) (h1 : R.last ≤ tag) (h2 : tag ≤ 4611686018427387903) (hk : tag % 3 = kk) (hs : R.size + 1 ≤ 8000) (hl : st.length + (R.taken kk tag).length ≤ 8192) (hR : R.retire kk tag [x] = R') (hst : st ++ R.taken kk tag = st') :
    Calls Try.prog 9 #[.pointer (some ⟨b, 0, none⟩), .int .i64 tag, .slice (some ⟨w.heap.size, 0, none⟩) 1 1] (w.alloc (.cells #[.int .i64 x] 3)) fun e w' => e = .returned (.int .i64 0) ∧ LoneB W w' l xs b vS vX st' R' := by
  obtain ⟨d, rfl, L⟩ := A
  obtain ⟨s, hs2, E0, E1⟩ := L.sm
  subst hs2
  exact (lcRetire ⟨d, rfl, L, E0.mem⟩ x h1 h2 hk hs hl hR hst).mono fun _ _ ⟨he, A'⟩ => ⟨he, A'.toB rfl⟩
theorem lbLay (A : LoneB W w l xs b vS vX st R) (hi : i < xs.length) (h0 : 0 ≤ y) (h1 : y < 18446744073709551616) :
    Calls Try.prog 10 #[.pointer (some ⟨l.p, 0, none⟩), .int .i64 (i : Int), .int .u64 y] w fun e w' => e = .returned (.int .i64 0) ∧ LoneB W w' l (xs.set i y) b vS vX st R := by
  obtain ⟨d, rfl, L⟩ := A
  obtain ⟨s, hs2, E0, E1⟩ := L.sm
  refine (lay_in y E0.mem ⟨by omega, by rw [hs2]; omega⟩).mono ?_
  rintro e w' ⟨rfl, M, E⟩
  have h := L.lay hs2 M E h0 h1 E0.ok
  rw [Int.toNat_natCast] at h
  exact ⟨rfl, d, rfl, h⟩
theorem lbList (A : LoneB W w l xs b vS vX st R) (T : Tells l.n l.lk xs S) (hS : S.length ≤ l.n) (hd : S.length = dd) :
    Calls Try.prog 12 #[.pointer (some ⟨l.q0, 0, none⟩)] w fun e w' => ∃ A cp, e = .returned (.slice A dd cp) ∧ LoneB W w' l xs b vS vX st R := by
  obtain ⟨d, rfl, L⟩ := A
  obtain ⟨s, hs2, E0, E1⟩ := L.sm
  refine (slist E0).mono ?_
  rintro e w' ⟨v, rfl, J, _, u⟩
  rw [hs2, tells_lst T hS] at J
  obtain ⟨A, cp, e⟩ := J.slice
  rw [I_len, hd] at e
  exact ⟨A, cp, by rw [e], d, rfl, L.ups u⟩
end
end Go.Proofs.Ytkopplnjomkleaa

/-
  SupplyWaits: what each call of it leaves.
-/
namespace Go.Proofs.Ytkopplnjomkleaa
open Go.RowKit
open W64
set_option maxRecDepth 100000
set_option linter.unusedSimpArgs false
def cfW : Cf := ⟨1, 3, 8, 1, 2, 1⟩
theorem cfW_small : cfW.Small := ⟨by decide, by decide, by decide, by decide, by decide, by decide⟩
theorem cfW_len : lenN cfW = 33 := by decide
section
variable {W w w' : World} {l : Lia} {xs : List Int} {vS vX : Value} {st : List Int} {R : Lb} {b kk : Nat} {t z y : Int}
/-- What made leaves. -/
def WtMade (W w : World) (a : Nat) : Prop := ∃ (l : Lia) (r cp b : Nat) (vX : Value) (xs : List Int), l.a = a ∧ (l.n = 3 ∧ l.lk = 6 ∧ l.c.ba = 1) ∧ Tells l.n l.lk xs [0, 1, 2] ∧ xs.length = 33 ∧ LoneB W w l xs b (.slice (some ⟨r, 0, none⟩) 1 cp) vX [] Lb.zero ∧ w.cell? ⟨r, 0, none⟩ = some (.pointer (some ⟨b, 0, none⟩))
theorem waits_made (w : World) : Calls Try.prog 6 #[.agg #[.int .i64 1, .int .i64 3, .int .i64 8, .int .i64 1, .int .i64 2, .int .i64 1], .int .i64 1] w fun e w' => ∃ a, e = .returned (.pointer (some ⟨a, 0, none⟩)) ∧ WtMade w w' a := by
  refine (made_one cfW_small w).mono ?_
  rintro e w' ⟨a, rfl, l, LEN, r, cp, b, vX, hla, ⟨hc, hlk, hn, hm, hL⟩, A, hcell⟩
  have h1 : l.n = 3 := by have : (l.n : Int) = 3 := hn; omega
  have h2 : l.lk = 6 := by have : (l.lk : Int) = 3 + 1 + 2 * 1 := hlk; omega
  have h3 : LEN = 33 := by rw [cfW_len] at hL; omega
  have h4 : l.c.ba = 1 := by rw [hc]; rfl
  subst h3
  refine ⟨a, rfl, l, r, cp, b, vX, (mem13 l 33).xs, hla, ⟨h1, h2, h4⟩, ?_, ?_, A.toB rfl, hcell⟩
  · unfold mem13
    rw [h1, h2]
    exact tells_fill (n := 3) (ln := 6) (L := 33) (by decide) (by decide) (by decide) (by decide)
  · unfold mem13
    rw [fillS_len]
    simp [St.zero]
theorem waits_take (A : LoneB W w l xs b vS vX [] Lb.zero) (h : l.n = 3 ∧ l.lk = 6 ∧ l.c.ba = 1) (T : Tells l.n l.lk xs [0, 1, 2]) :
    Calls Try.prog 8 #[.pointer (some ⟨b, 0, none⟩)] w fun e w' => e = .returned (.tuple #[.int .i64 0, .bool true, .int .i64 3]) ∧ ∃ xs', Tells l.n l.lk xs' [1, 2] ∧ xs'.length = xs.length ∧ LoneB W w' l xs' b vS vX [] Lb.zero := by
  refine (take_tells (most := 1) (dd := 3) A rfl T (by rw [h.2.2]; decide) (by omega) rfl).mono ?_
  rintro e w' ⟨rfl, xs', T', hl, _, A'⟩
  exact ⟨rfl, xs', T', hl, A'⟩
theorem waits_retire (A : LoneB W w l xs b vS vX [] Lb.zero) (h0 : 0 ≤ t) (h1 : t ≤ 4611686018427387903) (hk : t % 3 = kk) :
    Calls Try.prog 9 #[.pointer (some ⟨b, 0, none⟩), .int .i64 t, .slice (some ⟨w.heap.size, 0, none⟩) 1 1] (w.alloc (.cells #[.int .i64 0] 3)) fun e w' => e = .returned (.int .i64 0) ∧ LoneB W w' l xs b vS vX [] (Lb.one kk t [0]) :=
  lbRetire A 0 h0 h1 hk (by decide) (by rw [zero_taken]; decide) (one_retire kk t [0]) (by rw [zero_taken]; rfl)
theorem waits_lay (A : LoneB W w l xs b vS vX st R) (hl : xs.length = 33) (T : Tells l.n l.lk xs [1, 2]) (h : l.n = 3 ∧ l.lk = 6 ∧ l.c.ba = 1) (h0 : 0 ≤ y) (h1 : y ≤ 4611686018427387903) :
    Calls Try.prog 10 #[.pointer (some ⟨l.p, 0, none⟩), .int .i64 2, .int .u64 y] w fun e w' => e = .returned (.int .i64 0) ∧ ∃ xs', Tells l.n l.lk xs' [1, 2] ∧ xs'.length = 33 ∧ cutE (xs'.getD 2 0) = y ∧ LoneB W w' l xs' b vS vX st R := by
  refine (lbLay (i := 2) A (by omega) h0 (by omega)).mono ?_
  rintro e w' ⟨rfl, A'⟩
  refine ⟨rfl, _, tells_far T (by decide) (by omega), by rw [List.length_set]; exact hl, ?_, A'⟩
  rw [getD_set, if_pos ⟨rfl, by omega⟩]
  unfold cutE
  rw [if_pos h1]
theorem waits_no (A : LoneB W w l xs b vS vX [] (Lb.one kk t [0])) (hk : kk < 3) (hl : xs.length = 33) (T : Tells l.n l.lk xs [1, 2]) (h : l.n = 3 ∧ l.lk = 6 ∧ l.c.ba = 1) (hx : cutE (xs.getD 2 0) = y) (hy : ¬ t + 2 ≤ y) :
    Calls Try.prog 8 #[.pointer (some ⟨b, 0, none⟩)] w fun e w' => e = .returned (.tuple #[.int .i64 1, .bool true, .int .i64 4]) ∧ ∃ xs' R', LoneB W w' l xs' b vS vX [] R' := by
  have e := one_outs_no (t := t) (zs := [0]) (now := y) hk (by simp) hy
  refine (take_wait (most := 1) (dd := 4) A (by rw [one_size hk]; decide) (by rw [one_size hk]; decide) hx (by omega) e.1 T (by rw [h.2.2]; decide) (by omega) rfl).mono ?_
  rintro e w' ⟨rfl, xs', T', hl, _, A'⟩
  exact ⟨rfl, xs', _, A'⟩
theorem waits_yes (A : LoneB W w l xs b vS vX [] (Lb.one kk t [0])) (hk : kk < 3) (hl : xs.length = 33) (hx : cutE (xs.getD 2 0) = y) (hy : t + 2 ≤ y) :
    Calls Try.prog 8 #[.pointer (some ⟨b, 0, none⟩)] w fun e w' => e = .returned (.tuple #[.int .i64 0, .bool true, .int .i64 1]) ∧ ∃ R', LoneB W w' l xs b vS vX [] R' := by
  have e := one_outs_yes (t := t) (zs := [0]) (now := y) hk (by simp) hy
  refine (take_rdy (ys := []) (y := 0) A (by rw [one_size hk]; decide) (by rw [one_size hk]; decide) hx (by omega) e (by decide) (by rw [e]; decide)).mono ?_
  rintro e w' ⟨rfl, A'⟩
  exact ⟨rfl, _, A'⟩
theorem waits_stash (A : LoneB W w l xs b vS vX [] R) : Calls Try.prog 11 #[.pointer (some ⟨b, 0, none⟩)] w fun e w' => ∃ A cp, e = .returned (.slice A 0 cp) ∧ LoneB W w' l xs b vS vX [] R := lbStash A (by decide) rfl
theorem waits_list (A : LoneB W w l xs b vS vX [] R) (T : Tells l.n l.lk xs [1, 2]) (h : l.n = 3 ∧ l.lk = 6 ∧ l.c.ba = 1) : Calls Try.prog 12 #[.pointer (some ⟨l.q0, 0, none⟩)] w fun e w' => ∃ A cp, e = .returned (.slice A 2 cp) ∧ LoneB W w' l xs b vS vX [] R := lbList A T (by rw [h.1]; decide) rfl
end
end Go.Proofs.Ytkopplnjomkleaa
