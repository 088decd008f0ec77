/-
  Texts beneath ChainBack, part 10: ChWalk, ChWalk2, ChWalk3, ChNew.
-/
import Derived.Test.YteofgnifpkcgmaaPart9
/-
  Package chain: a Walk (WkM: it lies at b, its chunks in v), each access of it as plain data (Wk.go); it begins; its List; where it is refused.
-/
namespace Go.Proofs.Yteofgnifpkcgmaa
open Go.RowKit
open W64
set_option maxRecDepth 100000
/-- What is behind the last one of L; -1: none. -/
def lastN (n lk : Nat) (xs : List Int) (L : List Nat) : Int := belowN n (xs.getD (lk + L.getLastD 0) 0)
/-- One access of a Walk whose chunks so far are L. -/
def wkEnd (n lk : Nat) (xs : List Int) (L : List Nat) : Bool := decide (lastN n lk xs L = -1 ∨ L.length = n)
def wkGo (n lk : Nat) (xs : List Int) (L : List Nat) : List Nat := if wkEnd n lk xs L = true then L else L ++ [(lastN n lk xs L).toNat]
/-- A Walk lies at b, its chunks in v. -/
structure WkM (w : World) (b q : Nat) (v : Value) (L : List Nat) (fin : Bool) : Prop where
  row : Whole w b 105 #[if fin = true then .nilFunc else meth 61 b, .pointer (some ⟨q, 0, none⟩), v]
  ints : Ints w v (I L)
/-- What a list so far is of the whole S, while the Walk goes on. -/
structure WkInv (n lk : Nat) (xs : List Int) (S L : List Nat) : Prop where
  ne : L ≠ []
  le : L.length ≤ n
  all : ∀ x ∈ L, x < n
  eq : L ++ walkL n lk xs (n - L.length) (lastN n lk xs L) = S
section
variable {n lk k : Nat} {xs : List Int} {S L : List Nat}
theorem getLastD_app (L : List Nat) (x : Nat) : (L ++ [x]).getLastD 0 = x := by simp [List.getLastD_eq_getLast?]
theorem last_in (h : L ≠ []) (ha : ∀ x ∈ L, x < n) : L.getLastD 0 < n := by
  obtain ⟨T, x, rfl⟩ : ∃ T x, L = T ++ [x] := ⟨L.dropLast, L.getLast h, (List.dropLast_concat_getLast h).symm⟩
  rw [getLastD_app]
  exact ha x (by simp)
theorem last_get (h : L ≠ []) : (I L).getD (L.length - 1) 0 = (L.getLastD 0 : Nat) := by
  obtain ⟨T, x, rfl⟩ : ∃ T x, L = T ++ [x] := ⟨L.dropLast, L.getLast h, (List.dropLast_concat_getLast h).symm⟩
  rw [getLastD_app]
  simp [I, List.getD]
theorem lastN_in (hn : 1 ≤ n) (hw : ∀ i, 0 ≤ xs.getD i 0) : -1 ≤ lastN n lk xs L ∧ lastN n lk xs L < n := belowN_in (hw _) hn
theorem WkInv.start (hk : k < n) : WkInv n lk xs (walkL n lk xs n (k : Int)) [k] := by
  refine ⟨by simp, by simp; omega, by simp [hk], ?_⟩
  obtain ⟨f, rfl⟩ : ∃ f, n = f + 1 := ⟨n - 1, by omega⟩
  rw [walkL_nat]
  simp [lastN]
theorem WkInv.done (H : WkInv n lk xs S L) (h : wkEnd n lk xs L = true) : L = S := by
  unfold wkEnd at h
  simp only [decide_eq_true_eq] at h
  refine walk_end H.eq ?_
  rcases h with h | h
  · exact .inl (by omega)
  · exact .inr (by omega)
theorem WkInv.goes (H : WkInv n lk xs S L) (hw : ∀ i, 0 ≤ xs.getD i 0) (h : wkEnd n lk xs L = false) : WkInv n lk xs S (wkGo n lk xs L) ∧ (wkGo n lk xs L).length = L.length + 1 := by
  have hn : 1 ≤ n := by
    have := List.length_pos_iff.2 H.ne
    have := H.le
    omega
  obtain ⟨i0, i1⟩ := lastN_in (lk := lk) (L := L) hn hw
  have e : wkGo n lk xs L = L ++ [(lastN n lk xs L).toNat] := by unfold wkGo; rw [if_neg (by simp [h])]
  unfold wkEnd at h
  simp only [decide_eq_false_iff_not, not_or] at h
  have hl := H.le
  obtain ⟨j, hj⟩ : ∃ j : Nat, lastN n lk xs L = j := ⟨(lastN n lk xs L).toNat, by omega⟩
  have E := H.eq
  rw [e]
  rw [hj] at E i1 ⊢
  rw [Int.toNat_natCast]
  have hm := walk_more E (by omega)
  refine ⟨⟨by simp, by simp; omega, ?_, ?_⟩, by simp⟩
  · intro x hx
    rcases List.mem_append.1 hx with hx | hx
    · exact H.all x hx
    · simp at hx; omega
  · unfold lastN
    rw [getLastD_app]
    exact hm
theorem WkInv.len (H : WkInv n lk xs S L) (h : wkEnd n lk xs L = true) : L.length = S.length := by rw [H.done h]
end
section
variable {w0 w w' : World} {q p g qs lk n b : Nat} {c : Cf} {s s' : St} {v : Value} {L : List Nat} {fin : Bool}
theorem WkM.up (M : WkM w b q v L fin) (u : Up w w') : WkM w' b q v L fin := ⟨M.row.up u, M.ints.up u⟩
/-- The blocks that a Walk turns. -/
def wkOwn (b p g : Nat) (v : Value) : List Nat := b :: p :: g :: blk v
/-- What a Walk's access leaves. -/
structure WkOut (w : World) (q p g qs : Nat) (c : Cf) (lk n : Nat) (s : St) (b : Nat) (v v' : Value) (L : List Nat) (fin : Bool) (w' : World) : Prop where
  cha : Cha w' q p g qs c lk n s
  mach : WkM w' b q v' L fin
  he : Else (wkOwn b p g v) w w'
  near : v'.ownBlock = v.ownBlock ∨ ∀ k, v'.ownBlock = some k → w.heap.size ≤ k
/-- While a Walk loads: nothing of these but the memory has turned. -/
structure Wx (w0 : World) (b q p g qs : Nat) (nx : Value) (v : Value) (L : List Nat) (c : Cf) (lk n : Nat) (s : St) (w : World) : Prop where
  cha : Cha w q p g qs c lk n s
  row : Whole w b 105 #[nx, .pointer (some ⟨q, 0, none⟩), v]
  ints : Ints w v (I L)
  he : Else [p, g] w0 w
variable {nx : Value}
theorem Wx.up (X : Wx w0 b q p g qs nx v L c lk n s w) (u : Up w w') : Wx w0 b q p g qs nx v L c lk n s w' := ⟨X.cha.up u, X.row.up u, X.ints.up u, X.he.up u⟩
theorem Wx.bp (X : Wx w0 b q p g qs nx v L c lk n s w) : b ≠ p := X.row.ne_type X.cha.env.mem.top (by decide)
theorem Wx.bg (X : Wx w0 b q p g qs nx v L c lk n s w) : b ≠ g := X.row.ne_type X.cha.env.mem.row (by decide)
theorem Wx.bq (X : Wx w0 b q p g qs nx v L c lk n s w) : b ≠ q := X.row.ne_type X.cha.obj (by decide)
theorem Wx.bs (X : Wx w0 b q p g qs nx v L c lk n s w) : b ≠ qs := X.row.ne_type X.cha.env.stk (by decide)
theorem Wx.vo (X : Wx w0 b q p g qs nx v L c lk n s w) : v.ownBlock ≠ some b ∧ v.ownBlock ≠ some p ∧ v.ownBlock ≠ some g ∧ v.ownBlock ≠ some q ∧ v.ownBlock ≠ some qs :=
  ⟨ints_off X.ints X.row (by decide), ints_off X.ints X.cha.env.mem.top (by decide), ints_off X.ints X.cha.env.mem.row (by decide), ints_off X.ints X.cha.obj (by decide), ints_off X.ints X.cha.env.stk (by decide)⟩
theorem Wx.turn (X : Wx w0 b q p g qs nx v L c lk n s w) (m : Mem w' p g s') (u : Else [p, g] w w') (ok : s'.Ok) (hl : s'.xs.length = s.xs.length) : Wx w0 b q p g qs nx v L c lk n s' w' := by
  have h := X.vo
  refine ⟨X.cha.turn m u (by simp [X.cha.qp, X.cha.qg]) (by simp [X.cha.env.np, X.cha.env.ng]) ok hl, u.whole X.row (by simp [X.bp, X.bg]), X.ints.else u ?_, X.he.trans u⟩
  intro k hk
  simp at hk
  rcases hk with rfl | rfl
  · exact h.2.1
  · exact h.2.2.1
/-- The cells of a Walk that it reads. -/
theorem Wx.cells {A : Option Addr} {N cp : Nat} (X : Wx w0 b q p g qs nx (.slice A N cp) L c lk n s w) (u : Up w w') {r : Nat} {x : Int} (hr : w.cell? ⟨r, N - 1, none⟩ = some (.int .i64 x)) :
    w'.cell? ⟨b, 1, none⟩ = some (.pointer (some ⟨q, 0, none⟩)) ∧ w'.cell? ⟨b, 2, none⟩ = some (.slice A N cp) ∧ w'.cell? ⟨r, N - 1, none⟩ = some (.int .i64 x) ∧ w'.cell? ⟨q, 0, none⟩ = some (.pointer (some ⟨p, 0, none⟩)) ∧ w'.cell? ⟨q, 1, none⟩ = some (.int .i64 c.wk) ∧ w'.cell? ⟨q, 2, none⟩ = some (.int .i64 c.ch) ∧ w'.cell? ⟨q, 3, none⟩ = some (.int .i64 c.wo) ∧ w'.cell? ⟨q, 4, none⟩ = some (.int .i64 c.sl) ∧ w'.cell? ⟨q, 5, none⟩ = some (.int .i64 c.ca) ∧ w'.cell? ⟨q, 6, none⟩ = some (.int .i64 c.ba) :=
  ⟨u.kept (X.row.cell rfl), u.kept (X.row.cell rfl), u.kept hr, X.cha.cells u⟩
theorem ints_last {A : Option Addr} {N cp : Nat} (J : Ints w (.slice A N cp) (I L)) (hL : L ≠ []) : ∃ r, A = some ⟨r, 0, none⟩ ∧ N = L.length ∧ w.cell? ⟨r, N - 1, none⟩ = some (.int .i64 (L.getLastD 0 : Nat)) := by
  obtain ⟨A', cp', e⟩ := J.slice
  injection e with e1 e2 e3
  subst e1 e2 e3
  have hp := List.length_pos_iff.2 hL
  have hl := I_len L
  obtain ⟨r, e, hc⟩ := own_cell (j := (I L).length - 1) J (by omega)
  refine ⟨r, e, hl, ?_⟩
  rw [hc, ← last_get hL, hl]
  have hj : L.length - 1 < (I L).length := by omega
  simp [List.getD, hj]
end
end Go.Proofs.Yteofgnifpkcgmaa

/-
  Package chain: a Walk's access (loadLink).
-/
namespace Go.Proofs.Yteofgnifpkcgmaa
open Go.RowKit
open W64
set_option maxRecDepth 100000
set_option linter.unusedSimpArgs false
section
variable {w0 w w' : World} {q p g qs lk n b r m cp x : Nat} {c : Cf} {s s' : St} {v nx : Value} {L : List Nat} {fin : Bool}
theorem Wx.look (X : Wx w0 b q p g qs nx (.slice (some ⟨r, 0, none⟩) m cp) L c lk n s w) (hL : L ≠ []) (hx : L.getLastD 0 = x) {M : Nat} (hM : m - 1 = M) (u : Up w w') : w'.cell? ⟨b, 1, none⟩ = some (.pointer (some ⟨q, 0, none⟩)) ∧ w'.cell? ⟨b, 2, none⟩ = some (.slice (some ⟨r, 0, none⟩) m cp) ∧ w'.cell? ⟨r, M, none⟩ = some (.int .i64 (x : Int)) ∧ w'.cell? ⟨q, 0, none⟩ = some (.pointer (some ⟨p, 0, none⟩)) ∧ w'.cell? ⟨q, 1, none⟩ = some (.int .i64 c.wk) ∧ w'.cell? ⟨q, 2, none⟩ = some (.int .i64 c.ch) ∧ w'.cell? ⟨q, 3, none⟩ = some (.int .i64 c.wo) ∧ w'.cell? ⟨q, 4, none⟩ = some (.int .i64 c.sl) ∧ w'.cell? ⟨q, 5, none⟩ = some (.int .i64 c.ca) ∧ w'.cell? ⟨q, 6, none⟩ = some (.int .i64 c.ba) := by
  obtain ⟨r', e, _, hc⟩ := ints_last X.ints hL
  injection e with e; injection e with e; subst e
  rw [hx, hM] at hc
  exact ⟨u.kept (X.row.cell rfl), u.kept (X.row.cell rfl), u.kept hc, X.cha.cells u⟩
/-- What loadLink leaves. -/
structure WkL (w : World) (q p g qs : Nat) (c : Cf) (lk n : Nat) (s : St) (b : Nat) (nx v v' : Value) (L : List Nat) (w' : World) : Prop where
  cha : ∃ s', s'.c = wrap64 (s.c + 1) ∧ s'.xs = s.xs ∧ Cha w' q p g qs c lk n s'
  row : Whole w' b 105 #[if wkEnd n lk s.xs L = true then .nilFunc else nx, .pointer (some ⟨q, 0, none⟩), v']
  ints : Ints w' v' (I (wkGo n lk s.xs L))
  he : Else (wkOwn b p g v) w w'
  near : v'.ownBlock = v.ownBlock ∨ ∀ k, v'.ownBlock = some k → w.heap.size ≤ k
theorem Wx.end_ {s0 : St} (X : Wx w0 b q p g qs nx v L c lk n s w) (hc : s.c = wrap64 (s0.c + 1)) (hx : s.xs = s0.xs) (he : wkEnd n lk s0.xs L = true) : WkL w0 q p g qs c lk n s0 b nx v v L (w.setCell ⟨b, 0, none⟩ .nilFunc) := by
  have u : Else [b] w (w.setCell ⟨b, 0, none⟩ .nilFunc) := (Else.refl [b] w).set (.inl (by simp)) _
  refine ⟨⟨s, hc, hx, X.cha.else u (by simp [X.bp.symm, X.bg.symm, X.bs.symm, X.bq.symm])⟩, ?_, ?_, ?_, .inl rfl⟩
  · rw [if_pos he]; exact X.row.set 0 .nilFunc
  · unfold wkGo
    rw [if_pos he]
    refine X.ints.else u ?_
    intro k hk
    simp at hk
    subst hk
    exact X.vo.1
  · refine (X.he.more ?_).trans (u.more ?_)
    · intro k hk; simp [wkOwn] at hk ⊢; rcases hk with h | h <;> simp [h]
    · intro k hk; simp [wkOwn] at hk ⊢; exact .inl hk
theorem Wx.more {s0 : St} {v' : Value} {w2 : World} {y : Nat} (X : Wx w0 b q p g qs nx v L c lk n s w) (hc : s.c = wrap64 (s0.c + 1)) (hx : s.xs = s0.xs) (he : wkEnd n lk s0.xs L = false) (hy : lastN n lk s0.xs L = (y : Int))
    (J : Ints w2 v' (I L ++ [(y : Int)])) (G : (w.alloc (.cells #[.int .i64 (y : Int)] 3)).grownBy w2 v.ownBlock) (A : v'.ownBlock = v.ownBlock ∨ v'.ownBlock = some (w.alloc (.cells #[.int .i64 (y : Int)] 3)).heap.size) : WkL w0 q p g qs c lk n s0 b nx v v' L (w2.setCell ⟨b, 2, none⟩ v') := by
  have e1 : Else (blk v) w w2 := Else.grown (Else.of_up (Up.alloc w _)) G (fun k hk => .inl (mem_blk.2 hk))
  have h := X.vo
  have nb : ∀ k, v.ownBlock ≠ some k → k ∉ blk v := fun k hk hm => hk (mem_blk.1 hm)
  have u : Else [b] w2 (w2.setCell ⟨b, 2, none⟩ v') := (Else.refl [b] w2).set (.inl (by simp)) _
  have B2 := e1.whole X.row (nb _ h.1)
  have C2 := X.cha.else e1 ⟨nb _ h.2.1, nb _ h.2.2.1, nb _ h.2.2.2.2, nb _ h.2.2.2.1⟩
  have hs : (w.alloc (.cells #[.int .i64 (y : Int)] 3)).heap.size = w.heap.size + 1 := by simp
  rw [hs] at A
  refine ⟨⟨s, hc, hx, C2.else u (by simp [X.bp.symm, X.bg.symm, X.bs.symm, X.bq.symm])⟩, ?_, ?_, ?_, ?_⟩
  · rw [if_neg (by simp [he])]; exact B2.set 2 v'
  · unfold wkGo
    rw [if_neg (by simp [he]), hy, Int.toNat_natCast, I_app]
    refine J.else u ?_
    intro k hk
    simp at hk
    subst hk
    rcases A with A | A
    · rw [A]; exact h.1
    · rw [A]; intro e; injection e with e; have := X.row.lt; omega
  · refine ((X.he.more ?_).trans (e1.more ?_)).trans (u.more ?_)
    · intro k hk; simp [wkOwn] at hk ⊢; rcases hk with h | h <;> simp [h]
    · intro k hk; simp [wkOwn]; exact .inr (.inr (.inr hk))
    · intro k hk; simp [wkOwn] at hk ⊢; exact .inl hk
  · rcases A with A | A
    · exact .inl A
    · refine .inr fun k hk => ?_
      rw [A] at hk
      injection hk with hk
      have := X.he.size
      omega
set_option maxHeartbeats 8000000 in
theorem walk_load (R : Cha w q p g qs c lk n s) (B : Whole w b 105 #[nx, .pointer (some ⟨q, 0, none⟩), v]) (J : Ints w v (I L)) (hL : L ≠ []) (ha : ∀ x ∈ L, x < n) (hle : L.length ≤ n) :
    Calls Try.prog 61 #[.pointer (some ⟨b, 0, none⟩)] w fun e w' => e = .returned (.tuple #[]) ∧ ∃ v', WkL w q p g qs c lk n s b nx v v' L w' := by
  obtain ⟨A, N, cp, rfl⟩ := shapeI J
  obtain ⟨r, rfl, hN, _⟩ := ints_last J hL
  obtain ⟨m, hm⟩ : ∃ m, L.length = m := ⟨_, rfl⟩
  obtain ⟨x, hx⟩ : ∃ x, L.getLastD 0 = x := ⟨_, rfl⟩
  obtain ⟨z, hz⟩ : ∃ z, s.xs.getD (lk + x) 0 = z := ⟨_, rfl⟩
  obtain ⟨y, hy⟩ : ∃ y, belowN n z = y := ⟨_, rfl⟩
  have hxn := last_in hL ha
  rw [hx] at hxn
  have hp := List.length_pos_iff.2 hL
  obtain ⟨_, n0, n1, _⟩ := R.nn
  have hw := R.env.ok.words (lk + x)
  rw [hz] at hw
  have HLN := Lib.hid (show lastN n lk s.xs L = y by unfold lastN; rw [hx, hz, hy])
  have HYI := Lib.hid (belowN_in (n := n) hw.1 n0)
  rw [hy] at HYI
  have HAT := Lib.hid (R.at hxn)
  have HB := Lib.hid (And.intro hy hw)
  have HZ := Lib.hid hz
  have HX := Lib.hid hx
  have HL := Lib.hid hL
  have HM := Lib.hid hm
  have HNC := Lib.hid R.hn
  rw [hm] at hN hp hle
  subst hN
  obtain ⟨M, hM⟩ : ∃ M, N - 1 = M := ⟨_, rfl⟩
  have HMM := Lib.hid hM
  have HX0 := Lib.hid (show Wx w b q p g qs nx (.slice (some ⟨r, 0, none⟩) N cp) L c lk n s w from ⟨R, B, J, Else.refl _ _⟩)
  have HC0 := Lib.hid (HX0.out.look hL hx HMM.out (up_drew w))
  have e1 : (N : Int) - 1 = (M : Int) := by omega
  have k1 : IntKind.i64.wrap ((N : Int) - 1) = (M : Int) := by rw [e1]; exact IntWalk.i64_in _ (by omega)
  have k2 : wrap64 ((N : Int) - 1) = (M : Int) := by rw [e1]; exact wrap64_in (by omega) (by omega)
  have k3 : (0 : Int) ≤ (M : Int) := Int.natCast_nonneg _
  have k4 : (M : Int) < (N : Int) := by omega
  clear e1 hM
  clear R B J hL ha hm hx hz hy hw
  go_enter Try.func61, Try.ntmps61
  go_upto_region 0 with fail
  go_region_held3 (fun w' => w'.cell? ⟨b, 1, none⟩ = some (.pointer (some ⟨q, 0, none⟩)) ∧ w'.cell? ⟨b, 2, none⟩ = some (.slice (some ⟨r, 0, none⟩) N cp) ∧ w'.cell? ⟨r, M, none⟩ = some (.int .i64 (x : Int)) ∧ w'.cell? ⟨q, 0, none⟩ = some (.pointer (some ⟨p, 0, none⟩)) ∧ w'.cell? ⟨q, 1, none⟩ = some (.int .i64 c.wk) ∧ w'.cell? ⟨q, 2, none⟩ = some (.int .i64 c.ch) ∧ w'.cell? ⟨q, 3, none⟩ = some (.int .i64 c.wo) ∧ w'.cell? ⟨q, 4, none⟩ = some (.int .i64 c.sl) ∧ w'.cell? ⟨q, 5, none⟩ = some (.int .i64 c.ca) ∧ w'.cell? ⟨q, 6, none⟩ = some (.int .i64 c.ba))
    ((first | with_reducible exact HC3.out | with_reducible exact HC2.out | with_reducible exact HC0.out))
    (first
      | (go_at_call 16; refine (link_is HAT.out.1 _).mono ?_; rintro e w2 ⟨rfl, U2⟩; have HX2 := Lib.hid (HX0.out.up ((up_drew w).trans U2)); have HC2 := Lib.hid (HX2.out.look HL.out HX.out HMM.out (Up.refl _)); clear U2)
      | (go_at_call 74; refine (loadj_to rfl HX2.out.cha.env.mem HAT.out.2 HZ.out).mono ?_; rintro e w3 ⟨rfl, M3, E3⟩; have HX3 := Lib.hid (HX2.out.turn M3 E3 (HX2.out.cha.env.ok.hit _ _ _ (HX2.out.cha.env.ok _).1 (HX2.out.cha.env.ok _).2) (hit_len _ _ _ _ _)); have HC3 := Lib.hid (HX3.out.look HL.out HX.out HMM.out (Up.refl _)); clear M3 E3))
  have b1 := HX3.out.row.cell (i := 1) (v := .pointer (some ⟨q, 0, none⟩)) rfl
  go_upto_region 2 with (go_at_call 47; (with_reducible refine (chOf HX3.out.cha HB.out.2.1 HB.out.2.2 HB.out.1).mono ?_); rintro e w4 ⟨rfl, rfl⟩)
  have b2 := HX3.out.row.cell (i := 2) (v := .slice (some ⟨r, 0, none⟩) N cp) rfl
  have q2 := HX3.out.cha.obj.cell (i := 2) (v := .int .i64 c.ch) rfl
  have HSX := Lib.hid (show (s.hit 1 ((lk + x : Nat) : Int) (s.get ((lk + x : Nat) : Int)) true).c = wrap64 (s.c + 1) ∧ (s.hit 1 ((lk + x : Nat) : Int) (s.get ((lk + x : Nat) : Int)) true).xs = s.xs from ⟨rfl, read_xs _ _ _ _⟩)
  by_cases hy : y = -1
  · have HEN := Lib.hid (show wkEnd n lk s.xs L = true by unfold wkEnd; rw [HLN.out]; exact decide_eq_true (.inl hy))
    subst hy
    go_quiet (fail)
    have HX4 := Lib.hid (HX3.out.up (Up.drewN _ nq))
    clear b1 b2 q2
    have b0 := HX4.out.row.cell (i := 0) rfl
    have f0 := HX4.out.row.frozen 0
    go_wp2_with fail
    first
      | refine bodyPost_ret (v := .tuple #[]) (by simp [results, Try.results61, go_sem]) rfl ?_
      | refine bodyPost_end (v := .tuple #[]) (by simp [results, Try.results61, go_sem]) rfl ?_
    exact ⟨rfl, _, HX4.out.end_ HSX.out.1 HSX.out.2 HEN.out⟩
  · have g1 : (y == -1) = false := by simpa using hy
    by_cases hl : N = n
    · have HEN := Lib.hid (show wkEnd n lk s.xs L = true by unfold wkEnd; rw [HM.out]; exact decide_eq_true (.inr hl))
      have g2 : ((N : Int) == c.ch) = true := by rw [← HNC.out, hl]; simp
      go_quiet (fail)
      have HX4 := Lib.hid (HX3.out.up (Up.drewN _ nq))
      clear b1 b2 q2
      have b0 := HX4.out.row.cell (i := 0) rfl
      have f0 := HX4.out.row.frozen 0
      go_wp2_with fail
      first
        | refine bodyPost_ret (v := .tuple #[]) (by simp [results, Try.results61, go_sem]) rfl ?_
        | refine bodyPost_end (v := .tuple #[]) (by simp [results, Try.results61, go_sem]) rfl ?_
      exact ⟨rfl, _, HX4.out.end_ HSX.out.1 HSX.out.2 HEN.out⟩
    · have HEN := Lib.hid (show wkEnd n lk s.xs L = false by unfold wkEnd; rw [HM.out, HLN.out]; exact decide_eq_false (fun h => h.elim hy hl))
      have g2 : ¬ (N : Int) = c.ch := by have := HNC.out; omega
      have g3 : ((N : Int) == c.ch) = false := by simpa using g2
      go_quiet (fail)
      have HX4 := Lib.hid (HX3.out.up (Up.drewN _ nq))
      clear b1 b2 q2
      obtain ⟨j, rfl⟩ : ∃ j : Nat, y = j := ⟨y.toNat, by have := HYI.out; omega⟩
      have b2 := HX4.out.row.cell (i := 2) (v := .slice (some ⟨r, 0, none⟩) N cp) rfl
      have f2 := HX4.out.row.frozen 2
      generalize w3.drewN nq = w4 at *
      go_wp2_with (at_builtin; refine wpList_app rfl _ _ rfl rfl rfl (HX4.out.ints.up (Up.alloc _ _)) (rd_one _ (j : Int)) (by rw [I_len, HM.out]; simp; omega) ?_; intro v5 w5 J5 G5 A5; obtain ⟨A5v, N5, c5v, rfl⟩ := shapeI J5; have HJ5 := Lib.hid J5; have HK5 := Lib.hid (HX4.out.more HSX.out.1 HSX.out.2 HEN.out HLN.out J5 G5 A5); have HG5 := Lib.hid ((Else.of_up (s := blk (.slice (some ⟨r, 0, none⟩) N cp)) (Up.alloc w4 (.cells #[.int .i64 (j : Int)] 3))).grown G5 (fun k hk => .inl (mem_blk.2 hk))); have b9 := HG5.out.kept b2 (fun h => HX4.out.vo.1 (mem_blk.1 h)); have f9 := (HG5.out.whole HX4.out.row (fun h => HX4.out.vo.1 (mem_blk.1 h))).frozen 2; clear J5 G5 A5)
      first
        | refine bodyPost_ret (v := .tuple #[]) (by simp [results, Try.results61, go_sem]) rfl ?_
        | refine bodyPost_end (v := .tuple #[]) (by simp [results, Try.results61, go_sem]) rfl ?_
      exact ⟨rfl, _, HK5.out⟩
end
end Go.Proofs.Yteofgnifpkcgmaa

/-
  Package chain: a Walk's Step, Done, List; it begins; where it is refused.
-/
namespace Go.Proofs.Yteofgnifpkcgmaa
open Go.RowKit
open W64
set_option maxRecDepth 100000
section
variable {w0 w w' : World} {q p g qs lk n b r m cp x : Nat} {c : Cf} {s s' : St} {v nx : Value} {L : List Nat} {fin : Bool}
theorem wkStep (R : Cha w q p g qs c lk n s) (M : WkM w b q v L false) (hL : L ≠ []) (ha : ∀ x ∈ L, x < n) (hle : L.length ≤ n) :
    Calls Try.prog 50 #[.pointer (some ⟨b, 0, none⟩)] w fun e w' => e = .returned (.bool true) ∧ ∃ v' s', s'.c = wrap64 (s.c + 1) ∧ s'.xs = s.xs ∧ WkOut w q p g qs c lk n s' b v v' (wkGo n lk s.xs L) (wkEnd n lk s.xs L) w' := by
  have B := M.row
  simp only [Bool.false_eq_true, if_false] at B
  refine (step_walk (B.cell rfl) (walk_load R B M.ints hL ha hle)).mono ?_
  rintro e w' ⟨rfl, v', O⟩
  obtain ⟨s', h1, h2, C⟩ := O.cha
  exact ⟨rfl, v', s', h1, h2, C, ⟨O.row, O.ints⟩, O.he, O.near⟩
theorem wkStep_no (M : WkM w b q v L true) : Calls Try.prog 50 #[.pointer (some ⟨b, 0, none⟩)] w fun e w' => e = .returned (.bool false) ∧ w = w' := by
  have B := M.row
  simp only [if_true] at B
  exact walkStep_end (B.cell rfl)
theorem wkDone (M : WkM w b q v L fin) : Calls Try.prog 51 #[.pointer (some ⟨b, 0, none⟩)] w fun e w' => e = .returned (.bool fin) ∧ w = w' := by
  have B := M.row
  cases fin
  · simp only [Bool.false_eq_true, if_false] at B
    exact walkDone_no (B.cell rfl)
  · simp only [if_true] at B
    exact walkDone_yes (B.cell rfl)
theorem wkList_no (M : WkM w b q v L false) : Calls Try.prog 49 #[.pointer (some ⟨b, 0, none⟩)] w fun e w' => e = .returned (.slice none 0 0) ∧ w = w' := by
  have H := Lib.hid (wkDone M)
  clear M
  go_enter Try.func49, Try.ntmps49
  go_wp2_with (go_at_call 51; refine H.out.mono ?_; rintro e w2 ⟨rfl, rfl⟩)
  go_ret
  exact ⟨rfl, rfl⟩
theorem wkList (M : WkM w b q v L true) (hl : L.length ≤ 8192) : Calls Try.prog 49 #[.pointer (some ⟨b, 0, none⟩)] w fun e w' => ∃ v', e = .returned v' ∧ Ints w' v' (I L) ∧ Fresh w v' ∧ Up w w' := by
  have H := Lib.hid (wkDone M)
  have b2 := M.row.cell (i := 2) (v := v) rfl
  have HJ := Lib.hid M.ints
  obtain ⟨A, N, cp, rfl⟩ := shapeI M.ints
  clear M
  go_enter Try.func49, Try.ntmps49
  go_wp2_with (first
    | (go_at_call 51; refine H.out.mono ?_; rintro e w2 ⟨rfl, rfl⟩)
    | (go_at_call 68; refine (clone_any HJ.out.rd (by rw [I_len]; exact hl)).mono ?_; rintro e w2 ⟨v', rfl, J, F, U⟩; obtain ⟨A2, N2, c2, rfl⟩ := shapeI J; have HJ2 := Lib.hid J; have HF := Lib.hid F; have HU := Lib.hid U; clear J F U))
  go_ret
  exact ⟨_, rfl, HJ2.out, HF.out, HU.out⟩
set_option maxHeartbeats 2000000 in
theorem chWalk (R : Cha w q p g qs c lk n s) {k : Nat} (hk : k < n) :
    Calls Try.prog 32 #[.pointer (some ⟨q, 0, none⟩), .int .i64 (k : Int)] w fun e w' => ∃ b v, e = .returned (.tuple #[.pointer (some ⟨b, 0, none⟩), .int .i64 0]) ∧ WkM w' b q v [k] false ∧ w.heap.size ≤ b ∧ Fresh w v ∧ Up w w' := by
  have HH := Lib.hid (chHas R (decide_eq_true (And.intro (Int.natCast_nonneg k) (show (k : Int) < (n : Int) by omega))))
  have hf := run_func
  clear R
  go_enter Try.func32, Try.ntmps32
  go_wp2_with (first
    | (go_at_call 46; (with_reducible refine HH.out.mono ?_); rintro e w2 ⟨rfl, rfl⟩))
  go_ret2
  refine ⟨_, .slice (some ⟨w.heap.size, 0, none⟩) 1 1, rfl, ⟨?_, ?_⟩, ?_, ?_, ?_⟩
  · have h := Whole.new (w.alloc (.cells #[.int .i64 (k : Int)] 3)) 105 #[meth 61 (w.heap.size + 1), .pointer (some ⟨q, 0, none⟩), .slice (some ⟨w.heap.size, 0, none⟩) 1 1]
    have e : (w.alloc (.cells #[.int .i64 (k : Int)] 3)).heap.size = w.heap.size + 1 := by simp
    rw [e] at h
    exact h
  · exact (ints_new w (k : Int)).up (Up.alloc _ _)
  · simp
  · intro j hj; simp [Value.ownBlock] at hj; omega
  · exact (Up.alloc _ _).then_alloc _
theorem chWalk_no (R : Cha w q p g qs c lk n s) {k : Int} (h : ¬ (0 ≤ k ∧ k < n)) :
    Calls Try.prog 32 #[.pointer (some ⟨q, 0, none⟩), .int .i64 k] w fun e w' => e = .returned (.tuple #[.pointer none, .int .i64 1]) ∧ w = w' := by
  have HH := Lib.hid (chHas R (decide_eq_false h))
  clear R h
  go_enter Try.func32, Try.ntmps32
  go_wp2_with (first
    | (go_at_call 46; (with_reducible refine HH.out.mono ?_); rintro e w2 ⟨rfl, rfl⟩))
  go_ret2
  exact ⟨rfl, rfl⟩
end
end Go.Proofs.Yteofgnifpkcgmaa

/-
  Package chain: New, and where it refuses.
-/
namespace Go.Proofs.Yteofgnifpkcgmaa
open Go.RowKit
open W64
set_option maxRecDepth 100000
section
variable {w w' : World} {q p g qs lk n b0 : Nat} {c : Cf} {s s' : St}
theorem box_cells {W : World} (B : Whole W b0 25 #[.int .i64 c.wk, .int .i64 c.ch, .int .i64 c.wo, .int .i64 c.sl, .int .i64 c.ca, .int .i64 c.ba]) (u : Up W w') : w'.cell? ⟨b0, 0, none⟩ = some (.int .i64 c.wk) ∧ w'.cell? ⟨b0, 1, none⟩ = some (.int .i64 c.ch) ∧ w'.cell? ⟨b0, 2, none⟩ = some (.int .i64 c.wo) ∧ w'.cell? ⟨b0, 3, none⟩ = some (.int .i64 c.sl) ∧ w'.cell? ⟨b0, 4, none⟩ = some (.int .i64 c.ca) ∧ w'.cell? ⟨b0, 5, none⟩ = some (.int .i64 c.ba) :=
  ⟨u.kept (B.cell rfl), u.kept (B.cell rfl), u.kept (B.cell rfl), u.kept (B.cell rfl), u.kept (B.cell rfl), u.kept (B.cell rfl)⟩
theorem ch_nums {c : Cf} {lk n L : Nat} (hm : mayB c = true) (hk : (lk : Int) = 3 + c.wk + 2 * c.sl) (hn : (n : Int) = c.ch) (hl : lenN c ≤ (L : Int)) :
    llinkN c 0 = (lk : Int) ∧ 1 ≤ n ∧ n ≤ 4096 ∧ lk + n < L ∧ 6 ≤ lk := by
  obtain ⟨h1, h2, h3, h4, h5, h6⟩ := may_small hm
  have h8 := lenN_is hm
  unfold fwN at h8
  refine ⟨?_, by omega, by omega, by omega, by omega⟩
  unfold llinkN; rw [atN_is hm (by omega) (by omega)]; omega
set_option maxHeartbeats 4000000 in
theorem chNew (m : Mem w p g s) (ok : s.Ok) (ht : s.xs.length ≤ 8388608) (hm : mayB c = true) (hr : (lk : Int) = 3 + c.wk + 2 * c.sl) (hn : (n : Int) = c.ch) (hl : lenN c ≤ (s.xs.length : Int)) :
    Calls Try.prog 30 #[.pointer (some ⟨p, 0, none⟩), c.v] w fun e w' => ∃ q qs, e = .returned (.tuple #[.pointer (some ⟨q, 0, none⟩), .int .i64 0]) ∧ Cha w' q p g qs c lk n s ∧ w.heap.size ≤ q ∧ w.heap.size ≤ qs ∧ Up w w' := by
  obtain ⟨n1, n2, n3, n4, n5⟩ := ch_nums hm hr hn hl
  have HN := Lib.hid (show newB s ((0 : Nat) : Int) ((lk : Nat) : Int) c.ch from ⟨by omega, by omega, ⟨by omega, by omega⟩, ⟨by omega, by omega⟩, ⟨by omega, by omega⟩, by omega⟩)
  obtain ⟨L, hL⟩ : ∃ L : Int, lenN c = L := ⟨_, rfl⟩
  obtain ⟨N, hN⟩ : ∃ N : Int, (s.xs.length : Int) = N := ⟨_, rfl⟩
  have i1 : ¬ N < L := by omega
  have H1 := Lib.hid hm
  have H2 := Lib.hid hL
  have H3 := Lib.hid hN
  have H4 := Lib.hid n1
  have HT := Lib.hid ht
  have HM := Lib.hid m
  have HR := Lib.hid (And.intro hm (And.intro hr hn))
  have HOK := Lib.hid (And.intro ok (And.intro n2 (And.intro n3 (And.intro n4 n5))))
  clear m ok ht hm hr hn hl hL hN n1 n2 n3 n4 n5
  obtain ⟨b0, hb0⟩ : ∃ b0, w.heap.size = b0 := ⟨_, rfl⟩
  have HB0 := Lib.hid (Whole.new w 25 #[.int .i64 c.wk, .int .i64 c.ch, .int .i64 c.wo, .int .i64 c.sl, .int .i64 c.ca, .int .i64 c.ba])
  rw [hb0] at HB0
  have HU0 := Lib.hid (Up.alloc w (.cells #[.int .i64 c.wk, .int .i64 c.ch, .int .i64 c.wo, .int .i64 c.sl, .int .i64 c.ca, .int .i64 c.ba] 25))
  go_enter Try.func30, Try.ntmps30
  go_upto_region 1 with fail
  clear hb0
  generalize w.alloc (.cells #[.int .i64 c.wk, .int .i64 c.ch, .int .i64 c.wo, .int .i64 c.sl, .int .i64 c.ca, .int .i64 c.ba] 25) = w1 at *
  have HM1 := Lib.hid (HM.out.up HU0.out)
  have e0 := cell_class (HB0.out.cell (i := 0) rfl)
  have e1 := cell_class (HB0.out.cell (i := 1) rfl)
  have e2 := cell_class (HB0.out.cell (i := 2) rfl)
  have e3 := cell_class (HB0.out.cell (i := 3) rfl)
  have e4 := cell_class (HB0.out.cell (i := 4) rfl)
  have e5 := cell_class (HB0.out.cell (i := 5) rfl)
  refine wp_region_up (Up.refl w1) (by kernel_rfl) (by kernel_rfl) ?_
  repeat (go_big_quiet_step (first
    | (go_at_call 56; (with_reducible exact up_class (may_is H1.out _)))
    | (go_at_call 58; (with_reducible exact same_class (len_to (HM1.out.up (UpOf.up _)) H3.out)))
    | (go_at_call 29; (with_reducible exact up_class (len_is H2.out _)))))
  refine wpQuiet_nil ?_
  rintro _ ⟨y, rfl⟩
  have HB2 := Lib.hid (HB0.out.up y.up)
  have HM2 := Lib.hid (HM1.out.up y.up)
  have HU2 := Lib.hid (HU0.out.trans y.up)
  clear e0 e1 e2 e3 e4 e5
  generalize y.w = w2 at *
  go_upto_region 3 with fail
  have HC0 := Lib.hid (show w2.drew.cell? ⟨b0, 0, none⟩ = some (.int .i64 c.wk) ∧ w2.drew.cell? ⟨b0, 1, none⟩ = some (.int .i64 c.ch) ∧ w2.drew.cell? ⟨b0, 2, none⟩ = some (.int .i64 c.wo) ∧ w2.drew.cell? ⟨b0, 3, none⟩ = some (.int .i64 c.sl) ∧ w2.drew.cell? ⟨b0, 4, none⟩ = some (.int .i64 c.ca) ∧ w2.drew.cell? ⟨b0, 5, none⟩ = some (.int .i64 c.ba) from box_cells HB2.out (up_drew w2))
  go_region_held3 (fun w' => w'.cell? ⟨b0, 0, none⟩ = some (.int .i64 c.wk) ∧ w'.cell? ⟨b0, 1, none⟩ = some (.int .i64 c.ch) ∧ w'.cell? ⟨b0, 2, none⟩ = some (.int .i64 c.wo) ∧ w'.cell? ⟨b0, 3, none⟩ = some (.int .i64 c.sl) ∧ w'.cell? ⟨b0, 4, none⟩ = some (.int .i64 c.ca) ∧ w'.cell? ⟨b0, 5, none⟩ = some (.int .i64 c.ba))
    ((first | with_reducible exact HC4.out | with_reducible exact HC3.out | with_reducible exact HC0.out))
    (first
      | (go_at_call 16; refine (link_is H4.out _).mono ?_; rintro e w3 ⟨rfl, U3⟩; have HU3 := Lib.hid ((up_drew w2).trans U3); have HC3 := Lib.hid (show w3.cell? ⟨b0, 0, none⟩ = some (.int .i64 c.wk) ∧ w3.cell? ⟨b0, 1, none⟩ = some (.int .i64 c.ch) ∧ w3.cell? ⟨b0, 2, none⟩ = some (.int .i64 c.wo) ∧ w3.cell? ⟨b0, 3, none⟩ = some (.int .i64 c.sl) ∧ w3.cell? ⟨b0, 4, none⟩ = some (.int .i64 c.ca) ∧ w3.cell? ⟨b0, 5, none⟩ = some (.int .i64 c.ba) from box_cells HB2.out HU3.out); clear U3)
      | (go_at_call 59; refine (snew_yes (HM2.out.up HU3.out) HT.out HN.out).mono ?_; rintro e w4 ⟨rfl, U4, S4⟩; have HU4 := Lib.hid (HU3.out.trans U4); have HS4 := Lib.hid S4; have HC4 := Lib.hid (show w4.cell? ⟨b0, 0, none⟩ = some (.int .i64 c.wk) ∧ w4.cell? ⟨b0, 1, none⟩ = some (.int .i64 c.ch) ∧ w4.cell? ⟨b0, 2, none⟩ = some (.int .i64 c.wo) ∧ w4.cell? ⟨b0, 3, none⟩ = some (.int .i64 c.sl) ∧ w4.cell? ⟨b0, 4, none⟩ = some (.int .i64 c.ca) ∧ w4.cell? ⟨b0, 5, none⟩ = some (.int .i64 c.ba) from box_cells HB2.out HU4.out); clear U4 S4))
  have HQ := Lib.hid (show w.heap.size ≤ w3.heap.size from (HU2.out.trans HU3.out).size)
  obtain ⟨qs, hqs⟩ : ∃ qs, w3.heap.size = qs := ⟨_, rfl⟩
  rw [hqs] at HS4 HQ ⊢
  clear hqs
  obtain ⟨d0, d1, d2, d3, d4, d5⟩ := HC4.out
  go_wp2_with fail
  go_ret2
  obtain ⟨hm, hr, hn⟩ := HR.out
  obtain ⟨ok, n2, n3, n4, n5⟩ := HOK.out
  have M4 := (HM2.out.up HU4.out).up (Up.alloc w4 (.cells (rooRow c p qs) 86))
  have S5 := HS4.out.up (Up.alloc w4 (.cells (rooRow c p qs) 86))
  rw [← hn] at S5
  refine ⟨_, qs, rfl, ⟨Whole.new w4 86 (rooRow c p qs), ⟨M4, S5, ok, S5.ne_type M4.top (by decide), S5.ne_type M4.row (by decide), n2, n3, by omega, by omega, HT.out, .inl (by omega)⟩, hm, hr, hn⟩, (HU2.out.trans HU4.out).size, HQ.out, (HU2.out.trans HU4.out).then_alloc _⟩
set_option maxHeartbeats 4000000 in
theorem chNew_small (m : Mem w p g s) (hm : mayB c = true) (hl : (s.xs.length : Int) < lenN c) :
    Calls Try.prog 30 #[.pointer (some ⟨p, 0, none⟩), c.v] w fun e w' => e = .returned (.tuple #[.pointer none, .int .i64 1]) ∧ Up w w' := by
  obtain ⟨L, hL⟩ : ∃ L : Int, lenN c = L := ⟨_, rfl⟩
  obtain ⟨N, hN⟩ : ∃ N : Int, (s.xs.length : Int) = N := ⟨_, rfl⟩
  have i1 : N < L := by omega
  have H1 := Lib.hid hm
  have H2 := Lib.hid hL
  have H3 := Lib.hid hN
  have HM := Lib.hid m
  clear m hm hl hL hN
  obtain ⟨b0, hb0⟩ : ∃ b0, w.heap.size = b0 := ⟨_, rfl⟩
  have HB0 := Lib.hid (Whole.new w 25 #[.int .i64 c.wk, .int .i64 c.ch, .int .i64 c.wo, .int .i64 c.sl, .int .i64 c.ca, .int .i64 c.ba])
  rw [hb0] at HB0
  have HU0 := Lib.hid (Up.alloc w (.cells #[.int .i64 c.wk, .int .i64 c.ch, .int .i64 c.wo, .int .i64 c.sl, .int .i64 c.ca, .int .i64 c.ba] 25))
  go_enter Try.func30, Try.ntmps30
  go_upto_region 1 with fail
  clear hb0
  generalize w.alloc (.cells #[.int .i64 c.wk, .int .i64 c.ch, .int .i64 c.wo, .int .i64 c.sl, .int .i64 c.ca, .int .i64 c.ba] 25) = w1 at *
  have HM1 := Lib.hid (HM.out.up HU0.out)
  have e0 := cell_class (HB0.out.cell (i := 0) rfl)
  have e1 := cell_class (HB0.out.cell (i := 1) rfl)
  have e2 := cell_class (HB0.out.cell (i := 2) rfl)
  have e3 := cell_class (HB0.out.cell (i := 3) rfl)
  have e4 := cell_class (HB0.out.cell (i := 4) rfl)
  have e5 := cell_class (HB0.out.cell (i := 5) rfl)
  refine wp_region_up (Up.refl w1) (by kernel_rfl) (by kernel_rfl) ?_
  repeat (go_big_quiet_step (first
    | (go_at_call 56; (with_reducible exact up_class (may_is H1.out _)))
    | (go_at_call 58; (with_reducible exact same_class (len_to (HM1.out.up (UpOf.up _)) H3.out)))
    | (go_at_call 29; (with_reducible exact up_class (len_is H2.out _)))))
  refine wpQuiet_nil ?_
  rintro _ ⟨y, rfl⟩
  go_wp2_with fail
  go_ret2
  exact ⟨rfl, HU0.out.trans y.up⟩
set_option maxHeartbeats 4000000 in
theorem chNew_bad (hm : mayB c = false) (w : World) (v : Value) :
    Calls Try.prog 30 #[v, c.v] w fun e w' => e = .returned (.tuple #[.pointer none, .int .i64 1]) ∧ Up w w' := by
  have H1 := Lib.hid hm
  clear hm
  obtain ⟨b0, hb0⟩ : ∃ b0, w.heap.size = b0 := ⟨_, rfl⟩
  have HB0 := Lib.hid (Whole.new w 25 #[.int .i64 c.wk, .int .i64 c.ch, .int .i64 c.wo, .int .i64 c.sl, .int .i64 c.ca, .int .i64 c.ba])
  rw [hb0] at HB0
  have HU0 := Lib.hid (Up.alloc w (.cells #[.int .i64 c.wk, .int .i64 c.ch, .int .i64 c.wo, .int .i64 c.sl, .int .i64 c.ca, .int .i64 c.ba] 25))
  go_enter Try.func30, Try.ntmps30
  go_upto_region 1 with fail
  clear hb0
  generalize w.alloc (.cells #[.int .i64 c.wk, .int .i64 c.ch, .int .i64 c.wo, .int .i64 c.sl, .int .i64 c.ca, .int .i64 c.ba] 25) = w1 at *
  have e0 := cell_class (HB0.out.cell (i := 0) rfl)
  have e1 := cell_class (HB0.out.cell (i := 1) rfl)
  have e2 := cell_class (HB0.out.cell (i := 2) rfl)
  have e3 := cell_class (HB0.out.cell (i := 3) rfl)
  have e4 := cell_class (HB0.out.cell (i := 4) rfl)
  have e5 := cell_class (HB0.out.cell (i := 5) rfl)
  refine wp_region_up (Up.refl w1) (by kernel_rfl) (by kernel_rfl) ?_
  repeat (go_big_quiet_step (first
    | (go_at_call 56; (with_reducible exact up_class (may_is H1.out _)))))
  refine wpQuiet_nil ?_
  rintro _ ⟨y, rfl⟩
  go_wp2_with fail
  go_ret2
  exact ⟨rfl, HU0.out.trans y.up⟩
end
end Go.Proofs.Yteofgnifpkcgmaa
