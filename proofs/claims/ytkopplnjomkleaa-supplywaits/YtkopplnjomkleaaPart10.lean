/-
  Texts beneath SupplyWaits, part 10: StackMem, Push, Push2, Push3, Pop, PopEnds, PushNew, StkData.
-/
import Derived.Test.YtkopplnjomkleaaPart9
import Derived.Laws.EntriesVeiled
import Derived.Deep.RegionHeldLaw
/-
  A stack's cells as a list of words (the head at 0, the links from 2 on): how a store turns them; the list from the top; the filled stack; each item once. Plain facts: no program is named here.
-/
namespace Go.Proofs.Ytkopplnjomkleaa.Stk

def hdOf (xs : List Int) : Int := xs.getD 0 0
def lkOf (xs : List Int) (i : Nat) : Int := xs.getD (2 + i) 0
theorem hdOf_set_head {xs : List Int} {v : Int} (h : 0 < xs.length) : hdOf (xs.set 0 v) = v := by simp [hdOf, List.getD, h]
theorem lkOf_set_head (xs : List Int) (v : Int) : lkOf (xs.set 0 v) = lkOf xs := by
  funext i
  unfold lkOf List.getD
  rw [List.getElem?_set_ne (by omega)]
theorem hdOf_set_link (xs : List Int) (y : Nat) (v : Int) : hdOf (xs.set (2 + y) v) = hdOf xs := by simp [hdOf, List.getD]
theorem lkOf_set_link {xs : List Int} {y : Nat} {v : Int} (h : 2 + y < xs.length) : lkOf (xs.set (2 + y) v) = upd (lkOf xs) y v := by
  funext i
  unfold lkOf upd
  by_cases e : i = y
  · subst e; simp [List.getD, h]
  · have : 2 + y ≠ 2 + i := by omega
    unfold List.getD
    rw [List.getElem?_set_ne this, if_neg e]

section
variable {n : Nat} {hd : Int} {lk : Nat → Int} {t : Nat} {S : List Nat} {m : Nat → Mach} {has : Nat → List Nat}
/-- The link of the one at place j leads to what stands below. -/
theorem Chain.get : ∀ {S : List Nat} {j : Nat}, Chain lk S → j < S.length → lk (S.getD j 0) = linkOf (S.drop (j + 1))
  | x :: r, 0, h, _ => by simpa using h.1
  | x :: r, j + 1, h, hj => by
    have := Chain.get (S := r) (j := j) h.2 (by simpa using hj)
    simpa using this
theorem linkOf_drop {S : List Nat} {j : Nat} (h : j < S.length) : linkOf (S.drop j) = S.getD j 0 + 1 := by
  rw [List.drop_eq_getElem_cons h]; simp [linkOf, List.getD, h]
theorem linkOf_end {S : List Nat} {j : Nat} (h : S.length ≤ j) : linkOf (S.drop j) = 0 := by rw [List.drop_eq_nil_of_le h]; rfl
theorem linkOf_zero {S : List Nat} (h : linkOf S = 0) : S = [] := by
  cases S with
  | nil => rfl
  | cons x r => simp [linkOf] at h; omega
theorem linkOf_pos {S : List Nat} {x : Nat} (h : linkOf S = x + 1) : ∃ r, S = x :: r := by
  cases S with
  | nil => simp [linkOf] at h; omega
  | cons y r => simp only [linkOf] at h; exact ⟨r, by rw [show y = x by omega]⟩
theorem take_more {S : List Nat} {j : Nat} (h : j < S.length) : S.take j ++ [S.getD j 0] = S.take (j + 1) := by
  rw [List.take_add_one]; simp [List.getD, h]
/-- The items, all of them: each is there just once. -/
theorem GI.once (g : GI n hd lk t S m has) {L : List Nat} (hL : L = S ++ (has 0 ++ puts (m 0)) ++ (has 1 ++ puts (m 1)) ++ (has 2 ++ puts (m 2)) ++ (has 3 ++ puts (m 3))) : L.length = n ∧ (∀ x ∈ L, x < n) ∧ L.Nodup := by
  refine all_once (fun x => ?_)
  have c := g.cnt x
  unfold sum4 at c
  dsimp only at c
  rw [hL]
  simp only [List.count_append]
  omega
theorem GI.len (g : GI n hd lk t S m has) : S.length ≤ n := by
  have h := (g.once rfl).1
  simp only [List.length_append] at h
  omega
theorem GI.nodup (g : GI n hd lk t S m has) : S.Nodup := by
  rw [List.nodup_iff_count]
  intro x
  have c := g.cnt x
  split at c <;> omega
/-- The filled stack. -/
theorem chain_range {lk : Nat → Int} {n : Nat} (h : ∀ i, i < n → lk i = if i + 1 < n then (i : Int) + 2 else 0) : ∀ k a, a + k = n → Chain lk (List.range' a k)
  | 0, _, _ => trivial
  | k + 1, a, e => by
    rw [List.range'_succ]
    refine ⟨?_, chain_range h k (a + 1) (by omega)⟩
    rw [h a (by omega)]
    cases k with
    | zero => rw [if_neg (by omega)]; rfl
    | succ k => rw [if_pos (by omega), List.range'_succ]; simp [linkOf]; omega
theorem GI.fill {n : Nat} {hd : Int} {lk : Nat → Int} (h0 : 0 < n) (h1 : n < 4294967295) (hh : hd = 1) (hl : ∀ i, i < n → lk i = if i + 1 < n then (i : Int) + 2 else 0) :
    GI n hd lk 0 (List.range n) (fun _ => .idle) (fun _ => []) := by
  refine ⟨?_, ?_, h1, fun x hx => ?_, fun x => ?_, fun _ _ => trivial⟩
  · cases n with
    | zero => omega
    | succ n => rw [List.range_eq_range', List.range'_succ]; simp [linkOf, hh]
  · rw [List.range_eq_range']; exact chain_range hl n 0 (by omega)
  · rw [hl x hx]; split <;> omega
  · rw [List.count_range]; simp [sum4, puts_idle]
end
end Go.Proofs.Ytkopplnjomkleaa.Stk

/-
  Package stack: the machine Push.
-/
namespace Go.Proofs.Ytkopplnjomkleaa
open Go.RowKit
open W64
section
variable {w w' : World} {p g q hd ln n b : Nat} {s : St} {v : Value} {l : List Nat} {i : Nat} {old : Int} {nx : Value}
theorem Ints.get {l : List Nat} (h : Ints w v (I l)) (hl : l ≠ []) : ∃ r cap, v = .slice (some ⟨r, 0, none⟩) l.length cap ∧ ∀ j, j < l.length → w.cell? ⟨r, j, none⟩ = some (.int .i64 ((l.getD j 0 : Nat) : Int)) := by
  obtain ⟨A, cap, e⟩ := h.slice
  rw [I_len] at e
  rw [e] at h
  unfold Ints at h
  rw [I_len] at h
  obtain ⟨r, hr, _⟩ := own_cell h (List.length_pos_iff.2 hl)
  refine ⟨r, cap, by rw [e, hr], fun j hj => ?_⟩
  obtain ⟨r', hr', hc⟩ := own_cell h hj
  rw [hr] at hr'; injection hr' with e2; injection e2 with e2; subst e2
  rw [hc]; simp [I, List.getD, hj]
theorem nextW_is {x i : Int} (i0 : -1 ≤ i) (i1 : i ≤ 4096) : headB i (nextT (x / 4294967296)) = true ∧ headN i (nextT (x / 4294967296)) = nextW x i := by
  have h : headB i (nextT (x / 4294967296)) = true := by
    rw [headB_iff]
    unfold nextT inB
    refine ⟨⟨i0, by omega⟩, ?_⟩
    split
    · rename_i h; simp at h; omega
    · omega
  exact ⟨h, by unfold nextW headV; rw [if_pos h]⟩
set_option maxHeartbeats 2000000 in
theorem sturn_any (E : Env w p g q hd ln n s) {x i : Int} (h0 : 0 ≤ x) (h1 : x < 18446744073709551616) (i0 : -1 ≤ i) (i1 : i < n) {c : Bool} {s' : St}
    (hc : ∀ {w1 : World}, Mem w1 p g s → Calls Try.prog 99 #[.pointer (some ⟨p, 0, none⟩), .int .i64 hd, .int .u64 x, .int .u64 (nextW x i)] w1 fun e w' => e = .returned (.tuple #[.bool c, .int .i64 0]) ∧ Mem w' p g s' ∧ Else [p, g] w1 w') :
    Calls Try.prog 97 #[.pointer (some ⟨q, 0, none⟩), .int .u64 x, .int .i64 i] w fun e w' => e = .returned (.bool c) ∧ Mem w' p g s' ∧ Else [p, g] w w' := by
  obtain ⟨c0, c1, _, _⟩ := E.cells
  have hq : q ∉ [p, g] := by simp [E.np, E.ng]
  have n1 := E.n1
  obtain ⟨b1, b2⟩ := nextW_is (x := x) i0 (by omega)
  have HB := Lib.hid b1
  have HM := Lib.hid E.mem
  have HC := Lib.hid (fun w1 => @hc w1)
  rw [← b2] at HC
  clear E b1 b2 hc
  go_enter Try.func97, Try.ntmps97
  go_upto_region 2 with (first
    | (go_at_call 64; refine (getHead_any x _ h0 h1).mono ?_; rintro e w1 ⟨rfl, U1⟩)
    | (go_at_call 98; refine (next_any _ _ _ _).mono ?_; rintro e w2 ⟨rfl, U2⟩)
    | (go_at_call 76; refine (putHead_yes _ _ _ HB.out).mono ?_; rintro e w3 ⟨rfl, U3⟩))
  have U := (U1.trans U2).trans U3
  have HU := Lib.hid (U.trans (up_drew w3))
  replace c0 := U.kept c0
  replace c1 := U.kept c1
  clear U1 U2 U3 U
  go_region_held3 (fun w' => w'.cell? ⟨q, 0, none⟩ = some (.pointer (some ⟨p, 0, none⟩)) ∧ w'.cell? ⟨q, 1, none⟩ = some (.int .i64 hd)) ((first | exact ⟨c0, c1⟩ | exact ⟨E4.kept c0 hq, E4.kept c1 hq⟩))
    (first
      | (go_at_call 99; refine (HC.out _ (HM.out.up HU.out)).mono ?_; rintro e w4 ⟨rfl, M4, E4⟩))
  go_wp2_with fail
  go_ret
  exact ⟨rfl, M4, (Else.of_up HU.out).trans E4⟩
theorem sturn_yes (E : Env w p g q hd ln n s) {x i : Int} (i0 : -1 ≤ i) (i1 : i < n) (hx : s.get hd = x) :
    Calls Try.prog 97 #[.pointer (some ⟨q, 0, none⟩), .int .u64 x, .int .i64 i] w fun e w' => e = .returned (.bool true) ∧ Mem w' p g (s.hit 3 hd (nextW x i) true) ∧ Else [p, g] w w' := by
  have hk := E.ok hd
  rw [hx] at hk
  exact sturn_any E hk.1 hk.2 i0 i1 (fun m => cas_yes _ m E.hasH hx)
theorem sturn_no (E : Env w p g q hd ln n s) {x i : Int} (h0 : 0 ≤ x) (h1 : x < 18446744073709551616) (i0 : -1 ≤ i) (i1 : i < n) (hx : s.get hd ≠ x) :
    Calls Try.prog 97 #[.pointer (some ⟨q, 0, none⟩), .int .u64 x, .int .i64 i] w fun e w' => e = .returned (.bool false) ∧ Mem w' p g (s.hit 3 hd (s.get hd) false) ∧ Else [p, g] w w' :=
  sturn_any E h0 h1 i0 i1 (fun m => cas_no _ m E.hasH hx)
end
end Go.Proofs.Ytkopplnjomkleaa

/-
  Package stack: the machine Push, its accesses.
-/
namespace Go.Proofs.Ytkopplnjomkleaa
open Go.RowKit
open W64
set_option maxRecDepth 100000
section
variable {w w' : World} {p g q hd ln n b : Nat} {s : St} {v : Value} {l : List Nat} {i : Nat} {old : Int} {nx : Value}
/-- A machine lies apart from the stack and its memory. -/
structure Apart (b p g q : Nat) (v : Value) : Prop where
  bp : b ≠ p
  bg : b ≠ g
  bq : b ≠ q
  vp : v.ownBlock ≠ some p
  vg : v.ownBlock ≠ some g
  vq : v.ownBlock ≠ some q
theorem Apart.b2 {v : Value} (A : Apart b p g q v) : b ∉ [p, g] := by simp [A.bp, A.bg]
theorem Apart.v2 {v : Value} (A : Apart b p g q v) : Away v [p, g] := by
  intro k hk; simp at hk; rcases hk with rfl | rfl
  · exact A.vp
  · exact A.vg
end
end Go.Proofs.Ytkopplnjomkleaa

/-
  Package stack: the machine Push, its last accesses, Step, Done.
-/
namespace Go.Proofs.Ytkopplnjomkleaa
open Go.RowKit
open W64
set_option maxRecDepth 100000
section
variable {w w' : World} {p g q hd ln n b : Nat} {s : St} {v : Value} {l : List Nat} {i : Nat} {old : Int} {nx : Value}
theorem topN_in {x : Int} (_ : 0 ≤ x) (hn : 1 ≤ n) : -1 ≤ topN n x ∧ topN n x < n := by
  unfold topN; split <;> omega
theorem belowN_in {x : Int} (h : 0 ≤ x) (hn : 1 ≤ n) : -1 ≤ belowN n x ∧ belowN n x < n := by
  unfold belowN; split <;> omega
/-! ### Done, Step -/
end
end Go.Proofs.Ytkopplnjomkleaa

/-
  Package stack: the machine Pop.
-/
namespace Go.Proofs.Ytkopplnjomkleaa
open Go.RowKit
open W64
set_option maxRecDepth 100000

/-- A Pop lies at b, over the stack at q: how many at most; its items l lie at v; the one below; the head that it loaded; the next access. -/
structure PopAt (w : World) (b q : Nat) (v : Value) (l : List Nat) (most : Nat) (deep old : Int) (nx : Value) : Prop where
  top : Whole w b 151 #[.pointer (some ⟨q, 0, none⟩), .int .i64 most, v, .int .i64 deep, .int .u64 old, nx]
  row : Ints w v (I l)
  away : v.ownBlock ≠ some b
section
variable {w w' : World} {p g q hd ln n b most : Nat} {s : St} {v v' : Value} {l l' : List Nat} {deep old : Int} {nx : Value}
theorem PopAt.up (P : PopAt w b q v l most deep old nx) (u : Up w w') : PopAt w' b q v l most deep old nx := ⟨P.top.up u, P.row.up u, P.away⟩
theorem PopAt.else (P : PopAt w b q v l most deep old nx) {t : List Nat} (u : Else t w w') (h1 : b ∉ t) (h2 : Away v t) : PopAt w' b q v l most deep old nx := ⟨u.whole P.top h1, P.row.else u h2, P.away⟩
theorem PopAt.cells (P : PopAt w b q v l most deep old nx) : w.cell? ⟨b, 0, none⟩ = some (.pointer (some ⟨q, 0, none⟩)) ∧ w.cell? ⟨b, 1, none⟩ = some (.int .i64 most) ∧ w.cell? ⟨b, 2, none⟩ = some v ∧ w.cell? ⟨b, 3, none⟩ = some (.int .i64 deep) ∧ w.cell? ⟨b, 4, none⟩ = some (.int .u64 old) ∧ w.cell? ⟨b, 5, none⟩ = some nx :=
  ⟨P.top.cell rfl, P.top.cell rfl, P.top.cell rfl, P.top.cell rfl, P.top.cell rfl, P.top.cell rfl⟩
theorem row_self {w : World} {v : Value} {xs : List Int} (h : Ints w v xs) (a : v.ownBlock ≠ some b) {i : Nat} (u : Value) : Ints (w.setCell ⟨b, i, none⟩ u) v xs :=
  h.else (Else.set (s := [b]) (Else.refl [b] w) (p := ⟨b, i, none⟩) (.inl (by simp)) u) (by intro k hk; simp at hk; subst hk; exact a)
theorem PopAt.next (P : PopAt w b q v l most deep old nx) (nx' : Value) : PopAt (w.setCell ⟨b, 5, none⟩ nx') b q v l most deep old nx' := ⟨P.top.set 5 nx', row_self P.row P.away _, P.away⟩
theorem PopAt.seen (P : PopAt w b q v l most deep old nx) (old' : Int) : PopAt (w.setCell ⟨b, 4, none⟩ (.int .u64 old')) b q v l most deep old' nx := ⟨P.top.set 4 _, row_self P.row P.away _, P.away⟩
theorem PopAt.below (P : PopAt w b q v l most deep old nx) (d : Int) : PopAt (w.setCell ⟨b, 3, none⟩ (.int .i64 d)) b q v l most d old nx := ⟨P.top.set 3 _, row_self P.row P.away _, P.away⟩
theorem PopAt.items (P : PopAt w b q v l most deep old nx) (r : Ints w v' (I l')) (a : v'.ownBlock ≠ some b) : PopAt (w.setCell ⟨b, 2, none⟩ v') b q v' l' most deep old nx := ⟨P.top.set 2 _, row_self r a _, a⟩
theorem Mem.self (M : Mem w p g s) (h1 : b ≠ p) (h2 : b ≠ g) (i : Nat) (u : Value) : Mem (w.setCell ⟨b, i, none⟩ u) p g s :=
  M.else (l := [b]) (Else.set (Else.refl [b] w) (p := ⟨b, i, none⟩) (.inl (by simp)) u) (by simp [h1.symm]) (by simp [h2.symm])
theorem Env.self (E : Env w p g q hd ln n s) (h1 : b ≠ p) (h2 : b ≠ g) (h3 : b ≠ q) (i : Nat) (u : Value) : Env (w.setCell ⟨b, i, none⟩ u) p g q hd ln n s :=
  E.else (l := [b]) (Else.set (Else.refl [b] w) (p := ⟨b, i, none⟩) (.inl (by simp)) u) (by simp [h1.symm]) (by simp [h2.symm]) (by simp [h3.symm])

set_option maxHeartbeats 2000000 in
theorem pop_load0 (E : Env w p g q hd ln n s) (P : PopAt w b q v l most deep old nx) (A : Apart b p g q v) (ht : topN n (s.get hd) = -1) :
    Calls Try.prog 82 #[.pointer (some ⟨b, 0, none⟩)] w fun e w' => e = .returned (.tuple #[]) ∧ PopAt w' b q (.slice none 0 0) [] most deep (s.get hd) .nilFunc ∧ Mem w' p g (s.hit 1 hd (s.get hd) true) ∧ Else [b, p, g] w w' := by
  obtain ⟨c0, _, c2, c3, c4, c5⟩ := P.cells
  obtain ⟨k0, k1, _, _⟩ := E.cells
  have hq : q ∉ [p, g] := by simp [E.np, E.ng]
  have hb := A.b2
  have hbq := A.bq
  have hk := E.ok hd
  have hh := Lib.hid E.hasH
  have HE := Lib.hid E
  have HP := Lib.hid P
  have HA := Lib.hid A
  have HT := Lib.hid ht
  have hf := run_func
  clear P E A ht
  go_enter Try.func82, Try.ntmps82
  go_upto_region 0 with fail
  go_region_held3 (fun w' => w'.cell? ⟨b, 0, none⟩ = some (.pointer (some ⟨q, 0, none⟩)) ∧ w'.cell? ⟨q, 0, none⟩ = some (.pointer (some ⟨p, 0, none⟩)) ∧ w'.cell? ⟨q, 1, none⟩ = some (.int .i64 hd)) ((first | exact ⟨c0, k0, k1⟩ | exact ⟨E1.kept c0 hb, E1.kept k0 hq, E1.kept k1 hq⟩ | exact ⟨kept_set (off_ne (by decide)) (E1.kept c0 hb), kept_set (ad_ne hbq) (E1.kept k0 hq), kept_set (ad_ne hbq) (E1.kept k1 hq)⟩))
    (first
      | (go_at_call 69; refine (load_in (HE.out.mem.up (up_drew w)) hh.out).mono ?_; rintro e w1 ⟨rfl, M1, E1⟩; have d3 := E1.kept (p := ⟨b, 4, none⟩) c4 hb; have g3 := (HP.out.else ((Else.of_up (up_drew w)).trans E1) HA.out.b2 HA.out.v2).top.frozen 4))
  have HE1 := Lib.hid ((Else.of_up (up_drew w)).trans E1)
  have P2 := Lib.hid ((HP.out.else HE1.out HA.out.b2 HA.out.v2).seen (s.get hd))
  have EE := Lib.hid ((HE.out.turn M1 HE1.out (HE.out.ok.hit 1 hd true hk.1 hk.2) (hit_len _ _ _ _ _)).self HA.out.bp HA.out.bg HA.out.bq 4 (.int .u64 (s.get hd)))
  have E3 : Else [b, p, g] w (w1.setCell ⟨b, 4, none⟩ (.int .u64 (s.get hd))) := else_self (HE1.out.wide b) (by simp)
  have E3 := Lib.hid E3
  clear d3 g3 M1 E1 HE1 c0 c2 c3 c4 c5 k0 k1
  generalize w1.setCell ⟨b, 4, none⟩ (.int .u64 (s.get hd)) = w2 at *
  have j2 := P2.out.cells.2.2.1
  have f2 := P2.out.top.frozen 2
  go_upto_region 2 with fail
  have P3 := Lib.hid (P2.out.items (v' := .slice none 0 0) (l' := []) (Ints.nil _) (by simp [Value.ownBlock]))
  have EF := Lib.hid (EE.out.self HA.out.bp HA.out.bg HA.out.bq 2 (.slice none 0 0))
  have E4 : Else [b, p, g] w (w2.setCell ⟨b, 2, none⟩ (.slice none 0 0)) := else_self E3.out (by simp)
  have E4 := Lib.hid E4
  clear j2 f2 P2 EE E3
  generalize w2.setCell ⟨b, 2, none⟩ (.slice none 0 0) = w3 at *
  have r0 := P3.out.cells.1
  have r4 := P3.out.cells.2.2.2.2.1
  go_region_held3 (fun w' => w'.cell? ⟨b, 0, none⟩ = some (.pointer (some ⟨q, 0, none⟩)) ∧ w'.cell? ⟨b, 4, none⟩ = some (.int .u64 (s.get hd))) ((first | exact ⟨r0, r4⟩ | exact ⟨U5.kept r0, U5.kept r4⟩))
    (first
      | (go_at_call 35; refine (ofHead_to (EF.out.up (up_drew w3)) hk.1 hk.2 HT.out).mono ?_; rintro e w5 ⟨rfl, U5⟩))
  have V := (up_drew w3).trans U5
  have P6 := Lib.hid (P3.out.up V)
  have M6 := Lib.hid (EF.out.mem.up V)
  have E6 := Lib.hid (E4.out.up V)
  have j5 := P6.out.cells.2.2.2.2.2
  have f5 := P6.out.top.frozen 5
  clear r0 r4 V U5
  go_wp2_with fail
  refine bodyPost_ret (v := .tuple #[]) (by simp [results, Try.results82, go_sem]) rfl ?_
  exact ⟨rfl, P6.out.next _, M6.out.self HA.out.bp HA.out.bg _ _, else_self E6.out (by simp)⟩

set_option maxHeartbeats 2000000 in
theorem pop_load1 (E : Env w p g q hd ln n s) (P : PopAt w b q v l most deep old nx) (A : Apart b p g q v) {t : Nat} (ht : topN n (s.get hd) = t) :
    Calls Try.prog 82 #[.pointer (some ⟨b, 0, none⟩)] w fun e w' => e = .returned (.tuple #[]) ∧ (∃ r cap, w.heap.size ≤ r ∧ PopAt w' b q (.slice (some ⟨r, 0, none⟩) 1 cap) [t] most deep (s.get hd) (meth 91 b)) ∧ Mem w' p g (s.hit 1 hd (s.get hd) true) ∧ Else [b, p, g] w w' := by
  obtain ⟨c0, _, c2, c3, c4, c5⟩ := P.cells
  obtain ⟨k0, k1, _, _⟩ := E.cells
  have hq : q ∉ [p, g] := by simp [E.np, E.ng]
  have hb := A.b2
  have hbq := A.bq
  have hk := E.ok hd
  have hh := Lib.hid E.hasH
  have HE := Lib.hid E
  have HP := Lib.hid P
  have HA := Lib.hid A
  have HT := Lib.hid ht
  have hf := run_func
  have ht0 : ((t : Int) == -1) = false := by simp
  clear P E A ht
  go_enter Try.func82, Try.ntmps82
  go_upto_region 0 with fail
  go_region_held3 (fun w' => w'.cell? ⟨b, 0, none⟩ = some (.pointer (some ⟨q, 0, none⟩)) ∧ w'.cell? ⟨q, 0, none⟩ = some (.pointer (some ⟨p, 0, none⟩)) ∧ w'.cell? ⟨q, 1, none⟩ = some (.int .i64 hd)) ((first | exact ⟨c0, k0, k1⟩ | exact ⟨E1.kept c0 hb, E1.kept k0 hq, E1.kept k1 hq⟩ | exact ⟨kept_set (off_ne (by decide)) (E1.kept c0 hb), kept_set (ad_ne hbq) (E1.kept k0 hq), kept_set (ad_ne hbq) (E1.kept k1 hq)⟩))
    (first
      | (go_at_call 69; refine (load_in (HE.out.mem.up (up_drew w)) hh.out).mono ?_; rintro e w1 ⟨rfl, M1, E1⟩; have d3 := E1.kept (p := ⟨b, 4, none⟩) c4 hb; have g3 := (HP.out.else ((Else.of_up (up_drew w)).trans E1) HA.out.b2 HA.out.v2).top.frozen 4))
  have HE1 := Lib.hid ((Else.of_up (up_drew w)).trans E1)
  have P2 := Lib.hid ((HP.out.else HE1.out HA.out.b2 HA.out.v2).seen (s.get hd))
  have EE := Lib.hid ((HE.out.turn M1 HE1.out (HE.out.ok.hit 1 hd true hk.1 hk.2) (hit_len _ _ _ _ _)).self HA.out.bp HA.out.bg HA.out.bq 4 (.int .u64 (s.get hd)))
  have E3 : Else [b, p, g] w (w1.setCell ⟨b, 4, none⟩ (.int .u64 (s.get hd))) := else_self (HE1.out.wide b) (by simp)
  have E3 := Lib.hid E3
  clear d3 g3 M1 E1 HE1 c0 c2 c3 c4 c5 k0 k1
  generalize w1.setCell ⟨b, 4, none⟩ (.int .u64 (s.get hd)) = w2 at *
  have j2 := P2.out.cells.2.2.1
  have f2 := P2.out.top.frozen 2
  go_upto_region 2 with fail
  have P3 := Lib.hid (P2.out.items (v' := .slice none 0 0) (l' := []) (Ints.nil _) (by simp [Value.ownBlock]))
  have EF := Lib.hid (EE.out.self HA.out.bp HA.out.bg HA.out.bq 2 (.slice none 0 0))
  have E4 : Else [b, p, g] w (w2.setCell ⟨b, 2, none⟩ (.slice none 0 0)) := else_self E3.out (by simp)
  have E4 := Lib.hid E4
  clear j2 f2 P2 EE E3
  generalize w2.setCell ⟨b, 2, none⟩ (.slice none 0 0) = w3 at *
  have r0 := P3.out.cells.1
  have r4 := P3.out.cells.2.2.2.2.1
  go_region_held3 (fun w' => w'.cell? ⟨b, 0, none⟩ = some (.pointer (some ⟨q, 0, none⟩)) ∧ w'.cell? ⟨b, 4, none⟩ = some (.int .u64 (s.get hd))) ((first | exact ⟨r0, r4⟩ | exact ⟨U5.kept r0, U5.kept r4⟩))
    (first
      | (go_at_call 35; refine (ofHead_to (EF.out.up (up_drew w3)) hk.1 hk.2 HT.out).mono ?_; rintro e w5 ⟨rfl, U5⟩))
  have V := (up_drew w3).trans U5
  have P6 := Lib.hid (P3.out.up V)
  have M6 := Lib.hid (EF.out.mem.up V)
  have E6 := Lib.hid (E4.out.up V)
  clear r0 r4 V U5 P3 EF E4
  have j2 := P6.out.cells.2.2.1
  obtain ⟨i9, hi, hz0, hz1, hz2⟩ := info_parts info_int
  have g63 : 0 + 1 ≤ maxLen := by unfold maxLen; omega
  have gby : (0 + 1) * 8 ≤ 140737488355328 := by omega
  have gba : 0 ≤ (w5.alloc (.cells #[.int .i64 (t : Int)] 3)).heap.size := Nat.zero_le _
  have hH : (w5.alloc (.cells #[.int .i64 (t : Int)] 3)).heap.size = w5.heap.size + 1 := by simp
  go_wp2_with (at_builtin; refine wpList_append_lies _ rfl _ _ 42 rfl 0 3 i9 (.int .i64 0) 1 8 Try.underlying42 hi hz0 hz1 hz2 rfl (by decide) (.slice none 0 0) 0 [] rfl (World.ownsRow_nil _ _ _ _) ⟨w5.heap.size, 0, none⟩ 1 1 [.int .i64 (t : Int)] rfl rfl (one_new _ _ _) (by simp [Value.oneCell']) (by decide) g63 gby gba _ hH ?_; intro gg cap2 wD hownD hgrow hat hltD; have HO := Lib.hid hownD; have VD := ((Up.refl w5).then_alloc (.cells #[.int .i64 (t : Int)] 3)).grown hgrow (fun k hk => by simp [Value.ownBlock] at hk); have P7 := Lib.hid (P6.out.up VD); have M7 := Lib.hid (M6.out.up VD); have E7 := Lib.hid (E6.out.up VD); have y2 := P7.out.cells.2.2.1; have y5 := P7.out.cells.2.2.2.2.2; have f2 := P7.out.top.frozen 2; have f5 := P7.out.top.frozen 5; have hgb : gg ≠ b := (by have h6 := P6.out.top.lt; rcases hat with h | h; simp [Value.ownBlock] at h; omega); clear hownD hgrow VD)
  go_end0
  have hg1 : gg = w5.heap.size + 1 := by
    rcases hat with h | h
    · simp [Value.ownBlock] at h
    · exact h
  have hsz := E6.out.size
  refine ⟨rfl, ⟨gg, cap2, by omega, ?_⟩, (M7.out.self HA.out.bp HA.out.bg _ _).self HA.out.bp HA.out.bg _ _, else_self (else_self E7.out (by simp)) (by simp)⟩
  exact (P7.out.items (v' := .slice (some ⟨gg, 0, none⟩) 1 cap2) (l' := [t]) (ints_of_own HO.out rfl rfl) (by simp [Value.ownBlock]; exact hgb)).next _
end
end Go.Proofs.Ytkopplnjomkleaa

/-
  Package stack: the machine Pop: the Load of a link, the exchange, Step, Done.
-/
namespace Go.Proofs.Ytkopplnjomkleaa
open Go.RowKit
open W64
set_option maxRecDepth 100000
section
variable {w w' : World} {p g q hd ln n b most : Nat} {s : St} {v v' : Value} {l l' : List Nat} {deep old : Int} {nx : Value}

theorem popDone_no {f : FuncId} (c5 : w.cell? ⟨b, 5, none⟩ = some (meth f b)) :
    Calls Try.prog 84 #[.pointer (some ⟨b, 0, none⟩)] w fun e w' => e = .returned (.bool false) ∧ w = w' := by
  unfold meth at c5
  have h1 := run_eql_func
  go_enter Try.func84, Try.ntmps84
  go_wp2_with fail
  go_ret
  exact ⟨rfl, rfl⟩
theorem popDone_yes (c5 : w.cell? ⟨b, 5, none⟩ = some .nilFunc) :
    Calls Try.prog 84 #[.pointer (some ⟨b, 0, none⟩)] w fun e w' => e = .returned (.bool true) ∧ w = w' := by
  have h1 := run_eql_nilFunc
  go_enter Try.func84, Try.ntmps84
  go_wp2_with fail
  go_ret
  exact ⟨rfl, rfl⟩
theorem popStep_end (c5 : w.cell? ⟨b, 5, none⟩ = some .nilFunc) :
    Calls Try.prog 83 #[.pointer (some ⟨b, 0, none⟩)] w fun e w' => e = .returned (.bool false) ∧ w = w' := by
  have h1 := Lib.hid c5
  go_enter Try.func83, Try.ntmps83
  go_wp2_with (go_at_call 84; refine (popDone_yes h1.out).mono ?_; rintro e w' ⟨rfl, rfl⟩)
  go_ret
  exact ⟨rfl, rfl⟩
theorem popStep_load {R : World → Prop} (c5 : w.cell? ⟨b, 5, none⟩ = some (meth 82 b)) (h : Calls Try.prog 82 #[.pointer (some ⟨b, 0, none⟩)] w fun e w' => e = .returned (.tuple #[]) ∧ R w') :
    Calls Try.prog 83 #[.pointer (some ⟨b, 0, none⟩)] w fun e w' => e = .returned (.bool true) ∧ R w' := by
  have h1 := Lib.hid c5
  have H := Lib.hid h
  unfold meth at c5
  clear h
  go_enter Try.func83, Try.ntmps83
  go_wp2_with (first
    | (go_at_call 84; refine (popDone_no h1.out).mono ?_; rintro e w' ⟨rfl, rfl⟩)
    | (go_at_call 82; refine H.out.mono ?_; rintro e w2 ⟨rfl, r2⟩))
  go_ret
  exact ⟨rfl, r2⟩
theorem popStep_link {R : World → Prop} (c5 : w.cell? ⟨b, 5, none⟩ = some (meth 91 b)) (h : Calls Try.prog 91 #[.pointer (some ⟨b, 0, none⟩)] w fun e w' => e = .returned (.tuple #[]) ∧ R w') :
    Calls Try.prog 83 #[.pointer (some ⟨b, 0, none⟩)] w fun e w' => e = .returned (.bool true) ∧ R w' := by
  have h1 := Lib.hid c5
  have H := Lib.hid h
  unfold meth at c5
  clear h
  go_enter Try.func83, Try.ntmps83
  go_wp2_with (first
    | (go_at_call 84; refine (popDone_no h1.out).mono ?_; rintro e w' ⟨rfl, rfl⟩)
    | (go_at_call 91; refine H.out.mono ?_; rintro e w2 ⟨rfl, r2⟩))
  go_ret
  exact ⟨rfl, r2⟩
theorem popStep_turn {R : World → Prop} (c5 : w.cell? ⟨b, 5, none⟩ = some (meth 95 b)) (h : Calls Try.prog 95 #[.pointer (some ⟨b, 0, none⟩)] w fun e w' => e = .returned (.tuple #[]) ∧ R w') :
    Calls Try.prog 83 #[.pointer (some ⟨b, 0, none⟩)] w fun e w' => e = .returned (.bool true) ∧ R w' := by
  have h1 := Lib.hid c5
  have H := Lib.hid h
  unfold meth at c5
  clear h
  go_enter Try.func83, Try.ntmps83
  go_wp2_with (first
    | (go_at_call 84; refine (popDone_no h1.out).mono ?_; rintro e w' ⟨rfl, rfl⟩)
    | (go_at_call 95; refine H.out.mono ?_; rintro e w2 ⟨rfl, r2⟩))
  go_ret
  exact ⟨rfl, r2⟩

set_option maxHeartbeats 1000000 in
theorem spop_in (m : Int) {most : Nat} (hm : min (max m 1) 8 = most) :
    Calls Try.prog 71 #[.pointer (some ⟨q, 0, none⟩), .int .i64 m] w fun e w' => e = .returned (.pointer (some ⟨w.heap.size, 0, none⟩)) ∧ PopAt w' w.heap.size q (.slice none 0 0) [] most 0 0 (meth 82 w.heap.size) ∧ Up w w' := by
  have hf := run_func
  have key : ∀ w1 : World, w1 = (w.alloc (.cells #[.pointer (some ⟨q, 0, none⟩), .int .i64 most, .slice none 0 0, .int .i64 0, .int .u64 0, meth 82 w.heap.size] 151)) → PopAt w1 w.heap.size q (.slice none 0 0) [] most 0 0 (meth 82 w.heap.size) ∧ Up w w1 := by
    rintro w1 rfl
    exact ⟨⟨Whole.new _ _ _, Ints.nil _, by simp [Value.ownBlock]⟩, Up.alloc _ _⟩
  have HK := Lib.hid key
  clear key
  rcases (show m < 1 ∨ m = 1 ∨ (1 < m ∧ m < 8) ∨ m = 8 ∨ 8 < m by omega) with h | rfl | ⟨h, h2⟩ | rfl | h
  · have e : (most : Int) = 1 := by omega
    rw [e] at HK
    clear hm e
    go_enter Try.func71, Try.ntmps71
    go_wp2_with fail
    go_ret
    exact ⟨rfl, HK.out _ rfl⟩
  · have e : (most : Int) = 1 := by omega
    rw [e] at HK
    clear hm e
    go_enter Try.func71, Try.ntmps71
    go_wp2_with fail
    go_ret
    exact ⟨rfl, HK.out _ rfl⟩
  · have e : (most : Int) = m := by omega
    rw [e] at HK
    clear hm e
    go_enter Try.func71, Try.ntmps71
    go_wp2_with fail
    go_ret
    exact ⟨rfl, HK.out _ rfl⟩
  · have e : (most : Int) = 8 := by omega
    rw [e] at HK
    clear hm e
    go_enter Try.func71, Try.ntmps71
    go_wp2_with fail
    go_ret
    exact ⟨rfl, HK.out _ rfl⟩
  · have e : (most : Int) = 8 := by omega
    rw [e] at HK
    clear hm e
    go_enter Try.func71, Try.ntmps71
    go_wp2_with fail
    go_ret
    exact ⟨rfl, HK.out _ rfl⟩
set_option maxHeartbeats 1000000 in
theorem got_not {f : FuncId} (c5 : w.cell? ⟨b, 5, none⟩ = some (meth f b)) :
    Calls Try.prog 85 #[.pointer (some ⟨b, 0, none⟩)] w fun e w' => e = .returned (.slice none 0 0) ∧ w = w' := by
  have h1 := Lib.hid c5
  go_enter Try.func85, Try.ntmps85
  go_wp2_with (go_at_call 84; refine (popDone_no h1.out).mono ?_; rintro e w' ⟨rfl, rfl⟩)
  go_ret
  exact ⟨rfl, rfl⟩
set_option maxHeartbeats 1000000 in
theorem got_nil (P : PopAt w b q (.slice none 0 0) l most deep old .nilFunc) :
    Calls Try.prog 85 #[.pointer (some ⟨b, 0, none⟩)] w fun e w' => e = .returned (.slice none 0 0) ∧ w = w' := by
  have h1 := Lib.hid P.cells.2.2.2.2.2
  have h2 := P.cells.2.2.1
  go_enter Try.func85, Try.ntmps85
  go_wp2_with (first
    | (go_at_call 84; refine (popDone_yes h1.out).mono ?_; rintro e w' ⟨rfl, rfl⟩)
    | (go_at_call 63; refine (clone_nil _).mono ?_; rintro e w' ⟨rfl, rfl⟩))
  go_ret
  exact ⟨rfl, rfl⟩
set_option maxHeartbeats 1000000 in
theorem got_in (P : PopAt w b q v l most deep old .nilFunc) (hl0 : l ≠ []) (hl : l.length ≤ 8192) :
    Calls Try.prog 85 #[.pointer (some ⟨b, 0, none⟩)] w fun e w' => ∃ r cap, e = .returned (.slice (some ⟨r, 0, none⟩) l.length cap) ∧ Ints w' (.slice (some ⟨r, 0, none⟩) l.length cap) (I l) ∧ w.heap.size ≤ r ∧ r < w'.heap.size ∧ Up w w' := by
  have h1 := Lib.hid P.cells.2.2.2.2.2
  have h2 := P.cells.2.2.1
  have hc := clone_in P.row.rd (by simpa [I] using hl0) (by rw [I_len]; exact hl)
  rw [I_len] at hc
  have HC := Lib.hid hc
  clear hc
  go_enter Try.func85, Try.ntmps85
  go_wp2_with (first
    | (go_at_call 84; refine (popDone_yes h1.out).mono ?_; rintro e w' ⟨rfl, rfl⟩)
    | (go_at_call 63; refine HC.out.mono ?_; rintro e w' ⟨r, cap, rfl, i1, i2, i3, i4⟩))
  go_ret
  exact ⟨r, cap, rfl, i1, i2, i3, i4⟩
end
end Go.Proofs.Ytkopplnjomkleaa

/-
  Package stack: Push begins.
-/
namespace Go.Proofs.Ytkopplnjomkleaa
open Go.RowKit
set_option maxRecDepth 100000
section
variable {w : World} {p g q hd ln n : Nat} {s : St} {l : List Nat} {v : Value}
end
end Go.Proofs.Ytkopplnjomkleaa

/-
  The machines of package stack as plain data: what they are behind each access, what the cells are. No function of the program is named here.
-/
namespace Go.Proofs.Ytkopplnjomkleaa
open Go.RowKit
open W64
set_option maxRecDepth 100000
/-- A Pop: 0: the Load of the head is next, 1: of a link, 2: the Cas. -/
structure Po where
  most : Nat
  i : Nat
  deep : Int
  old : Int
  l : List Nat
  fin : Bool
/-- A Push: i below len - 1: a link is next; len - 1: the Load of the head; len: the last link; len + 1: the Cas. -/
structure Pu where
  l : List Nat
  i : Nat
  old : Int
  fin : Bool
def Po.last (P : Po) : Nat := P.l.getD (P.l.length - 1) 0
def Po.go (n hd ln : Nat) (xs : List Int) (P : Po) : Po :=
  if P.i = 0 then
    if topN n (xs.getD hd 0) = -1 then ⟨P.most, 0, P.deep, xs.getD hd 0, [], true⟩
    else ⟨P.most, 1, P.deep, xs.getD hd 0, [(topN n (xs.getD hd 0)).toNat], false⟩
  else if P.i = 1 then
    if belowN n (xs.getD (ln + P.last) 0) = -1 ∨ P.l.length = P.most then ⟨P.most, 2, belowN n (xs.getD (ln + P.last) 0), P.old, P.l, false⟩
    else ⟨P.most, 1, belowN n (xs.getD (ln + P.last) 0), P.old, P.l ++ [(belowN n (xs.getD (ln + P.last) 0)).toNat], false⟩
  else ⟨P.most, 0, P.deep, P.old, P.l, decide (xs.getD hd 0 = P.old)⟩
def Po.xs (hd : Nat) (xs : List Int) (P : Po) : List Int := if P.i = 2 ∧ xs.getD hd 0 = P.old then xs.set hd (nextW P.old P.deep) else xs
def Pu.go (hd : Nat) (xs : List Int) (P : Pu) : Pu :=
  if P.i + 1 < P.l.length then ⟨P.l, P.i + 1, P.old, false⟩
  else if P.i + 1 = P.l.length then ⟨P.l, P.i + 1, xs.getD hd 0, false⟩
  else if P.i = P.l.length then ⟨P.l, P.i + 1, P.old, false⟩
  else ⟨P.l, P.l.length - 1, P.old, decide (xs.getD hd 0 = P.old)⟩
def Pu.xs (n hd ln : Nat) (xs : List Int) (P : Pu) : List Int :=
  if P.i + 1 < P.l.length then xs.set (ln + P.l.getD P.i 0) ((P.l.getD (P.i + 1) 0 : Nat) + 1)
  else if P.i + 1 = P.l.length then xs
  else if P.i = P.l.length then xs.set (ln + P.l.getD (P.l.length - 1) 0) (topN n P.old + 1)
  else if xs.getD hd 0 = P.old then xs.set hd (nextW P.old (P.l.getD 0 0 : Nat)) else xs
/-- What a Pop's numbers keep to. -/
structure Po.Ok (n : Nat) (P : Po) : Prop where
  m1 : 1 ≤ P.most
  m8 : P.most ≤ 8
  len : P.l.length ≤ P.most
  lt : ∀ x ∈ P.l, x < n
  i2 : P.i ≤ 2
  ne : P.i ≠ 0 → P.l ≠ []
  d2 : P.i = 2 → -1 ≤ P.deep ∧ P.deep < n
  o0 : 0 ≤ P.old
  o1 : P.old < 18446744073709551616
structure Pu.Ok (n : Nat) (P : Pu) : Prop where
  ne : P.l ≠ []
  lt : ∀ x ∈ P.l, x < n
  len : P.l.length ≤ 8192
  top : P.i ≤ P.l.length + 1
  o0 : 0 ≤ P.old
  o1 : P.old < 18446744073709551616
section
variable {n hd ln : Nat} {xs : List Int} {P : Po} {U : Pu}
abbrev Words (xs : List Int) : Prop := ∀ i : Nat, 0 ≤ xs.getD i 0 ∧ xs.getD i 0 < 18446744073709551616
theorem topN_nat {x : Int} (h0 : 0 ≤ x) (hn : 1 ≤ n) (h : ¬ topN n x = -1) : topN n x = ((topN n x).toNat : Int) ∧ (topN n x).toNat < n := by
  have := topN_in (n := n) h0 hn
  omega
theorem belowN_nat {x : Int} (h0 : 0 ≤ x) (hn : 1 ≤ n) (h : ¬ belowN n x = -1) : belowN n x = ((belowN n x).toNat : Int) ∧ (belowN n x).toNat < n := by
  have := belowN_in (n := n) h0 hn
  omega
theorem Po.Ok.go (K : P.Ok n) (hw : Words xs) (hn : 1 ≤ n) : (P.go n hd ln xs).Ok n := by
  obtain ⟨h1, h2, h3, h4, h5, h6, h7, h8, h9⟩ := K
  have a := hw hd
  have c := hw (ln + P.last)
  unfold Po.go
  split
  · split
    · exact ⟨h1, h2, by simp, by simp, by simp, by simp, by simp, a.1, a.2⟩
    · rename_i h
      have t := topN_nat a.1 hn h
      exact ⟨h1, h2, by simpa using h1, by simpa using t.2, by simp, by simp, by simp, a.1, a.2⟩
  · split
    · rename_i hi0 hi
      split
      · have b := belowN_in (n := n) c.1 hn
        exact ⟨h1, h2, h3, h4, by simp, fun _ => h6 (by omega), fun _ => b, h8, h9⟩
      · rename_i h
        have hb : ¬ belowN n (xs.getD (ln + P.last) 0) = -1 := fun e => h (.inl e)
        have hm : ¬ P.l.length = P.most := fun e => h (.inr e)
        have b := belowN_nat c.1 hn hb
        refine ⟨h1, h2, by simp; omega, ?_, by simp, by simp, by simp, h8, h9⟩
        intro x hx
        rcases List.mem_append.1 hx with hx | hx
        · exact h4 x hx
        · rw [List.mem_singleton] at hx; subst hx; exact b.2
    · exact ⟨h1, h2, h3, h4, by simp, by simp, by simp, h8, h9⟩
theorem Pu.Ok.go (K : U.Ok n) (hw : Words xs) : (U.go hd xs).Ok n := by
  obtain ⟨h1, h2, h3, h4, h5, h6⟩ := K
  have a := hw hd
  have hl := List.length_pos_iff.2 h1
  unfold Pu.go
  split
  · exact ⟨h1, h2, h3, by dsimp only; omega, h5, h6⟩
  · split
    · exact ⟨h1, h2, h3, by dsimp only; omega, a.1, a.2⟩
    · split
      · exact ⟨h1, h2, h3, by dsimp only; omega, h5, h6⟩
      · exact ⟨h1, h2, h3, by dsimp only; omega, h5, h6⟩
end
end Go.Proofs.Ytkopplnjomkleaa
