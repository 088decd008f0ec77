/-
  Texts beneath RootsPlay, part 11: LayWhat, LayLaws, OwnMore, RtObj, StackFill.
-/
import Derived.Test.YtalglhgngedjoaaGreatPart10
import Derived.OwnWalk
/-
  The contracts of package lay: a word's cell; what a cell is.
-/
namespace Go.Proofs.YtalglhgngedjoaaGreat
open Go.RowKit

/-- What's answer. -/
abbrev whatV (t : Int × Int × Int) : Value := .tuple #[.int .i64 t.1, .int .i64 t.2.1, .int .i64 t.2.2]
theorem ret_what {t : Int × Int × Int} {a b d : Int} (h : t = (a, b, d)) : Ending.returned (.tuple #[.int .i64 a, .int .i64 b, .int .i64 d]) = .returned (whatV t) := by subst h; rfl

end Go.Proofs.YtalglhgngedjoaaGreat

/-
  What the statements of layer 4 share: the call of 'first'.
-/
namespace Go.Proofs.YtalglhgngedjoaaGreat
open Go.RowKit

/-- The chapter's example's configuration. -/
abbrev smallC : Cf := ⟨2, 4, 8, 3, 0, 1⟩
theorem e1 : lrootN smallC 0 = 5 := by decide
theorem e2 : lwordN smallC 1 0 = 23 := by decide
theorem e3 : lenN smallC = 47 := by decide
theorem e4 : mayB smallC = true := by decide
theorem e5 : lpinN smallC 1 = 4 := by decide
theorem e6 : lslotN smallC 0 = 8 := by decide
theorem e7 : llinkN smallC 0 = 11 := by decide

theorem len_is {c : Cf} {r : Int} (e : lenN c = r) (w : World) :
    Calls Tryz.prog 22 #[c.v] w fun e w' => e = .returned (.int .i64 r) ∧ Up w w' := e ▸ laylen_any c w
theorem may_is {c : Cf} {r : Bool} (e : mayB c = r) (w : World) :
    Calls Tryz.prog 61 #[c.v] w fun e w' => e = .returned (.bool r) ∧ Up w w' := e ▸ may_any c w
theorem root_is {c : Cf} {i r : Int} (e : lrootN c i = r) (w : World) :
    Calls Tryz.prog 56 #[c.v, .int .i64 i] w fun e w' => e = .returned (.int .i64 r) ∧ Up w w' := e ▸ root_any c i w
theorem slot_is {c : Cf} {i r : Int} (e : lslotN c i = r) (w : World) :
    Calls Tryz.prog 64 #[c.v, .int .i64 i] w fun e w' => e = .returned (.int .i64 r) ∧ Up w w' := e ▸ slot_any c i w
end Go.Proofs.YtalglhgngedjoaaGreat

/-
  Blocks of unlike types are two. No program is named here.
-/
namespace Go.Proofs.YtalglhgngedjoaaGreat
open Go.RowKit
theorem Whole.ne_type {w : World} {a b : Nat} {t s : TypeId} {x y : Array Value} (h : Whole w a t x) (k : Whole w b s y) (hne : t ≠ s) : a ≠ b := by
  intro e
  subst e
  unfold Whole at h k
  rw [h] at k
  injection k with k
  injection k with _ k
  exact hne k
end Go.Proofs.YtalglhgngedjoaaGreat

/-
  Package roots: the slots over their cells (Roo); an object beside them (Ox); has, Spare.
-/
namespace Go.Proofs.YtalglhgngedjoaaGreat
open Go.RowKit
open W64
set_option maxRecDepth 100000
def rooRow (c : Cf) (p qs : Nat) : Array Value := #[.pointer (some ⟨p, 0, none⟩), .int .i64 c.wk, .int .i64 c.ch, .int .i64 c.wo, .int .i64 c.sl, .int .i64 c.ca, .int .i64 c.ba, .pointer (some ⟨qs, 0, none⟩)]
/-- The slots lie at q, over the memory at p (its cells at g), the spare ones at qs; the roots begin at r0; n slots. -/
structure Roo (w : World) (q p g qs : Nat) (c : Cf) (r0 n : Nat) (s : St) : Prop where
  obj : Whole w q 108 (rooRow c p qs)
  env : Env w p g qs 1 (r0 + n) n s
  may : mayB c = true
  hr : (r0 : Int) = 3 + c.wk
  hn : (n : Int) = c.sl
/-- An object at b beside the slots and their memory: nothing else has turned. -/
structure Ox (w0 : World) (b q p g : Nat) (t : TypeId) (rb rq : Array Value) (s : St) (w : World) : Prop where
  hb : Whole w b t rb
  hq : Whole w q 108 rq
  hm : Mem w p g s
  he : Else [b, p, g] w0 w
  n1 : b ≠ q
  n2 : b ≠ p
  n3 : b ≠ g
  n4 : q ≠ p
  n5 : q ≠ g
section
variable {w0 w w' : World} {q p g qs r0 n b d : Nat} {c : Cf} {s s' : St} {t : TypeId} {rb rq : Array Value} {M : World → Prop} {xs : List Int} {own : List Nat}
theorem Roo.qp (R : Roo w q p g qs c r0 n s) : q ≠ p := R.obj.ne_type R.env.mem.top (by decide)
theorem Roo.qg (R : Roo w q p g qs c r0 n s) : q ≠ g := R.obj.ne_type R.env.mem.row (by decide)
theorem Roo.qq (R : Roo w q p g qs c r0 n s) : q ≠ qs := R.obj.ne_type R.env.stk (by decide)
theorem Roo.turn (R : Roo w q p g qs c r0 n s) (m : Mem w' p g s') {x : List Nat} (u : Else x w w') (h1 : q ∉ x) (h2 : qs ∉ x) (ok : s'.Ok) (hl : s'.xs.length = s.xs.length) : Roo w' q p g qs c r0 n s' :=
  ⟨u.whole R.obj h1, R.env.went m u h2 ok hl, R.may, R.hr, R.hn⟩
theorem Roo.else (R : Roo w q p g qs c r0 n s) {x : List Nat} (u : Else x w w') (h : p ∉ x ∧ g ∉ x ∧ qs ∉ x ∧ q ∉ x) : Roo w' q p g qs c r0 n s :=
  ⟨u.whole R.obj h.2.2.2, R.env.else u h.1 h.2.1 h.2.2.1, R.may, R.hr, R.hn⟩
theorem Roo.up (R : Roo w q p g qs c r0 n s) (u : Up w w') : Roo w' q p g qs c r0 n s := ⟨R.obj.up u, R.env.up u, R.may, R.hr, R.hn⟩
theorem Roo.at (R : Roo w q p g qs c r0 n s) {k : Nat} (h : k < n) : lrootN c (k : Int) = ((r0 + k : Nat) : Int) ∧ r0 + k < s.xs.length := by
  have h1 := R.hr
  have h2 := R.hn
  have h3 := R.env.hl
  refine ⟨?_, by omega⟩
  unfold lrootN
  rw [atN_is R.may (by omega) (by omega)]
  omega
theorem Roo.n4 (R : Roo w q p g qs c r0 n s) : 4 ≤ r0 ∧ 1 ≤ n ∧ n ≤ 4096 := by
  have h1 := R.hr
  obtain ⟨h2, _⟩ := may_small R.may
  have := R.env.n0
  have := R.env.n1
  omega
/-- What one access of a machine leaves. -/
def POut (w : World) (q p g qs : Nat) (c : Cf) (r0 n : Nat) (s : St) (xs : List Int) (own : List Nat) (M : World → Prop) (w' : World) : Prop :=
  ∃ s', s'.c = wrap64 (s.c + 1) ∧ s'.xs = xs ∧ Roo w' q p g qs c r0 n s' ∧ M w' ∧ Else (own ++ [p, g]) w w'
theorem Ox.up (O : Ox w0 b q p g t rb rq s w) (u : Up w w') : Ox w0 b q p g t rb rq s w' := ⟨O.hb.up u, O.hq.up u, O.hm.up u, O.he.up u, O.n1, O.n2, O.n3, O.n4, O.n5⟩
theorem Ox.put (O : Ox w0 b q p g t rb rq s w) (i : Nat) (v : Value) : Ox w0 b q p g t (rb.setIfInBounds i v) rq s (w.setCell ⟨b, i, none⟩ v) := by
  have u : Else [b] w (w.setCell ⟨b, i, none⟩ v) := (Else.refl [b] w).set (.inl (by simp)) _
  exact ⟨O.hb.set i v, u.whole O.hq (by simp [O.n1.symm]), O.hm.else u (by simp [O.n2.symm]) (by simp [O.n3.symm]), O.he.trans (u.more (by simp)), O.n1, O.n2, O.n3, O.n4, O.n5⟩
theorem Ox.turn (O : Ox w0 b q p g t rb rq s w) (m : Mem w' p g s') (u : Else [p, g] w w') : Ox w0 b q p g t rb rq s' w' :=
  ⟨u.whole O.hb (by simp [O.n2, O.n3]), u.whole O.hq (by simp [O.n4, O.n5]), m, O.he.trans (u.wide b), O.n1, O.n2, O.n3, O.n4, O.n5⟩
theorem Ox.read (O : Ox w0 b q p g t rb rq s w) {k a : Int} {y : Bool} (m : Mem w' p g (s.hit k a (s.get a) y)) (u : Else [p, g] w w') : Ox w0 b q p g t rb rq (s.hit k a (s.get a) y) w' := O.turn m u
theorem Ox.out (O : Ox w0 b q p g t rb (rooRow c p qs) s' w) (R : Roo w0 q p g qs c r0 n s) (hq : b ≠ qs) (hc : s'.c = wrap64 (s.c + 1)) (ok : s'.Ok) (hl : s'.xs.length = s.xs.length) (hM : M w) : POut w0 q p g qs c r0 n s s'.xs [b] M w :=
  ⟨s', hc, rfl, R.turn O.hm O.he (by simp [O.n1.symm, O.n4, O.n5]) (by simp [hq.symm, R.env.np, R.env.ng]) ok hl, hM, O.he⟩
theorem Roo.ox (R : Roo w q p g qs c r0 n s) (B : Whole w b t rb) (h1 : t ≠ 108) (h2 : t ≠ 126) (h3 : t ≠ 90) : Ox w b q p g t rb (rooRow c p qs) s w :=
  ⟨B, R.obj, R.env.mem, Else.refl _ _, B.ne_type R.obj h1, B.ne_type R.env.mem.top h2, B.ne_type R.env.mem.row h3, R.qp, R.qg⟩
theorem rt_bd (x : Int) (h0 : 0 ≤ x) (h1 : x < 18446744073709551616) : (0 ≤ (rtOf x).g ∧ (rtOf x).g ≤ 4294967295) ∧ (0 ≤ (rtOf x).m ∧ (rtOf x).m ≤ 65535) := by
  unfold rtOf; dsimp only; omega
theorem getRoot_to {x : Int} (h0 : 0 ≤ x) (h1 : x < 18446744073709551616) {g m c o : Int} (hg : (rtOf x).g = g) (hm : (rtOf x).m = m) (hc : (rtOf x).c = c) (ho : (rtOf x).o = o) (w : World) :
    Calls Tryz.prog 55 #[.int .u64 x] w fun e w' => e = .returned (.agg #[.int .i64 g, .int .i64 m, .int .i64 c, .int .i64 o]) ∧ Up w w' := by
  subst hg hm hc ho; exact getRoot_any x w h0 h1
theorem live_to {g m c o gen : Int} {y : Bool} (h : liveB g m gen = y) (w : World) :
    Calls Tryz.prog 101 #[.agg #[.int .i64 g, .int .i64 m, .int .i64 c, .int .i64 o], .int .i64 gen] w fun e w' => e = .returned (.bool y) ∧ Up w w' := h ▸ live_any g m c o gen w
theorem putRoot_to {a m c o y : Int} {z : Bool} (h : rootV a m c o = y) (hz : rootB a m c o = z) (w : World) :
    Calls Tryz.prog 125 #[.agg #[.int .i64 a, .int .i64 m, .int .i64 c, .int .i64 o]] w fun e w' => e = .returned (.tuple #[.int .u64 y, .bool z]) ∧ Up w w' := by
  subst h hz; exact putRoot_any a m c o w
theorem chunk_to {a m c o y : Int} (h : chunkN m = y) (h1 : m < 9223372036854775808) (w : World) :
    Calls Tryz.prog 127 #[.agg #[.int .i64 a, .int .i64 m, .int .i64 c, .int .i64 o]] w fun e w' => e = .returned (.int .i64 y) ∧ Up w w' := by
  subst h; exact chunk_any a m c o w h1
theorem loadj_to {a x : Int} {j : Nat} (ha : a = (j : Int)) (m : Mem w p g s) (h : j < s.xs.length) (hx : s.xs.getD j 0 = x) :
    Calls Tryz.prog 100 #[.pointer (some ⟨p, 0, none⟩), .int .i64 a] w fun e w' => e = .returned (.tuple #[.int .u64 x, .int .i64 0]) ∧ Mem w' p g (s.hit 1 (j : Int) (s.get (j : Int)) true) ∧ Else [p, g] w w' := by
  subst ha hx
  rw [← get_at s j]
  exact load_in m ⟨by omega, by omega⟩
theorem storej_to {a : Int} {j : Nat} (y : Int) (ha : a = (j : Int)) (m : Mem w p g s) (h : j < s.xs.length) :
    Calls Tryz.prog 140 #[.pointer (some ⟨p, 0, none⟩), .int .i64 a, .int .u64 y] w fun e w' => e = .returned (.int .i64 0) ∧ Mem w' p g (s.hit 2 (j : Int) y true) ∧ Else [p, g] w w' := by
  subst ha; exact store_in y m ⟨by omega, by omega⟩
theorem casj_yes {a old : Int} {j : Nat} (v : Int) (ha : a = (j : Int)) (m : Mem w p g s) (h : j < s.xs.length) (hx : s.xs.getD j 0 = old) :
    Calls Tryz.prog 126 #[.pointer (some ⟨p, 0, none⟩), .int .i64 a, .int .u64 old, .int .u64 v] w fun e w' => e = .returned (.tuple #[.bool true, .int .i64 0]) ∧ Mem w' p g (s.hit 3 (j : Int) v true) ∧ Else [p, g] w w' := by
  subst ha; exact cas_yes v m ⟨by omega, by omega⟩ (by rw [get_at]; exact hx)
theorem casj_no {a old : Int} {j : Nat} (v : Int) (ha : a = (j : Int)) (m : Mem w p g s) (h : j < s.xs.length) (hx : s.xs.getD j 0 ≠ old) :
    Calls Tryz.prog 126 #[.pointer (some ⟨p, 0, none⟩), .int .i64 a, .int .u64 old, .int .u64 v] w fun e w' => e = .returned (.tuple #[.bool false, .int .i64 0]) ∧ Mem w' p g (s.hit 3 (j : Int) (s.get (j : Int)) false) ∧ Else [p, g] w w' := by
  subst ha; exact cas_no v m ⟨by omega, by omega⟩ (by rw [get_at]; exact hx)
theorem has_yes (R : Roo w q p g qs c r0 n s) {k : Int} (h0 : 0 ≤ k) (h1 : k < n) :
    Calls Tryz.prog 57 #[.pointer (some ⟨q, 0, none⟩), .int .i64 k] w fun e w' => e = .returned (.bool true) ∧ w = w' := by
  have c4 := R.obj.cell (i := 4) (v := .int .i64 c.sl) rfl
  have hk : k < c.sl := by have := R.hn; omega
  clear R
  go_enter Tryz.func57, Tryz.ntmps57
  go_wp2_with fail
  go_ret
  exact ⟨rfl, rfl⟩
theorem has_no (R : Roo w q p g qs c r0 n s) {k : Int} (h : ¬ (0 ≤ k ∧ k < n)) :
    Calls Tryz.prog 57 #[.pointer (some ⟨q, 0, none⟩), .int .i64 k] w fun e w' => e = .returned (.bool false) ∧ w = w' := by
  have c4 := R.obj.cell (i := 4) (v := .int .i64 c.sl) rfl
  have hn := R.hn
  clear R
  by_cases h0 : 0 ≤ k
  · have hk : ¬ k < c.sl := by omega
    clear h hn
    go_enter Tryz.func57, Tryz.ntmps57
    go_wp2_with fail
    go_ret
    exact ⟨rfl, rfl⟩
  · clear h hn
    go_enter Tryz.func57, Tryz.ntmps57
    go_wp2_with fail
    go_ret
    exact ⟨rfl, rfl⟩
end
end Go.Proofs.YtalglhgngedjoaaGreat

/-
  Package stack: Fill.
-/
namespace Go.Proofs.YtalglhgngedjoaaGreat
open Go.RowKit
open W64
set_option maxRecDepth 100000

/-- The links of the first k items are laid. -/
def fillK (s : St) (ln : Nat) : Nat → St
  | 0 => s
  | k + 1 => (fillK s ln k).lay ((ln : Int) + k) ((k : Int) + 2)
/-- The filled stack. -/
def fillS (s : St) (hd ln n : Nat) : St := ((fillK s ln (n - 1)).lay ((ln : Int) + n - 1) 0).lay hd 1
section
variable {w : World} {p g q hd ln n : Nat} {s : St}
theorem fillK_len (s : St) (ln : Nat) : ∀ k, (fillK s ln k).xs.length = s.xs.length
  | 0 => rfl
  | k + 1 => by unfold fillK; rw [lay_len, fillK_len s ln k]
theorem fillK_c (s : St) (ln : Nat) : ∀ k, (fillK s ln k).c = s.c
  | 0 => rfl
  | k + 1 => fillK_c s ln k
theorem fillK_ok {s : St} (h : s.Ok) (ln : Nat) : ∀ k, k ≤ 8192 → (fillK s ln k).Ok
  | 0, _ => h
  | k + 1, hk => (fillK_ok h ln k (by omega)).lay _ (by omega) (by omega)
def FillRel (w : World) (p g q hd ln n : Nat) (s : St) (i : Value) (wr : World) : Prop := ∃ k : Nat, k ≤ n - 1 ∧ i = .int .i64 k ∧ Env wr p g q hd ln n (fillK s ln k) ∧ Else [p, g] w wr
theorem fill_num {ln n k L : Nat} (h0 : 1 ≤ n) (h1 : n ≤ 4096) (hk : k ≤ n - 1) (h2 : ln + n ≤ L) (h3 : L ≤ 8388608) :
    IntKind.i64.wrap ((n : Int) - 1) = (n : Int) - 1 ∧ IntKind.i64.wrap ((ln : Int) + k) = ln + k ∧ IntKind.i64.wrap ((k : Int) + 1) = k + 1 ∧ IntKind.i64.wrap ((ln : Int) + n) = ln + n ∧ IntKind.i64.wrap ((ln : Int) + n - 1) = ln + n - 1 :=
  ⟨IntWalk.i64_in _ (by omega), IntWalk.i64_in _ (by omega), IntWalk.i64_in _ (by omega), IntWalk.i64_in _ (by omega), IntWalk.i64_in _ (by omega)⟩
theorem lay_to {w : World} {p g : Nat} {s s' : St} {i v : Int} (m : Mem w p g s) (h : s.has i) (hs : s.lay i v = s') :
    Calls Tryz.prog 70 #[.pointer (some ⟨p, 0, none⟩), .int .i64 i, .int .u64 v] w fun e w' => e = .returned (.int .i64 0) ∧ Mem w' p g s' ∧ Else [p, g] w w' := hs ▸ lay_in v m h
set_option maxHeartbeats 4000000 in
theorem fill_in (E : Env w p g q hd ln n s) :
    Calls Tryz.prog 69 #[.pointer (some ⟨q, 0, none⟩)] w fun e w' => e = .returned (.tuple #[]) ∧ Mem w' p g (fillS s hd ln n) ∧ Else [p, g] w w' := by
  obtain ⟨c0, c1, c2, c3⟩ := E.cells
  have n0 := E.n0
  have n1 := E.n1
  have hl := E.hl
  have ht := E.top
  have hok := Lib.hid E.ok
  have hq : q ∉ [p, g] := by simp [E.np, E.ng]
  have HE := Lib.hid E
  obtain ⟨s0, _, _, s3, s4⟩ := fill_num (k := 0) n0 n1 (Nat.zero_le _) hl ht
  clear E
  go_enter Tryz.func69, Tryz.ntmps69
  go_wp2_with fail
  go_loopw [10] (fun i wr => FillRel w p g q hd ln n s i wr) (fun i _ => n - (intOf i).toNat)
  case atStart => exact ⟨0, Nat.zero_le _, rfl, HE.out, Else.refl _ _⟩
  case round =>
    obtain ⟨k, hk, rfl, E1, X1⟩ := hrel
    have HE1 := Lib.hid E1
    have HX1 := Lib.hid X1
    clear E1 X1 c0 c1 c2 c3
    obtain ⟨c0, c1, c2, c3⟩ := HE1.out.cells
    by_cases hlt : k < n - 1
    · obtain ⟨_, s1, s2, _, _⟩ := fill_num n0 n1 hk hl ht
      have i1 : (k : Int) < (n : Int) - 1 := by omega
      have i0 : (0 : Int) ≤ (k : Int) := Int.natCast_nonneg _
      have e2 : (k : Int) + 1 + 1 = k + 2 := by omega
      have hh := Lib.hid (HE1.out.hasL (i := k) (by omega) (by omega))
      go_upto_region 3 with fail
      go_region_held3 (fun w' => w'.cell? ⟨q, 0, none⟩ = some (.pointer (some ⟨p, 0, none⟩)) ∧ w'.cell? ⟨q, 2, none⟩ = some (.int .i64 ln)) ((first | exact ⟨c0, c2⟩ | exact ⟨E5.kept c0 hq, E5.kept c2 hq⟩))
        (first
          | (go_at_call 115; refine (asLink_to e2 (by omega) (by omega) _).mono ?_; rintro e w9 ⟨rfl, rfl⟩)
          | (go_at_call 70; refine (lay_to (s' := fillK s ln (k + 1)) (HE1.out.mem.up (up_drew wr)) hh.out rfl).mono ?_; rintro e w5 ⟨rfl, M5, E5⟩))
      have HX := Lib.hid ((Else.of_up (up_drew wr)).trans E5)
      have HE5 := Lib.hid (HE1.out.turn M5 HX.out (fillK_ok hok.out ln (k + 1) (by omega)) (by rw [fillK_len, fillK_len]))
      clear M5 E5 c0 c1 c2 c3
      go_wp2_with fail
      go_roundw
      case rel => exact ⟨k + 1, by omega, by go_num, HE5.out, HX1.out.trans HX.out⟩
      case measure => simp [intOf]; omega
    · have hk2 : k = n - 1 := by omega
      have i1 : ¬ (k : Int) < (n : Int) - 1 := by omega
      have hh := Lib.hid (HE1.out.hasL (i := (n : Int) - 1) (by omega) (by omega))
      have e3 : (ln : Int) + ((n : Int) - 1) = ln + n - 1 := by omega
      rw [e3] at hh
      have e0 : (-1 : Int) + 1 = 0 := by omega
      have hB : headB 0 0 = true := by decide
      have hN : headN 0 0 = 1 := by decide
      have HB := Lib.hid hB
      have hp := putHead_yes 0 0
      have HPH := Lib.hid (fun w => hp w hB)
      rw [hN] at HPH
      have HK2 := Lib.hid hk2
      have HHD := Lib.hid HE1.out.hasH
      clear hB hN hp hk2
      go_upto_region 5 with fail
      go_region_held3 (fun w' => w'.cell? ⟨q, 0, none⟩ = some (.pointer (some ⟨p, 0, none⟩)) ∧ w'.cell? ⟨q, 2, none⟩ = some (.int .i64 ln) ∧ w'.cell? ⟨q, 3, none⟩ = some (.int .i64 n)) ((first | exact ⟨c0, c2, c3⟩ | exact ⟨E5.kept c0 hq, E5.kept c2 hq, E5.kept c3 hq⟩))
        (first
          | (go_at_call 115; refine (asLink_to e0 (by omega) (by omega) _).mono ?_; rintro e w9 ⟨rfl, rfl⟩)
          | (go_at_call 70; refine (lay_to (HE1.out.mem.up (up_drew wr)) hh.out rfl).mono ?_; rintro e w5 ⟨rfl, M5, E5⟩))
      have HX := Lib.hid ((Else.of_up (up_drew wr)).trans E5)
      have HE5 := Lib.hid (HE1.out.turn M5 HX.out ((fillK_ok hok.out ln k (by omega)).lay _ (by omega) (by omega)) (lay_len _ _ _))
      clear M5 E5 c0 c1 c2 c3
      obtain ⟨c0, c1, c2, c3⟩ := HE5.out.cells
      go_upto_region 7 with (go_at_call 116; refine (HPH.out _).mono ?_; rintro e w6 ⟨rfl, U6⟩)
      replace c0 := U6.kept c0
      replace c1 := U6.kept c1
      have HE6 := Lib.hid (HE5.out.up (U6.trans (up_drew w6)))
      have HX6 := Lib.hid (HX.out.up (U6.trans (up_drew w6)))
      clear c2 c3 U6
      have HHE := Lib.hid HE6.out.hasH
      go_region_held3 (fun w' => w'.cell? ⟨q, 0, none⟩ = some (.pointer (some ⟨p, 0, none⟩)) ∧ w'.cell? ⟨q, 1, none⟩ = some (.int .i64 hd)) ((first | exact ⟨c0, c1⟩ | exact ⟨E7.kept c0 hq, E7.kept c1 hq⟩))
        (first
          | (go_at_call 70; refine (lay_to HE6.out.mem HHE.out rfl).mono ?_; rintro e w7 ⟨rfl, M7, E7⟩))
      go_wp2_with fail
      go_end0
      refine ⟨rfl, ?_, (HX1.out.trans HX6.out).trans E7⟩
      rw [HK2.out] at M7
      exact M7
end
end Go.Proofs.YtalglhgngedjoaaGreat
