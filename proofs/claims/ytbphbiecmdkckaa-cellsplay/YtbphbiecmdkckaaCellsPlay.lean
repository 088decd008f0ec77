/-
  Proved: whatever is done to a memory, what each call answers, what each cell holds, how many accesses there were, and the last one, are what the chapter says ('Rows.CellsPlaySaid'). Conditions: none but those of the statement itself.
-/
import Derived.Test.YtbphbiecmdkckaaRows
import Derived.Test.YtbphbiecmdkckaaCellsLaws
import Derived.Test.YtbphbiecmdkckaaRefCells
import Derived.Test.YtbphbiecmdkckaaRowsIn
import Derived.Test.YtbphbiecmdkckaaQuietUp
import Derived.Test.YtbphbiecmdkckaaPlayFrame
import Derived.WalkKit
import Derived.ProofKit
import Derived.OpenShut
import Derived.ShutString
import Derived.ChangeOld
import Derived.Below
import Derived.Carry
import Derived.Lib.SmallJoins
import Derived.OwnWalk
import Derived.LoopTactic
import Derived.Deep.DeepCutAuto
import Derived.Deep.CutRange
import Derived.Deep.CutBlock
import Derived.BigQuiet
import Derived.Deep.QuietTactic
import Derived.StillTailTactics
namespace Go.Proofs.Ytbphbiecmdkckaa.cellsPlay
open Go.ChangeShapes Go.WideShapes Go.ChangeAt Go.RowKit Go.Joins Go.Proofs.Ytbphbiecmdkckaa W64
open Go.ChangeMaps (open_string shut_string)
set_option linter.unusedVariables false

theorem own : ownKnob Try.prog.godebug = none := by kernel_rfl
theorem laidOut : laidOutB Try.prog = true := by kernel_rfl

/-- The cells of the last access. -/
def lastCells (s : St) : Array Value := #[.int .i64 s.k, .int .i64 s.a, .int .u64 s.o, .int .u64 s.v, .bool s.y]
/-- The two memories and the variable of the last access: the same. -/
structure Both (wr : World) (A B C K : Nat) (s : St) : Prop where
  mem : Mem wr (A + 1) A s
  ref : Ref wr (B + 1) B s.xs s.c
  last : Whole wr C 32 (lastCells s)
  len : s.xs.length = K
theorem Both.up {wr w' : World} {A B C K : Nat} {s : St} (h : Both wr A B C K s) (u : Up wr w') : Both w' A B C K s := ⟨h.mem.up u, h.ref.up u, h.last.up u, h.len⟩
/-- What holds at the head of each round. -/
def Rel (w : World) (A B C K : Nat) (len : Nat) (i : Value) (wr : World) : Prop :=
  ∃ (k : Nat) (s : St), k ≤ len ∧ i = .int .i64 k ∧ Both wr A B C K s ∧ Up w wr
/-- The two memories, the variable of the last access, the thing that is done, amid the switch. -/
structure Mid (w wr : World) (A B C D : Nat) (dd : Array Value) (m : St) (xs : List Int) (c : Int) (s : St) : Prop where
  mem : Mem wr (A + 1) A m
  ref : Ref wr (B + 1) B xs c
  last : Whole wr C 32 (lastCells s)
  d : Whole wr D 37 dd
  up : Up w wr
def Ord (w : World) (A B C D : Nat) : Prop := w.heap.size ≤ A ∧ A + 1 < B ∧ B + 1 < C ∧ C < D
theorem Mid.m {w wr w6 : World} {A B C D : Nat} {dd : Array Value} {m m2 : St} {xs : List Int} {c : Int} {s : St} (h : Mid w wr A B C D dd m xs c s) (h2 : Mem w6 (A + 1) A m2) (e : Else [A + 1, A] wr w6) (o : Ord w A B C D) : Mid w w6 A B C D dd m2 xs c s := by
  obtain ⟨o1, o2, o3, o4⟩ := o
  exact ⟨h2, h.ref.else e (by simp; omega) (by simp; omega), e.whole h.last (by simp; omega), e.whole h.d (by simp; omega), Else.up_new h.up e (by simp; omega)⟩
theorem Mid.r {w wr w6 : World} {A B C D : Nat} {dd : Array Value} {m : St} {xs ys : List Int} {c c2 : Int} {s : St} (h : Mid w wr A B C D dd m xs c s) (h2 : Ref w6 (B + 1) B ys c2) (e : Else [B + 1, B] wr w6) (o : Ord w A B C D) : Mid w w6 A B C D dd m ys c2 s := by
  obtain ⟨o1, o2, o3, o4⟩ := o
  exact ⟨h.mem.else e (by simp; omega) (by simp; omega), h2, e.whole h.last (by simp; omega), e.whole h.d (by simp; omega), Else.up_new h.up e (by simp; omega)⟩
theorem Mid.up' {w wr w6 : World} {A B C D : Nat} {dd : Array Value} {m : St} {xs : List Int} {c : Int} {s : St} (h : Mid w wr A B C D dd m xs c s) (u : Up wr w6) : Mid w w6 A B C D dd m xs c s :=
  ⟨h.mem.up u, h.ref.up u, h.last.up u, h.d.up u, h.up.trans u⟩
theorem Mid.cells {w wr : World} {A B C D : Nat} {v0 v1 v2 v3 : Value} {m : St} {xs : List Int} {c : Int} {s : St} (h : Mid w wr A B C D #[v0, v1, v2, v3] m xs c s) :
    wr.cell? ⟨D, 0, none⟩ = some v0 ∧ wr.cell? ⟨D, 1, none⟩ = some v1 ∧ wr.cell? ⟨D, 2, none⟩ = some v2 ∧ wr.cell? ⟨D, 3, none⟩ = some v3 := ⟨h.d.cell rfl, h.d.cell rfl, h.d.cell rfl, h.d.cell rfl⟩
theorem Mid.lasts {w wr : World} {A B C D : Nat} {dd : Array Value} {m : St} {xs : List Int} {c : Int} {s : St} (h : Mid w wr A B C D dd m xs c s) :
    wr.cell? ⟨C, 0, none⟩ = some (.int .i64 s.k) ∧ wr.cell? ⟨C, 1, none⟩ = some (.int .i64 s.a) ∧ wr.cell? ⟨C, 2, none⟩ = some (.int .u64 s.o) ∧ wr.cell? ⟨C, 3, none⟩ = some (.int .u64 s.v) ∧ wr.cell? ⟨C, 4, none⟩ = some (.bool s.y) ∧ ∀ i, wr.frozen? ⟨C, i, none⟩ = false :=
  ⟨h.last.cell rfl, h.last.cell rfl, h.last.cell rfl, h.last.cell rfl, h.last.cell rfl, h.last.frozen⟩
/-- What holds behind the switch. -/
def After (w : World) (A B C D K : Nat) (dd : Array Value) (wr : World) : Prop := ∃ s : St, Mid w wr A B C D dd s s.xs s.c s ∧ s.xs.length = K
theorem Mid.after0 {w wr : World} {A B C D K : Nat} {dd : Array Value} {m : St} {xs : List Int} {c : Int} (h : Mid w wr A B C D dd m xs c m) (hx : xs = m.xs) (hc : c = m.c) (hl : m.xs.length = K) : After w A B C D K dd wr := by
  subst hx hc; exact ⟨m, h, hl⟩
/-- The last access is laid. -/
theorem Mid.after {w wr : World} {A B C D K : Nat} {dd : Array Value} {m : St} {xs : List Int} {c : Int} {s : St} (h : Mid w wr A B C D dd m xs c s) (hx : xs = m.xs) (hc : c = m.c) (hl : m.xs.length = K) (o : Ord w A B C D)
    {k a p v : Int} {y : Bool} (e : lastCells m = #[.int .i64 k, .int .i64 a, .int .u64 p, .int .u64 v, .bool y]) :
    After w A B C D K dd (((((wr.setCell ⟨C, 0, none⟩ (.int .i64 k)).setCell ⟨C, 1, none⟩ (.int .i64 a)).setCell ⟨C, 2, none⟩ (.int .u64 p)).setCell ⟨C, 3, none⟩ (.int .u64 v)).setCell ⟨C, 4, none⟩ (.bool y)) := by
  subst hx hc
  obtain ⟨o1, o2, o3, o4⟩ := o
  have E : Else [C] wr (((((wr.setCell ⟨C, 0, none⟩ (.int .i64 k)).setCell ⟨C, 1, none⟩ (.int .i64 a)).setCell ⟨C, 2, none⟩ (.int .u64 p)).setCell ⟨C, 3, none⟩ (.int .u64 v)).setCell ⟨C, 4, none⟩ (.bool y)) :=
    (((((Else.refl [C] wr).set (.inl (by simp)) _).set (.inl (by simp)) _).set (.inl (by simp)) _).set (.inl (by simp)) _).set (.inl (by simp)) _
  refine ⟨m, ⟨h.mem.else E (by simp; omega) (by simp; omega), h.ref.else E (by simp; omega) (by simp; omega), ?_, E.whole h.d (by simp; omega), Else.up_new h.up E (by simp; omega)⟩, hl⟩
  rw [e]
  exact ((((h.last.set 0 _).set 1 _).set 2 _).set 3 _).set 4 _
theorem set_same {xs : List Int} {n : Nat} {x : Int} (h : xs.getD n 0 = x) (hn : n < xs.length) : xs = xs.set n x := by
  subst h
  apply List.ext_getElem?
  intro i
  rw [List.getElem?_set]
  split
  · subst_vars; simp [hn, List.getD]
  · rfl
theorem hit_len {s : St} {K : Nat} (h : s.xs.length = K) (k i v : Int) (y : Bool) : (s.hit k i v y).xs.length = K := by simp [St.hit, h]
theorem lay_len {s : St} {K : Nat} (h : s.xs.length = K) (i v : Int) : (s.lay i v).xs.length = K := by simp [St.lay, h]
theorem hit_last {s : St} {k i v x : Int} {y : Bool} (hx : s.get i = x) : lastCells (s.hit k i v y) = #[.int .i64 k, .int .i64 i, .int .u64 x, .int .u64 v, .bool y] := by subst hx; rfl
theorem zero_last (n : Nat) : (St.zero n).last = .agg #[.int .i64 0, .int .i64 0, .int .u64 0, .int .u64 0, .bool false] := rfl
theorem zero_len (n : Nat) : ((St.zero n).xs.length : Int) = n := by simp [St.zero]
theorem rnew_is {n : Nat} {i : Int} (hi : i = n) (h1 : n ≤ 8388608) (w : World) :
    Calls Try.prog 13 #[.int .i64 i] w fun e w' => e = .returned (.pointer (some ⟨w.heap.size + 1, 0, none⟩)) ∧ Ref w' (w.heap.size + 1) w.heap.size (List.replicate n 0) 0 ∧ Up w w' := by
  subst hi; exact rnew_in n h1 w
theorem n_set {xs : List Int} {n : Nat} {v : Int} (h : n < xs.length) : n < (xs.set n v).length := by simpa using h
theorem getD_set {xs : List Int} {n : Nat} {v : Int} (h : n < xs.length) : (xs.set n v).getD n 0 = v := by simp [List.getD, h]
theorem radd_to {w : World} {p g : Nat} {xs ys : List Int} {c v x : Int} {n : Nat} (m : Ref w p g xs c) (h : n < xs.length) (hx : xs.getD n 0 = x) (hy : xs.set n (IntKind.u64.wrap (x + v)) = ys) :
    Calls Try.prog 21 #[.pointer (some ⟨p, 0, none⟩), .int .i64 (n : Int), .int .u64 v] w fun e w' => e = .returned (.int .u64 x) ∧ Ref w' p g ys (wrap64 (c + 1)) ∧ Else [p, g] w w' := by
  subst hx hy; exact radd_in v m h
theorem Mid.lay {w wr : World} {A B C D : Nat} {dd : Array Value} {m : St} {xs : List Int} {c : Int} {s : St} (h : Mid w wr A B C D dd m xs c s) (o : Ord w A B C D) (n : Nat) (v : Int) :
    Mid w (wr.setCell ⟨B, n, none⟩ (.int .u64 v)) A B C D dd m (xs.set n v) c s :=
  h.r (h.ref.set n v) ((Else.refl _ _).set (.inl (by simp)) _) o
theorem last_agg (s : St) : s.last = .agg #[.int .i64 s.k, .int .i64 s.a, .int .u64 s.o, .int .u64 s.v, .bool s.y] := rfl
theorem both_of {w wr : World} {A B C D K : Nat} {dd : Array Value} {s : St} (h : Mid w wr A B C D dd s s.xs s.c s) (hl : s.xs.length = K) : Both wr A B C K s := ⟨h.mem, h.ref, h.last, hl⟩
theorem Mid.after1 {w wr : World} {A B C D K : Nat} {dd : Array Value} {m : St} {xs : List Int} {c : Int} {s : St} (h : Mid w wr A B C D dd m xs c s) (e : lastCells m = lastCells s) (hx : xs = m.xs) (hc : c = m.c) (hl : m.xs.length = K) : After w A B C D K dd wr := by
  subst hx hc
  exact ⟨m, ⟨h.mem, h.ref, e ▸ h.last, h.d, h.up⟩, hl⟩
theorem After.up {w wr w' : World} {A B C D K : Nat} {dd : Array Value} (h : After w A B C D K dd wr) (u : Up wr w') : After w A B C D K dd w' := by
  obtain ⟨s, h, hl⟩ := h
  exact ⟨s, h.up' u, hl⟩

set_option maxRecDepth 100000 in
set_option maxHeartbeats 20000000 in
theorem walk (a0 : Int) (a1 : Option Addr) (len1 cap1 : Nat) (z1 : Nat → Nat → Int) (w : World) (w0 : (Lit.int .i64 a0).wf = true) (w1 : IsRows [.i64, .i64, .u64, .u64] w a1 len1 cap1 z1) :
    Calls Try.prog 3 #[.int .i64 a0, .slice a1 len1 cap1] w fun e w' => e = .returned (.bool true) ∧ Up w w' := by
  have HC := Lib.hid (fun k hk => w1.four (i := k) hk)
  have hm := w1.len_le
  unfold maxLen at hm
  clear w0 w1
  by_cases h60 : 60 < len1
  · have h61 : (60 : Int) < (len1 : Int) := by omega
    go_enter Try.func3, Try.ntmps3
    go_wp2_with ((go_at_call 8; refine (first_any _).mono ?_; rintro e w1 ⟨rfl, U1⟩))
    go_ret
    exact ⟨rfl, U1⟩
  · have h61 : (len1 : Int) ≤ 60 := by omega
    obtain ⟨q, hq, _, q0, q1⟩ := emod_letter a0 9 (by decide)
    obtain ⟨K, hK⟩ : ∃ K : Nat, 1 + q = K := ⟨(1 + q).toNat, by omega⟩
    have HQ := Lib.hid hq
    have K0 : 1 ≤ K := by omega
    have K1 : K ≤ 8388608 := by omega
    clear hq
    go_enter Try.func3, Try.ntmps3
    go_wp2_with (first
      | (go_at_call 8; refine (first_any _).mono ?_; rintro e w1 ⟨rfl, U1⟩)
      | (go_at_call 9; (with_reducible refine (number_is HQ.out (by decide) (by decide) _).mono ?_); rintro e w' ⟨rfl, rfl⟩)
      | (go_at_call 10; (with_reducible refine (new_in K K0 K1 w1).mono ?_); rintro e w2 ⟨rfl, M2, U2⟩; replace M2 := Lib.hid M2)
      | (go_at_call 11; (with_reducible refine (len_to M2.out (zero_len K)).mono ?_); rintro e w' ⟨rfl, rfl⟩)
      | (go_at_call 12; (with_reducible refine (last_to M2.out (zero_last K)).mono ?_); rintro e w3 ⟨rfl, U3⟩)
      | (go_at_call 13; (with_reducible refine (rnew_in K K1 w3).mono ?_); rintro e w4 ⟨rfl, R4, U4⟩; replace R4 := Lib.hid R4))
    have l2 := M2.out.top.lt
    have l3 := U3.le
    have l4 := R4.out.top.lt
    have l1 := U1.le
    have hB : Both (w4.alloc (.cells #[.int .i64 0, .int .i64 0, .int .u64 0, .int .u64 0, .bool false] 32)) w1.heap.size w3.heap.size w4.heap.size K (St.zero K) :=
      ⟨(M2.out.up (U3.trans U4)).up (Up.alloc _ _), R4.out.up (Up.alloc _ _), Whole.new _ _ _, by simp [St.zero]⟩
    have hU : Up w (w4.alloc (.cells #[.int .i64 0, .int .i64 0, .int .u64 0, .int .u64 0, .bool false] 32)) := ((U1.trans (U2.trans U3)).trans U4).then_alloc _
    clear M2 R4 U1 U2 U3 U4
    generalize (w4.alloc (.cells #[.int .i64 0, .int .i64 0, .int .u64 0, .int .u64 0, .bool false] 32)) = wS at *
    generalize w1.heap.size = A at *
    generalize w2.heap.size = A2 at *
    generalize w3.heap.size = B at *
    generalize w4.heap.size = C at *
    have hAB : A + 1 < B := by omega
    have hwA : w.heap.size ≤ A := l1
    have hBC : B + 1 < C := l4
    clear l1 l2 l3 l4
    replace hB := Lib.hid hB
    replace hU := Lib.hid hU
    refine wp_loop (fun a w' => ∃ i, Head (.slice a1 len1 cap1) A B C K i a ∧ Rel w A B C K len1 i w') (Mu len1) ?atStart ?round
    case atStart => exact ⟨_, ⟨rfl, rfl, rfl, rfl, rfl, rfl, rfl, rfl, rfl⟩, 0, _, Nat.zero_le _, rfl, hB.out, hU.out⟩
    case round =>
      rintro a wr ⟨i, hd, k, s, hk, rfl, hup0⟩
      obtain ⟨hB, hup⟩ := hup0
      rw [hd.mu len1 wr]
      refine hd.wp ?_
      intro u0 u2 u3 u4 u8 u12 u13 u14 u15 u16 u17 u18 u19 u20 u21 u22 u23 u24 u25 u26 u27 u28 u29 u30 u31 u32 u33 u34 u35 u36 u37 u38 u39 u40 u41 u42 u43 u44 u45 u46 u47 u48 u49 u50 u51 u52 u53 u54 u55 u56 u57 u58 u59 u60 u61 u62 u63 u64 u65 u66 u67 u68 u69 u70 u71 u72 u73 u74 u75 u76 u77 u78 u79 u80 u81 u82 u83 u84 u85 u86 u87 u88 u89 u90 u91 u92 u93 u94 u95 u96 u97 u98 u99 u100 u101 u102 u103 u104 u105 u106 u107 u108 u109 u110 u111 u112 u113 u114 u115 u116 u117 u118 u119 u120 u121 u122 u123 u124 u125 u126 u127 u128 u129 u130 u131 u132 u133 u134 u135 u136 u137 u138 u139 u140 u141 u142 u143 u144 u145 u146 u147 u148 u149 u150 u151 u152 u153 u154 u155 u156 u157 u158 u159 u160 u161 u162 u163 u164 u165 u166 u167 u168 u169 u170 u171 u172 u173 u174 u175 u176 u177 u178 u179 u180 u181 u182 u183 u184 u185 u186 u187 u188 u189 u190 u191 u192 u193 u194 u195 u196 u197 u198 u199 u200 u201 u202 u203 u204 u205 u206 u207 u208 u209 u210 u211 u212 u213 u214 u215 u216 u217 u218 u219 u220 u221 u222 u223 u224 u225 u226 u227 u228 u229 u230 u231 u232 u233 u234 u235 u236 u237 u238 u239 u240 u241 u242 u243 u244 u245 u246 u247 u248 u249 u250 u251 u252 u253 u254 u255 u256 u257 u258 u259 u260 u261 u262 u263 u264 u265 u266 u267 u268 u269 u270 u271 u272 u273 u274 u275 u276 u277 u278 u279 u280 u281 u282
      clear hd
      replace hB := Lib.hid hB
      by_cases hlt : k < len1
      · obtain ⟨b, off, rfl, hb, c0, c1, c2, c3⟩ := HC.out k hlt
        clear HC
        generalize z1 k 0 = x0 at *
        generalize z1 k 1 = x1 at *
        generalize z1 k 2 = x2 at *
        generalize z1 k 3 = x3 at *
        replace c0 := hup.kept c0
        replace c1 := hup.kept c1
        replace c2 := hup.kept c2
        replace c3 := hup.kept c3
        have i0 : (0 : Int) ≤ (k : Int) := Int.natCast_nonneg _
        have i1 : (k : Int) < (len1 : Int) := by omega
        have lC := hB.out.last.lt
        by_cases hin : 0 ≤ x1 ∧ x1 < K
        · obtain ⟨h0, h1⟩ := hin
          obtain ⟨n, rfl⟩ := Int.eq_ofNat_of_zero_le h0
          go_upto_region 19 with fail
          have hD : Whole (wr.alloc (.cells #[.int .i64 x0, .int .i64 n, .int .u64 x2, .int .u64 x3] 37)) wr.heap.size 37 #[.int .i64 x0, .int .i64 n, .int .u64 x2, .int .u64 x3] := Whole.new _ _ _
          have hB2 := hB.out.up (Up.alloc wr (.cells #[.int .i64 x0, .int .i64 n, .int .u64 x2, .int .u64 x3] 37))
          have hup2 := hup.then_alloc (.cells #[.int .i64 x0, .int .i64 n, .int .u64 x2, .int .u64 x3] 37)
          clear c0 c1 c2 c3 hB hup
          generalize (wr.alloc (.cells #[.int .i64 x0, .int .i64 n, .int .u64 x2, .int .u64 x3] 37)) = wD at *
          generalize wr.heap.size = D at *
          have hCD : C < D := lC
          obtain ⟨x, hx⟩ : ∃ x, s.get n = x := ⟨_, rfl⟩
          have hn : n < s.xs.length := by have := hB2.len; omega
          have hl := hB2.len
          have r0 := hB2.ref.cells.1
          have rn := hB2.ref.cell hn
          have gx : s.xs.getD n 0 = x := hx
          rw [gx] at rn
          rw [hl] at r0
          have d1 := hD.cell (i := 1) (v := .int .i64 n) rfl
          have HX := Lib.hid hx
          have HD := Lib.hid hD
          have HB := Lib.hid hB2
          clear gx hx hD hB2 hl
          go_quiet (fail)
          have hE : Mid w (wD.drewN nq) A B C D #[.int .i64 x0, .int .i64 n, .int .u64 x2, .int .u64 x3] s s.xs s.c s := ⟨HB.out.mem.up (Up.drewN _ _), HB.out.ref.up (Up.drewN _ _), HB.out.last.up (Up.drewN _ _), HD.out.up (Up.drewN _ _), hup2.then_drewN _⟩
          have HLN := Lib.hid HB.out.len
          have HN := Lib.hid hn
          have HG := Lib.hid (show s.xs.getD n 0 = x from HX.out)
          have HH := Lib.hid (show s.has n from ⟨by omega, by omega⟩)
          have ORD : Ord w A B C D := ⟨hwA, hAB, hBC, hCD⟩
          replace ORD := Lib.hid ORD
          clear HB HD hup2 r0 rn d1
          have MID := Lib.hid hE
          obtain ⟨d0, d1, d2, d3⟩ := hE.cells
          clear hE
          generalize wD.drewN nq = wE at *
          obtain ⟨r, hr, _, r0, r1⟩ := emod_letter x0 6 (by decide)
          have HR := Lib.hid hr
          clear hr
          go_upto_block 2 with (go_at_call 9; (with_reducible refine (number_is HR.out (by decide) (by decide) _).mono ?_); rintro e w' ⟨rfl, rfl⟩)
          refine wp_cut (fun a' w' => Tail (.slice (some ⟨b, off, none⟩) len1 cap1) A B C K D true (.int .i64 k) a' ∧ After w A B C D K #[.int .i64 x0, .int .i64 n, .int .u64 x2, .int .u64 x3] w') ?rest ?first
          case first =>
            intro J Kx hJ hKx
            rcases (show r = 0 ∨ r = 1 ∨ r = 2 ∨ r = 3 ∨ r = 4 ∨ r = 5 by omega) with rfl | rfl | rfl | rfl | rfl | rfl
            · go_wp2_with (first
                | (go_at_call 9; (with_reducible refine (number_is HR.out (by decide) (by decide) _).mono ?_); rintro e w' ⟨rfl, rfl⟩)
                | (go_at_call 14; (with_reducible refine (load_to MID.out.mem HH.out HX.out rfl).mono ?_); rintro e w5 ⟨rfl, M5, E5⟩; replace MID := Lib.hid (MID.out.m M5 E5 ORD.out); clear d0 d1 d2 d3 M5 E5; obtain ⟨d0, d1, d2, d3⟩ := MID.out.cells)
                | (go_at_call 15; (with_reducible refine (rload_in MID.out.ref HN.out).mono ?_); rintro e w5 ⟨rfl, M5, E5⟩; replace MID := Lib.hid (MID.out.r M5 E5 ORD.out); clear d0 d1 d2 d3 M5 E5; obtain ⟨d0, d1, d2, d3⟩ := MID.out.cells; obtain ⟨t0, t1, t2, t3, t4, tf⟩ := MID.out.lasts))
              refine Met.intro (hJ _ _ ⟨⟨rfl, rfl, rfl, rfl, rfl, rfl, rfl, rfl, rfl, rfl, rfl⟩, ?_⟩)
              exact MID.out.after (set_same HX.out HN.out) rfl (hit_len HLN.out _ _ _ _) ORD.out (hit_last HX.out)
            · go_wp2_with (first
                | (go_at_call 9; (with_reducible refine (number_is HR.out (by decide) (by decide) _).mono ?_); rintro e w' ⟨rfl, rfl⟩)
                | (go_at_call 16; (with_reducible refine (store_to MID.out.mem HH.out rfl).mono ?_); rintro e w5 ⟨rfl, M5, E5⟩; replace MID := Lib.hid (MID.out.m M5 E5 ORD.out); clear d0 d1 d2 d3 M5 E5; obtain ⟨d0, d1, d2, d3⟩ := MID.out.cells)
                | (go_at_call 17; (with_reducible refine (rstore_in _ MID.out.ref HN.out).mono ?_); rintro e w5 ⟨rfl, M5, E5⟩; replace MID := Lib.hid (MID.out.r M5 E5 ORD.out); clear d0 d1 d2 d3 M5 E5; obtain ⟨d0, d1, d2, d3⟩ := MID.out.cells; obtain ⟨t0, t1, t2, t3, t4, tf⟩ := MID.out.lasts))
              refine Met.intro (hJ _ _ ⟨⟨rfl, rfl, rfl, rfl, rfl, rfl, rfl, rfl, rfl, rfl, rfl⟩, ?_⟩)
              exact MID.out.after (rfl) rfl (hit_len HLN.out _ _ _ _) ORD.out (hit_last HX.out)
            · by_cases hv : x = x2
              · subst hv
                go_upto_region 47 with (first
                  | (go_at_call 9; (with_reducible refine (number_is HR.out (by decide) (by decide) _).mono ?_); rintro e w' ⟨rfl, rfl⟩)
                  | (go_at_call 18; (with_reducible refine (cas_yes _ MID.out.mem HH.out HX.out).mono ?_); rintro e w5 ⟨rfl, M5, E5⟩; replace MID := Lib.hid (MID.out.m M5 E5 ORD.out); clear d0 d1 d2 d3 M5 E5; obtain ⟨d0, d1, d2, d3⟩ := MID.out.cells)
                  | (go_at_call 19; (with_reducible refine (rcas_yes _ MID.out.ref HN.out HG.out).mono ?_); rintro e w5 ⟨rfl, M5, E5⟩; replace MID := Lib.hid (MID.out.r M5 E5 ORD.out); clear d0 d1 d2 d3 M5 E5; obtain ⟨d0, d1, d2, d3⟩ := MID.out.cells; obtain ⟨t0, t1, t2, t3, t4, tf⟩ := MID.out.lasts))
                have r0 := MID.out.ref.cells.1
                have rn := MID.out.ref.cell (n_set HN.out)
                rw [List.length_set, HLN.out] at r0
                rw [getD_set HN.out] at rn
                go_still_tail 13, (by kernel_rfl)
                go_wp2_with fail
                refine Met.intro (hJ _ _ ⟨⟨rfl, rfl, rfl, rfl, rfl, rfl, rfl, rfl, rfl, rfl, rfl⟩, ?_⟩)
                exact After.up (MID.out.after rfl rfl (hit_len HLN.out _ _ _ _) ORD.out (hit_last HX.out)) (Up.drewN _ 1)
              · have hg : s.get n ≠ x2 := by rw [HX.out]; exact hv
                have HV := Lib.hid hg
                have HW := Lib.hid (show s.xs.getD n 0 ≠ x2 from hg)
                clear hg
                go_upto_region 47 with (first
                  | (go_at_call 9; (with_reducible refine (number_is HR.out (by decide) (by decide) _).mono ?_); rintro e w' ⟨rfl, rfl⟩)
                  | (go_at_call 18; (with_reducible refine (cas_no _ MID.out.mem HH.out HV.out).mono ?_); rintro e w5 ⟨rfl, M5, E5⟩; replace MID := Lib.hid (MID.out.m M5 E5 ORD.out); clear d0 d1 d2 d3 M5 E5; obtain ⟨d0, d1, d2, d3⟩ := MID.out.cells)
                  | (go_at_call 19; (with_reducible refine (rcas_no _ MID.out.ref HN.out HW.out).mono ?_); rintro e w5 ⟨rfl, M5, E5⟩; replace MID := Lib.hid (MID.out.r M5 E5 ORD.out); clear d0 d1 d2 d3 M5 E5; obtain ⟨d0, d1, d2, d3⟩ := MID.out.cells; obtain ⟨t0, t1, t2, t3, t4, tf⟩ := MID.out.lasts))
                have r0 := MID.out.ref.cells.1
                have rn := MID.out.ref.cell HN.out
                rw [HLN.out] at r0
                rw [show s.xs.getD n 0 = x from HX.out] at rn
                go_still_tail 13, (by kernel_rfl)
                go_wp2_with fail
                refine Met.intro (hJ _ _ ⟨⟨rfl, rfl, rfl, rfl, rfl, rfl, rfl, rfl, rfl, rfl, rfl⟩, ?_⟩)
                have HM := MID.out
                rw [HX.out] at HM
                exact After.up (HM.after (set_same HX.out HN.out) rfl (hit_len HLN.out _ _ _ _) ORD.out (hit_last HX.out)) (Up.drewN _ 1)
            · go_wp2_with (first
                | (go_at_call 9; (with_reducible refine (number_is HR.out (by decide) (by decide) _).mono ?_); rintro e w' ⟨rfl, rfl⟩)
                | (go_at_call 20; (with_reducible refine (add_to MID.out.mem HH.out HX.out rfl).mono ?_); rintro e w5 ⟨rfl, M5, E5⟩; replace MID := Lib.hid (MID.out.m M5 E5 ORD.out); clear d0 d1 d2 d3 M5 E5; obtain ⟨d0, d1, d2, d3⟩ := MID.out.cells)
                | (go_at_call 21; (with_reducible refine (radd_to MID.out.ref HN.out HG.out rfl).mono ?_); rintro e w5 ⟨rfl, M5, E5⟩; replace MID := Lib.hid (MID.out.r M5 E5 ORD.out); clear d0 d1 d2 d3 M5 E5; obtain ⟨d0, d1, d2, d3⟩ := MID.out.cells; obtain ⟨t0, t1, t2, t3, t4, tf⟩ := MID.out.lasts))
              refine Met.intro (hJ _ _ ⟨⟨rfl, rfl, rfl, rfl, rfl, rfl, rfl, rfl, rfl, rfl, rfl⟩, ?_⟩)
              exact MID.out.after (rfl) rfl (hit_len HLN.out _ _ _ _) ORD.out (hit_last HX.out)
            · go_wp2_with (first
                | (go_at_call 9; (with_reducible refine (number_is HR.out (by decide) (by decide) _).mono ?_); rintro e w' ⟨rfl, rfl⟩)
                | (go_at_call 22; (with_reducible refine (peek_to MID.out.mem HH.out HX.out).mono ?_); rintro e w' ⟨rfl, rfl⟩))
              refine Met.intro (hJ _ _ ⟨⟨rfl, rfl, rfl, rfl, rfl, rfl, rfl, rfl, rfl, rfl, rfl⟩, ?_⟩)
              exact MID.out.after0 rfl rfl HLN.out
            · go_upto_region 27 with (first
                | (go_at_call 9; (with_reducible refine (number_is HR.out (by decide) (by decide) _).mono ?_); rintro e w' ⟨rfl, rfl⟩)
                | (go_at_call 23; (with_reducible refine (lay_in _ MID.out.mem HH.out).mono ?_); rintro e w5 ⟨rfl, M5, E5⟩; replace MID := Lib.hid (MID.out.m M5 E5 ORD.out); clear d0 d1 d2 d3 M5 E5; obtain ⟨d0, d1, d2, d3⟩ := MID.out.cells))
              have r0 := MID.out.ref.cells.1
              have rn := MID.out.ref.cell HN.out
              have rf := MID.out.ref.row.frozen
              rw [HLN.out] at r0
              go_still_tail 9, (by kernel_rfl)
              go_wp2_with fail
              refine Met.intro (hJ _ _ ⟨⟨rfl, rfl, rfl, rfl, rfl, rfl, rfl, rfl, rfl, rfl, rfl⟩, ?_⟩)
              exact After.up ((MID.out.lay ORD.out n x2).after1 rfl rfl rfl (lay_len HLN.out _ _)) (Up.drewN _ 1)
          case rest =>
            rintro a wc ⟨hd, hcut⟩
            refine hd.k ?_
            intro u0 u2 u3 u4 u8 u14 u15 u16 u17 u18 u19 u20 u21 u22 u23 u24 u25 u26 u27 u28 u29 u30 u31 u32 u33 u34 u35 u36 u37 u38 u39 u40 u41 u42 u43 u44 u45 u46 u47 u48 u49 u50 u51 u52 u53 u54 u55 u56 u57 u58 u59 u60 u61 u62 u63 u64 u65 u66 u67 u68 u69 u70 u71 u72 u73 u74 u75 u76 u77 u78 u79 u80 u81 u82 u83 u84 u85 u86 u87 u88 u89 u90 u91 u92 u93 u94 u95 u96 u97 u98 u99 u100 u101 u102 u103 u104 u105 u106 u107 u108 u109 u110 u111 u112 u113 u114 u115 u116 u117 u118 u119 u120 u121 u122 u123 u124 u125 u126 u127 u128 u129 u130 u131 u132 u133 u134 u135 u136 u137 u138 u139 u140 u141 u142 u143 u144 u145 u146 u147 u148 u149 u150 u151 u152 u153 u154 u155 u156 u157 u158 u159 u160 u161 u162 u163 u164 u165 u166 u167 u168 u169 u170 u171 u172 u173 u174 u175 u176 u177 u178 u179 u180 u181 u182 u183 u184 u185 u186 u187 u188 u189 u190 u191 u192 u193 u194 u195 u196 u197 u198 u199 u200 u201 u202 u203 u204 u205 u206 u207 u208 u209 u210 u211 u212 u213 u214 u215 u216 u217 u218 u219 u220 u221 u222 u223 u224 u225 u226 u227 u228 u229 u230 u231 u232 u233 u234 u235 u236 u237 u238 u239 u240 u241 u242 u243 u244 u245 u246 u247 u248 u249 u250 u251 u252 u253 u254 u255 u256 u257 u258 u259 u260 u261 u262 u263 u264 u265 u266 u267 u268 u269 u270 u271 u272 u273 u274 u275 u276 u277 u278 u279 u280 u281 u282
            clear hd
            obtain ⟨s2, hM, hl2⟩ := hcut
            clear HX HG HH HN HLN hn
            obtain ⟨x, hx⟩ : ∃ x, s2.get n = x := ⟨_, rfl⟩
            have hn2 : n < s2.xs.length := by omega
            have HX := Lib.hid hx
            have HH := Lib.hid (show s2.has n from ⟨by omega, by omega⟩)
            have d1 := cell_class hM.cells.2.1
            have r0 := cell_class hM.ref.cells.1
            have rn := hM.ref.cell hn2
            rw [show s2.xs.getD n 0 = x from hx] at rn
            replace rn := cell_class rn
            rw [hl2] at r0
            clear hx
            have r1 := cell_class hM.ref.cells.2
            obtain ⟨t0, t1, t2, t3, t4, tf⟩ := hM.lasts
            replace t0 := cell_class t0
            replace t1 := cell_class t1
            replace t2 := cell_class t2
            replace t3 := cell_class t3
            replace t4 := cell_class t4
            clear tf
            have HM := Lib.hid hM
            clear hM
            have V := Up.refl wc
            go_upto_region 58 with fail
            refine wp_region_up V (by kernel_rfl) (by kernel_rfl) ?_
            repeat (go_big_quiet_step (first
              | (go_at_call 24; (with_reducible exact same_class (count_any (HM.out.mem.up (UpOf.up _)))))
              | (go_at_call 12; (with_reducible exact up_class (last_to (HM.out.mem.up (UpOf.up _)) (last_agg _))))
              | (go_at_call 22; (with_reducible exact same_class (peek_to (HM.out.mem.up (UpOf.up _)) HH.out HX.out)))))
            refine wpQuiet_nil ?_
            rintro _ ⟨y, rfl⟩
            clear d1 r0 rn r1 t0 t1 t2 t3 t4
            go_wp2_with fail
            refine ⟨⟨_, ⟨rfl, rfl, rfl, rfl, rfl, rfl, rfl, rfl, rfl⟩, k + 1, s2, by omega, by go_num, (both_of HM.out hl2).up y.up, HM.out.up.trans y.up⟩, ?_⟩
            simp [Mu, intOf]; omega
        · have HO : ¬ s.has x1 := fun h => hin ⟨h.1, by have := h.2; rw [hB.out.len] at this; exact this⟩
          replace HO := Lib.hid HO
          go_upto_region 16 with fail
          have hD : Whole (wr.alloc (.cells #[.int .i64 x0, .int .i64 x1, .int .u64 x2, .int .u64 x3] 37)) wr.heap.size 37 #[.int .i64 x0, .int .i64 x1, .int .u64 x2, .int .u64 x3] := Whole.new _ _ _
          have hB2 := hB.out.up (Up.alloc wr (.cells #[.int .i64 x0, .int .i64 x1, .int .u64 x2, .int .u64 x3] 37))
          have hup2 := hup.then_alloc (.cells #[.int .i64 x0, .int .i64 x1, .int .u64 x2, .int .u64 x3] 37)
          clear c0 c1 c2 c3 hB hup
          generalize (wr.alloc (.cells #[.int .i64 x0, .int .i64 x1, .int .u64 x2, .int .u64 x3] 37)) = wD at *
          generalize wr.heap.size = D at *
          have hCD : C < D := lC
          have hE : Mid w wD A B C D #[.int .i64 x0, .int .i64 x1, .int .u64 x2, .int .u64 x3] s s.xs s.c s := ⟨hB2.mem, hB2.ref, hB2.last, hD, hup2⟩
          have HLN := Lib.hid hB2.len
          have ORD : Ord w A B C D := ⟨hwA, hAB, hBC, hCD⟩
          replace ORD := Lib.hid ORD
          clear hB2 hD hup2
          have MID := Lib.hid hE
          obtain ⟨d0, d1, d2, d3⟩ := hE.cells
          clear hE
          refine wp_cut (fun a' w' => Tail (.slice (some ⟨b, off, none⟩) len1 cap1) A B C K D false (.int .i64 k) a' ∧ wD = w') ?rest ?first
          case first =>
            intro J Kx hJ hKx
            by_cases h0 : 0 ≤ x1
            · have h1 : ¬ x1 < K := fun h => hin ⟨h0, h⟩
              go_wp2_with fail
              exact Met.intro (hJ _ _ ⟨⟨rfl, rfl, rfl, rfl, rfl, rfl, rfl, rfl, rfl, rfl, rfl⟩, rfl⟩)
            · go_wp2_with fail
              exact Met.intro (hJ _ _ ⟨⟨rfl, rfl, rfl, rfl, rfl, rfl, rfl, rfl, rfl, rfl, rfl⟩, rfl⟩)
          case rest =>
            rintro a wc ⟨hd, rfl⟩
            refine hd.k ?_
            intro u0 u2 u3 u4 u8 u14 u15 u16 u17 u18 u19 u20 u21 u22 u23 u24 u25 u26 u27 u28 u29 u30 u31 u32 u33 u34 u35 u36 u37 u38 u39 u40 u41 u42 u43 u44 u45 u46 u47 u48 u49 u50 u51 u52 u53 u54 u55 u56 u57 u58 u59 u60 u61 u62 u63 u64 u65 u66 u67 u68 u69 u70 u71 u72 u73 u74 u75 u76 u77 u78 u79 u80 u81 u82 u83 u84 u85 u86 u87 u88 u89 u90 u91 u92 u93 u94 u95 u96 u97 u98 u99 u100 u101 u102 u103 u104 u105 u106 u107 u108 u109 u110 u111 u112 u113 u114 u115 u116 u117 u118 u119 u120 u121 u122 u123 u124 u125 u126 u127 u128 u129 u130 u131 u132 u133 u134 u135 u136 u137 u138 u139 u140 u141 u142 u143 u144 u145 u146 u147 u148 u149 u150 u151 u152 u153 u154 u155 u156 u157 u158 u159 u160 u161 u162 u163 u164 u165 u166 u167 u168 u169 u170 u171 u172 u173 u174 u175 u176 u177 u178 u179 u180 u181 u182 u183 u184 u185 u186 u187 u188 u189 u190 u191 u192 u193 u194 u195 u196 u197 u198 u199 u200 u201 u202 u203 u204 u205 u206 u207 u208 u209 u210 u211 u212 u213 u214 u215 u216 u217 u218 u219 u220 u221 u222 u223 u224 u225 u226 u227 u228 u229 u230 u231 u232 u233 u234 u235 u236 u237 u238 u239 u240 u241 u242 u243 u244 u245 u246 u247 u248 u249 u250 u251 u252 u253 u254 u255 u256 u257 u258 u259 u260 u261 u262 u263 u264 u265 u266 u267 u268 u269 u270 u271 u272 u273 u274 u275 u276 u277 u278 u279 u280 u281 u282
            clear hd hin
            obtain ⟨r, hr, _, r0, r1⟩ := emod_letter x0 6 (by decide)
            have HR := Lib.hid hr
            clear hr
            go_upto_block 2 with (go_at_call 9; (with_reducible refine (number_is HR.out (by decide) (by decide) _).mono ?_); rintro e w' ⟨rfl, rfl⟩)
            refine wp_cut (fun a' w' => Tail (.slice (some ⟨b, off, none⟩) len1 cap1) A B C K D false (.int .i64 k) a' ∧ After w A B C D K #[.int .i64 x0, .int .i64 x1, .int .u64 x2, .int .u64 x3] w') ?rest ?first
            case first =>
              intro J Kx hJ hKx
              rcases (show r = 0 ∨ r = 1 ∨ r = 2 ∨ r = 3 ∨ r = 4 ∨ r = 5 by omega) with rfl | rfl | rfl | rfl | rfl | rfl
              · go_wp2_with ((go_at_call 14; (with_reducible refine (load_out MID.out.mem HO.out).mono ?_); rintro e w' ⟨rfl, rfl⟩))
                refine Met.intro (hJ _ _ ⟨⟨rfl, rfl, rfl, rfl, rfl, rfl, rfl, rfl, rfl, rfl, rfl⟩, ?_⟩)
                exact MID.out.after0 rfl rfl HLN.out
              · go_wp2_with ((go_at_call 16; (with_reducible refine (store_out _ MID.out.mem HO.out).mono ?_); rintro e w' ⟨rfl, rfl⟩))
                refine Met.intro (hJ _ _ ⟨⟨rfl, rfl, rfl, rfl, rfl, rfl, rfl, rfl, rfl, rfl, rfl⟩, ?_⟩)
                exact MID.out.after0 rfl rfl HLN.out
              · go_wp2_with ((go_at_call 18; (with_reducible refine (cas_out _ _ MID.out.mem HO.out).mono ?_); rintro e w' ⟨rfl, rfl⟩))
                refine Met.intro (hJ _ _ ⟨⟨rfl, rfl, rfl, rfl, rfl, rfl, rfl, rfl, rfl, rfl, rfl⟩, ?_⟩)
                exact MID.out.after0 rfl rfl HLN.out
              · go_wp2_with ((go_at_call 20; (with_reducible refine (add_out _ MID.out.mem HO.out).mono ?_); rintro e w' ⟨rfl, rfl⟩))
                refine Met.intro (hJ _ _ ⟨⟨rfl, rfl, rfl, rfl, rfl, rfl, rfl, rfl, rfl, rfl, rfl⟩, ?_⟩)
                exact MID.out.after0 rfl rfl HLN.out
              · go_wp2_with ((go_at_call 22; (with_reducible refine (peek_out MID.out.mem HO.out).mono ?_); rintro e w' ⟨rfl, rfl⟩))
                refine Met.intro (hJ _ _ ⟨⟨rfl, rfl, rfl, rfl, rfl, rfl, rfl, rfl, rfl, rfl, rfl⟩, ?_⟩)
                exact MID.out.after0 rfl rfl HLN.out
              · go_wp2_with ((go_at_call 23; (with_reducible refine (lay_out _ MID.out.mem HO.out).mono ?_); rintro e w' ⟨rfl, rfl⟩))
                refine Met.intro (hJ _ _ ⟨⟨rfl, rfl, rfl, rfl, rfl, rfl, rfl, rfl, rfl, rfl, rfl⟩, ?_⟩)
                exact MID.out.after0 rfl rfl HLN.out
            case rest =>
              rintro a wc ⟨hd, hcut⟩
              refine hd.k ?_
              intro u0 u2 u3 u4 u8 u14 u15 u16 u17 u18 u19 u20 u21 u22 u23 u24 u25 u26 u27 u28 u29 u30 u31 u32 u33 u34 u35 u36 u37 u38 u39 u40 u41 u42 u43 u44 u45 u46 u47 u48 u49 u50 u51 u52 u53 u54 u55 u56 u57 u58 u59 u60 u61 u62 u63 u64 u65 u66 u67 u68 u69 u70 u71 u72 u73 u74 u75 u76 u77 u78 u79 u80 u81 u82 u83 u84 u85 u86 u87 u88 u89 u90 u91 u92 u93 u94 u95 u96 u97 u98 u99 u100 u101 u102 u103 u104 u105 u106 u107 u108 u109 u110 u111 u112 u113 u114 u115 u116 u117 u118 u119 u120 u121 u122 u123 u124 u125 u126 u127 u128 u129 u130 u131 u132 u133 u134 u135 u136 u137 u138 u139 u140 u141 u142 u143 u144 u145 u146 u147 u148 u149 u150 u151 u152 u153 u154 u155 u156 u157 u158 u159 u160 u161 u162 u163 u164 u165 u166 u167 u168 u169 u170 u171 u172 u173 u174 u175 u176 u177 u178 u179 u180 u181 u182 u183 u184 u185 u186 u187 u188 u189 u190 u191 u192 u193 u194 u195 u196 u197 u198 u199 u200 u201 u202 u203 u204 u205 u206 u207 u208 u209 u210 u211 u212 u213 u214 u215 u216 u217 u218 u219 u220 u221 u222 u223 u224 u225 u226 u227 u228 u229 u230 u231 u232 u233 u234 u235 u236 u237 u238 u239 u240 u241 u242 u243 u244 u245 u246 u247 u248 u249 u250 u251 u252 u253 u254 u255 u256 u257 u258 u259 u260 u261 u262 u263 u264 u265 u266 u267 u268 u269 u270 u271 u272 u273 u274 u275 u276 u277 u278 u279 u280 u281 u282
              clear hd
              obtain ⟨s2, hM, hl2⟩ := hcut
              clear HO HLN
              have r1 := cell_class hM.ref.cells.2
              obtain ⟨t0, t1, t2, t3, t4, tf⟩ := hM.lasts
              replace t0 := cell_class t0
              replace t1 := cell_class t1
              replace t2 := cell_class t2
              replace t3 := cell_class t3
              replace t4 := cell_class t4
              clear tf
              have HM := Lib.hid hM
              clear hM
              have V := Up.refl wc
              go_upto_region 58 with fail
              refine wp_region_up V (by kernel_rfl) (by kernel_rfl) ?_
              repeat (go_big_quiet_step (first
                | (go_at_call 24; (with_reducible exact same_class (count_any (HM.out.mem.up (UpOf.up _)))))
                | (go_at_call 12; (with_reducible exact up_class (last_to (HM.out.mem.up (UpOf.up _)) (last_agg _))))))
              refine wpQuiet_nil ?_
              rintro _ ⟨y, rfl⟩
              clear r1 t0 t1 t2 t3 t4
              go_wp2_with fail
              refine ⟨⟨_, ⟨rfl, rfl, rfl, rfl, rfl, rfl, rfl, rfl, rfl⟩, k + 1, s2, by omega, by go_num, (both_of HM.out hl2).up y.up, HM.out.up.trans y.up⟩, ?_⟩
              simp [Mu, intOf]; omega
      · go_wp2_with fail
        go_ret
        exact ⟨rfl, hup⟩

set_option maxRecDepth 100000 in
theorem lifted (os : Os) (started : os.Started) (H : Type) (enc : TypeId × Value → H) :
    ReturnsInHanded {} Try.checked os 3 .any (Rows.cellsPlaySpec.pre6 enc Try.prog Try.f3 Rows.cellsPlayRow.domain false) (Rows.cellsPlaySpec.post enc Try.prog Try.f3 false true false false) := by
  refine returnsInHanded_of_change (C := Try.checked) own started (by kernel_rfl) Try.func3
    (ChangeSpec.witness6 (enc := enc) (C := Try.checked) false ⟨#[], #[.int .i64 0, .slice none 0 0], []⟩ 8 (by kernel_rfl) (by kernel_rfl) (by kernel_rfl) (by kernel_rfl)) ?_
  intro W base args ds gs before hval0 hW hcnd _
  have hval : ∀ (j : Nat) t v, Try.f3.params[j]? = some t → args[j]? = some v → Value.okWide Try.prog W .any base t v := hval0
  have hW' := hW
  obtain ⟨p, q, hA0, hV, rfl, hfz, hnd⟩ := hW
  have hA : DataW.TrodAll enc Try.prog W 0 (fun _ => true) true Try.f3.params.toList args.toList ds p := hA0
  rw [Try.params3] at hA hval
  obtain ⟨v0, vs0, d0, ds0, p0, q0, hargs, rfl, rfl, h0, r0⟩ := trodAll_cons hA
  obtain ⟨v1, vs1, d1, ds1, p1, q1, rfl, rfl, rfl, h1, r1⟩ := trodAll_cons r0
  obtain ⟨rfl, rfl, rfl⟩ := trodAll_nil r1
  obtain rfl : args = #[v0, v1] := by cases args; simp_all
  obtain ⟨rfl, rfl⟩ := trodVars_none hV
  have k0 := h0
  have lt0 : ∀ x ∈ p0, x.block < W.heap.size := by obtain ⟨m, hm⟩ := k0; exact DataW.trod_lt m _ _ _ hm
  obtain ⟨a0, rfl, rfl, rfl, w0⟩ := open_int Try.underlying3 (hval 0 3 v0 rfl rfl) h0
  have k1 := h1
  have lt1 : ∀ x ∈ p1, x.block < W.heap.size := by obtain ⟨m, hm⟩ := k1; exact DataW.trod_lt m _ _ _ hm
  obtain ⟨a1, len1, cap1, z1, rfl, w1⟩ := open_rows (ks := [.i64, .i64, .u64, .u64]) Try.underlying22 Try.underlying37 (by kernel_rfl) (by kernel_rfl) rfl
    (fun j f k hf hk => match j, hf, hk with
      | 0, hf, hk => by simp at hf hk; subst hf hk; exact Try.underlying3
      | 1, hf, hk => by simp at hf hk; subst hf hk; exact Try.underlying3
      | 2, hf, hk => by simp at hf hk; subst hf hk; exact Try.underlying30
      | 3, hf, hk => by simp at hf hk; subst hf hk; exact Try.underlying30
      | n + 4, hf, hk => by simp at hk) (hval 1 22 v1 rfl rfl) h1
  clear hA0 hval0
  refine (walk a0 a1 len1 cap1 z1 W w0 w1).mono fun e W' ⟨he, bel⟩ => ?_
  subst he
  exact ⟨_, rfl, _, _, _, [], _, [], hW', trodAll_mk1 (shut_bool Try.underlying4 _), (trodAll_cons_mk (Below.trod laidOut (by kernel_rfl) (of_decide_eq_true (by kernel_rfl)) k0 bel lt0) (trodAll_cons_mk (Below.trod laidOut (by kernel_rfl) (of_decide_eq_true (by kernel_rfl)) k1 bel lt1) trodAll_mk0)), rfl, Below.frame bel _, fun h => by cases h⟩

theorem over : Rows.cellsPlayRow.holds Try.pinned (OpenSpec.ofChange Rows.cellsPlaySpec) :=
  OpenClaim.holds_of_wide 3 Try.f3 rfl rfl rfl rfl rfl rfl rfl ⟨rfl, rfl, rfl, rfl, rfl⟩ rfl rfl rfl rfl rfl (by kernel_rfl) Try.func3 (by kernel_rfl)
    (of_decide_eq_true (by kernel_rfl)) (by unfold Func.isWrapper; first | (rw [if_pos (by decide +kernel)]; kernel_rfl) | (rw [if_neg (by decide +kernel)]; exact ⟨rfl, rfl⟩))
    (fun os started H enc _ => lifted os started H enc)

/-- THE STATEMENT -/
theorem proved : Rows.CellsPlaySaid := over
#print axioms proved
end Go.Proofs.Ytbphbiecmdkckaa.cellsPlay
