/-
  A stack over the statements' own table (head 0, links from 2 on): what the cells hold, told by StackMath's invariant; one access of a machine.
-/
import Derived.Test.YtalhbebpoohgkaaStackMem
import Derived.Test.YtalhbebpoohgkaaStackList
import Derived.Test.YtalhbebpoohgkaaStackFill
import Derived.Test.YtalhbebpoohgkaaPush3
import Derived.Test.YtalhbebpoohgkaaPop2
import Derived.Test.YtalhbebpoohgkaaPop3
import Derived.Test.YtalhbebpoohgkaaPopEnds
namespace Go.Proofs.Ytalhbebpoohgkaa
open Go.RowKit
open W64
set_option maxRecDepth 100000

structure Sys (w : World) (p g q n : Nat) (s : St) (t : Nat) (S : List Nat) (m : Nat → Stk.Mach) (has : Nat → List Nat) : Prop where
  env : Env w p g q 0 2 n s
  len : s.xs.length = n + 2
  gi : Stk.GI n (Stk.hdOf s.xs) (Stk.lkOf s.xs) t S m has
theorem get_hd (s : St) : s.get ((0 : Nat) : Int) = Stk.hdOf s.xs := rfl
theorem get_lk (s : St) (x : Nat) : s.get (((2 : Nat) : Int) + (x : Nat)) = Stk.lkOf s.xs x := by
  unfold St.get Stk.lkOf
  rw [show (((2 : Nat) : Int) + (x : Nat)).toNat = 2 + x by omega]
theorem set_self {xs : List Int} {i : Nat} : xs.set i (xs.getD i 0) = xs := by
  by_cases h : i < xs.length
  · apply List.ext_getElem (by simp)
    intro j h1 h2
    rw [List.getElem_set]
    split
    · subst_vars; simp [List.getD, h]
    · rfl
  · rw [List.set_eq_of_length_le (by omega)]
theorem hit_hd (s : St) (k v : Int) (y : Bool) : (s.hit k ((0 : Nat) : Int) v y).xs = s.xs.set 0 v := rfl
theorem hit_lk (s : St) (k : Int) (x : Nat) (v : Int) (y : Bool) : (s.hit k (((2 : Nat) : Int) + (x : Nat)) v y).xs = s.xs.set (2 + x) v := by
  unfold St.hit
  dsimp only
  rw [show (((2 : Nat) : Int) + (x : Nat)).toNat = 2 + x by omega]
theorem read_xs (s : St) (k i : Int) (y : Bool) : (s.hit k i (s.get i) y).xs = s.xs := by
  unfold St.hit St.get
  exact set_self
section
variable {w w' : World} {p g q n t b : Nat} {s s' : St} {S : List Nat} {m : Nat → Stk.Mach} {has : Nat → List Nat} {l : List Nat} {i most : Nat} {old deep : Int} {v nx : Value}
theorem Sys.up (Y : Sys w p g q n s t S m has) (u : Up w w') : Sys w' p g q n s t S m has := ⟨Y.env.up u, Y.len, Y.gi⟩
theorem Sys.holds (Y : Sys w p g q n s t S m has) : Holds s 0 2 n S := by
  have G := Y.gi
  have lb := G.link_le
  refine ⟨?_, fun j hj => ?_, fun x hx => G.mem_lt hx, G.len⟩
  · rw [get_hd]; unfold topN; rw [G.mod, if_neg (by omega)]
  · rw [get_lk, G.chain.get hj]
    have h2 := Stk.linkOf_le (n := n) (S := S.drop (j + 1)) (fun x hx => G.mem_lt (List.mem_of_mem_drop hx))
    unfold belowN; rw [if_neg (by omega)]
/-- Behind an access that turned the memory to s'. -/
theorem Sys.turn (Y : Sys w p g q n s t S m has) (M : Mem w' p g s') {r : List Nat} (u : Else r w w') (hq : q ∉ r) (ok : s'.Ok) (hl : s'.xs.length = s.xs.length) {t' : Nat} {S' : List Nat} {m' : Nat → Stk.Mach} {has' : Nat → List Nat}
    (G : Stk.GI n (Stk.hdOf s'.xs) (Stk.lkOf s'.xs) t' S' m' has') : Sys w' p g q n s' t' S' m' has' :=
  ⟨⟨M, u.whole Y.env.stk hq, ok, Y.env.np, Y.env.ng, Y.env.n0, Y.env.n1, hl ▸ Y.env.hh, hl ▸ Y.env.hl, hl ▸ Y.env.top, Y.env.far⟩, hl.trans Y.len, G⟩
theorem Sys.next {x : Int} (Y : Sys w p g q n s t S m has) (ht : t < 4294967295) (h0 : -1 ≤ x) (h1 : x < n) : nextW (Stk.hdOf s.xs) x = x + 1 + ((t + 1 : Nat) : Int) * 4294967296 := by
  have n1 := Y.env.n1
  rw [← (nextW_is (x := Stk.hdOf s.xs) h0 (by omega)).2, Y.gi.tag]
  have : nextT (t : Int) = ((t + 1 : Nat) : Int) := by
    unfold nextT inB
    rw [if_pos (by simp; omega)]; omega
  rw [this]; rfl

/-- The next access of a Push. -/
def pushNx (b len i : Nat) : Value := if i + 1 < len then meth 63 b else if i + 1 = len then meth 64 b else if i = len then meth 72 b else meth 80 b
theorem nxL_is {len i : Nat} (h : i < len) : nxL b len i = pushNx b len i := by
  unfold nxL pushNx
  by_cases c : i + 1 < len
  · rw [if_pos c, if_pos c]
  · rw [if_neg c, if_neg c, if_pos (by omega)]
/-- A Push that stands at access i. -/
def PushM (w : World) (b q : Nat) (v : Value) (l : List Nat) (i : Nat) (old : Int) : Prop := PushAt w b q v l (min i (l.length - 1)) old (pushNx b l.length i) ∧ 0 ≤ old ∧ old < 18446744073709551616
theorem PushM.else (P : PushM w b q v l i old) {r : List Nat} (u : Else r w w') (h1 : b ∉ r) (h2 : Away v r) : PushM w' b q v l i old := ⟨P.1.else u h1 h2, P.2⟩
theorem PushM.up (P : PushM w b q v l i old) (u : Up w w') : PushM w' b q v l i old := ⟨P.1.up u, P.2⟩
theorem apart_q (A : Apart b p g q v) (E : Env w p g q 0 2 n s) : q ∉ [b, p, g] := by simp [A.bq.symm, E.np, E.ng]
theorem GI.puts_lt (G : Stk.GI n (Stk.hdOf s.xs) (Stk.lkOf s.xs) t S m has) {u : Nat} (hu : u < 4) (e : m u = .push l i old) : (∀ x ∈ l, x < n) ∧ l ≠ [] ∧ i ≤ l.length + 1 := by
  have k := G.ok u hu
  rw [e] at k
  refine ⟨fun x hx => (G.mine hu (show x ∈ Stk.puts (m u) by rw [e]; exact hx)).1, k.1, k.2.1⟩
theorem GI.push_len (G : Stk.GI n (Stk.hdOf s.xs) (Stk.lkOf s.xs) t S m has) {u : Nat} (hu : u < 4) (e : m u = .push l i old) : l.length ≤ n := by
  have h := (G.once rfl).1
  simp only [List.length_append] at h
  have e2 : Stk.puts (m u) = l := by rw [e]; rfl
  rcases (show u = 0 ∨ u = 1 ∨ u = 2 ∨ u = 3 by omega) with rfl | rfl | rfl | rfl <;> rw [e2] at h <;> omega

/-- A Push goes on: not its exchange. -/
theorem push_go (Y : Sys w p g q n s t S m has) {u : Nat} (hu : u < 4) (e : m u = .push l i old) (hi : i ≤ l.length) (P : PushM w b q v l i old) (A : Apart b p g q v) :
    Calls Try.prog 20 #[.pointer (some ⟨b, 0, none⟩)] w fun e w' => e = .returned (.bool true) ∧ ∃ s', s'.c = wrap64 (s.c + 1) ∧ Stk.hdOf s'.xs = Stk.hdOf s.xs ∧ PushM w' b q v l (i + 1) (if i + 1 = l.length then Stk.hdOf s.xs else old) ∧ Sys w' p g q n s' t S (Stk.upd m u (.push l (i + 1) (if i + 1 = l.length then Stk.hdOf s.xs else old))) has ∧ Else [b, p, g] w w' := by
  obtain ⟨hn, hl0, _⟩ := GI.puts_lt Y.gi hu e
  have hl8 : l.length ≤ 8192 := by have := GI.push_len Y.gi hu e; have := Y.env.n1; omega
  have lp := List.length_pos_iff.2 hl0
  have hok := Y.env.ok
  have n1 := Y.env.n1
  obtain ⟨P, hb0, hb1⟩ := P
  have c4 := P.cells.2.2.2.2
  by_cases h1 : i + 1 < l.length
  · have e1 : pushNx b l.length i = meth 63 b := by unfold pushNx; rw [if_pos h1]
    have em : min i (l.length - 1) = i := by omega
    rw [em, e1] at P
    rw [e1] at c4
    refine (pushStep_link c4 (push_link Y.env P A h1 hn hl8)).mono ?_
    rintro e w' ⟨rfl, P', M', E'⟩
    have m0 := hn _ (Stk.getD_mem (show i < l.length by omega))
    have m1 := hn _ (Stk.getD_mem (show i + 1 < l.length by omega))
    have hne : ¬ i + 1 = l.length := by omega
    have hlen := Y.len
    refine ⟨rfl, _, rfl, ?_, ?_, Y.turn M' E' (apart_q A Y.env) (hok.hit _ _ _ (by omega) (by omega)) (hit_len _ _ _ _ _) ?_, E'⟩
    · rw [hit_lk, Stk.hdOf_set_link]
    · unfold PushM
      rw [nxL_is h1] at P'
      rw [if_neg hne, show min (i + 1) (l.length - 1) = i + 1 by omega]; exact ⟨P', hb0, hb1⟩
    · rw [hit_lk, Stk.hdOf_set_link, Stk.lkOf_set_link (by omega), if_neg hne]
      exact Y.gi.push_store hu e h1
  · by_cases h2 : i + 1 = l.length
    · have e1 : pushNx b l.length i = meth 64 b := by unfold pushNx; rw [if_neg h1, if_pos h2]
      have em : min i (l.length - 1) = i := by omega
      rw [em, e1] at P
      rw [e1] at c4
      refine (pushStep_load c4 (push_load Y.env P A)).mono ?_
      rintro e w' ⟨rfl, P', M', E'⟩
      have hg := hok ((0 : Nat) : Int)
      refine ⟨rfl, _, rfl, ?_, ?_, Y.turn M' E' (apart_q A Y.env) (hok.hit _ _ _ hg.1 hg.2) (hit_len _ _ _ _ _) ?_, E'⟩
      · rw [read_xs]
      · unfold PushM
        rw [if_pos h2, show min (i + 1) (l.length - 1) = i by omega]
        have e3 : pushNx b l.length (i + 1) = meth 72 b := by unfold pushNx; rw [if_neg (by omega), if_neg (by omega), if_pos h2]
        rw [e3]; exact ⟨P', hg.1, hg.2⟩
      · rw [read_xs, if_pos h2]
        exact Y.gi.push_load hu e h2
    · have h3 : i = l.length := by omega
      have e1 : pushNx b l.length i = meth 72 b := by unfold pushNx; rw [if_neg h1, if_neg h2, if_pos h3]
      have em : min i (l.length - 1) = l.length - 1 := by omega
      rw [em, e1] at P
      rw [e1] at c4
      have K := Y.gi.ok u hu
      rw [e] at K
      obtain ⟨_, _, _, K4, _⟩ := K
      obtain ⟨_, K6, K7⟩ := K4 (by omega)
      have hT : topN n old + 1 = old % 4294967296 := by unfold topN; rw [if_neg (by omega)]; omega
      have hne : ¬ i + 1 = l.length := by omega
      have m0 := hn _ (Stk.getD_mem (show l.length - 1 < l.length by omega))
      have hlen := Y.len
      refine (pushStep_last c4 (push_last Y.env P A hl0 hn hl8 hb0 hb1)).mono ?_
      rintro e w' ⟨rfl, P', M', E'⟩
      rw [hT] at M'
      refine ⟨rfl, _, rfl, ?_, ?_, Y.turn M' E' (apart_q A Y.env) (hok.hit _ _ _ (by omega) (by omega)) (hit_len _ _ _ _ _) ?_, E'⟩
      · rw [hit_lk, Stk.hdOf_set_link]
      · unfold PushM
        rw [if_neg hne, show min (i + 1) (l.length - 1) = l.length - 1 by omega]
        have e3 : pushNx b l.length (i + 1) = meth 80 b := by unfold pushNx; rw [if_neg (by omega), if_neg (by omega), if_neg (by omega)]
        rw [e3]; exact ⟨P', hb0, hb1⟩
      · rw [hit_lk, Stk.hdOf_set_link, Stk.lkOf_set_link (by omega), if_neg hne]
        have := Y.gi.push_link hu e h3
        rw [h3] at this ⊢
        exact this
theorem pushNx_turn {len i : Nat} (h : i = len + 1) : pushNx b len i = meth 80 b := by
  unfold pushNx; rw [if_neg (by omega), if_neg (by omega), if_neg (by omega)]
/-- A Push's exchange, done. -/
theorem push_done (Y : Sys w p g q n s t S m has) {u : Nat} (hu : u < 4) (e : m u = .push l i old) (hi : i = l.length + 1) (ho : old = Stk.hdOf s.xs) (ht : t < 4294967295) (P : PushM w b q v l i old) (A : Apart b p g q v) :
    Calls Try.prog 20 #[.pointer (some ⟨b, 0, none⟩)] w fun e w' => e = .returned (.bool true) ∧ ∃ s', s'.c = wrap64 (s.c + 1) ∧ w'.cell? ⟨b, 4, none⟩ = some .nilFunc ∧ Sys w' p g q n s' (t + 1) (l ++ S) (Stk.upd m u .idle) has ∧ Else [b, p, g] w w' := by
  obtain ⟨hn, hl0, _⟩ := GI.puts_lt Y.gi hu e
  have lp := List.length_pos_iff.2 hl0
  have hok := Y.env.ok
  obtain ⟨P, hb0, hb1⟩ := P
  rw [pushNx_turn hi] at P
  have m0 := hn _ (Stk.getD_mem lp)
  have hN := Y.next ht (x := (l.getD 0 0 : Nat)) (by omega) (by omega)
  refine (pushStep_turn P.cells.2.2.2.2 (push_turn Y.env P A hl0 (c := true) (fun E1 => sturn_yes E1 (by omega) (by omega) (by rw [get_hd]; exact ho.symm)))).mono ?_
  rintro e1 w' ⟨rfl, P', M', E'⟩
  rw [ho] at M'
  have hnx := nextW_in (Stk.hdOf s.xs) (l.getD 0 0 : Nat)
  refine ⟨rfl, _, rfl, P'.cells.2.2.2.2, Y.turn M' E' (apart_q A Y.env) (hok.hit _ _ _ hnx.1 hnx.2) (hit_len _ _ _ _ _) ?_, E'⟩
  have hlen := Y.len
  rw [hit_hd, Stk.hdOf_set_head (by omega), Stk.lkOf_set_head, hN]
  rw [ho] at e
  exact Y.gi.push_yes hu e hi
/-- A Push's exchange, that failed. -/
theorem push_fail (Y : Sys w p g q n s t S m has) {u : Nat} (hu : u < 4) (e : m u = .push l i old) (hi : i = l.length + 1) (ho : old ≠ Stk.hdOf s.xs) (P : PushM w b q v l i old) (A : Apart b p g q v) :
    Calls Try.prog 20 #[.pointer (some ⟨b, 0, none⟩)] w fun e w' => e = .returned (.bool true) ∧ ∃ s', s'.c = wrap64 (s.c + 1) ∧ PushM w' b q v l (l.length - 1) old ∧ Sys w' p g q n s' t S (Stk.upd m u (.push l (l.length - 1) old)) has ∧ Else [b, p, g] w w' := by
  obtain ⟨hn, hl0, _⟩ := GI.puts_lt Y.gi hu e
  have lp := List.length_pos_iff.2 hl0
  have hok := Y.env.ok
  obtain ⟨P, hb0, hb1⟩ := P
  rw [pushNx_turn hi] at P
  have m0 := hn _ (Stk.getD_mem lp)
  have hg := hok ((0 : Nat) : Int)
  refine (pushStep_turn P.cells.2.2.2.2 (push_turn Y.env P A hl0 (c := false) (fun E1 => sturn_no E1 hb0 hb1 (by omega) (by omega) (by rw [get_hd]; exact fun h => ho h.symm)))).mono ?_
  rintro e1 w' ⟨rfl, P', M', E'⟩
  refine ⟨rfl, _, rfl, ?_, Y.turn M' E' (apart_q A Y.env) (hok.hit _ _ _ hg.1 hg.2) (hit_len _ _ _ _ _) ?_, E'⟩
  · refine ⟨?_, hb0, hb1⟩
    have e3 : pushNx b l.length (l.length - 1) = meth 64 b := by unfold pushNx; rw [if_neg (by omega), if_pos (by omega)]
    rw [e3, show min (l.length - 1) (l.length - 1) = min i (l.length - 1) by omega]
    exact P'
  · rw [read_xs]; exact Y.gi.push_no hu e hi

/-! ### Pop -/
def popNx (b i : Nat) : Value := if i = 0 then meth 52 b else if i = 1 then meth 66 b else meth 74 b
/-- A Pop that stands at access i (0: the Load of the head, 1: of a link, 2: the exchange); its items l (where it stands at 0, whatever they are, the machine's are none). -/
structure PopM (w : World) (b q : Nat) (v : Value) (l : List Nat) (most i : Nat) (deep old : Int) : Prop where
  at_ : PopAt w b q v l most deep old (popNx b i)
  o0 : 0 ≤ old
  o1 : old < 18446744073709551616
  m1 : 1 ≤ most
  m8 : most ≤ 8
  l8 : l.length ≤ most
theorem PopM.else (P : PopM w b q v l most i deep old) {r : List Nat} (u : Else r w w') (h1 : b ∉ r) (h2 : Away v r) : PopM w' b q v l most i deep old := ⟨P.at_.else u h1 h2, P.o0, P.o1, P.m1, P.m8, P.l8⟩
theorem PopM.up (P : PopM w b q v l most i deep old) (u : Up w w') : PopM w' b q v l most i deep old := ⟨P.at_.up u, P.o0, P.o1, P.m1, P.m8, P.l8⟩
theorem Apart.fresh (A : Apart b p g q v) (E : Env w p g q 0 2 n s) {r cap k : Nat} (h : v.ownBlock = some r ∨ w.heap.size ≤ r) : Apart b p g q (.slice (some ⟨r, 0, none⟩) k cap) := by
  have h1 := E.mem.top.lt
  have h2 := E.mem.row.lt
  have h3 := E.stk.lt
  refine ⟨A.bp, A.bg, A.bq, ?_, ?_, ?_⟩
  · rcases h with h | h
    · have := A.vp; rw [h] at this; exact this
    · simp [Value.ownBlock]; omega
  · rcases h with h | h
    · have := A.vg; rw [h] at this; exact this
    · simp [Value.ownBlock]; omega
  · rcases h with h | h
    · have := A.vq; rw [h] at this; exact this
    · simp [Value.ownBlock]; omega
theorem GI.puts_pop {deep' old' : Int} {most' i' : Nat} {l' : List Nat} (e : m b = .pop most' i' deep' old' l') : Stk.puts (m b) = [] := by rw [e]; rfl
/-- Pop: the Load of the head: there is none: done. -/
theorem pop_none (Y : Sys w p g q n s t S m has) {u : Nat} (hu : u < 4) (e : Stk.puts (m u) = []) (hS : S = []) (P : PopM w b q v l most 0 deep old) (A : Apart b p g q v) :
    Calls Try.prog 22 #[.pointer (some ⟨b, 0, none⟩)] w fun e w' => e = .returned (.bool true) ∧ ∃ s', s'.c = wrap64 (s.c + 1) ∧ s'.xs = s.xs ∧ PopAt w' b q (.slice none 0 0) [] most deep (Stk.hdOf s.xs) .nilFunc ∧ Sys w' p g q n s' t S (Stk.upd m u .idle) has ∧ Else [b, p, g] w w' := by
  have hok := Y.env.ok
  have hg := hok ((0 : Nat) : Int)
  have hT := Y.holds.top
  rw [hS] at hT
  refine (popStep_load P.at_.cells.2.2.2.2.2 (pop_load0 Y.env P.at_ A hT)).mono ?_
  rintro e1 w' ⟨rfl, P', M', E'⟩
  refine ⟨rfl, _, rfl, read_xs _ _ _ _, P', Y.turn M' E' (apart_q A Y.env) (hok.hit _ _ _ hg.1 hg.2) (hit_len _ _ _ _ _) ?_, E'⟩
  rw [read_xs]; exact Y.gi.pop_over hu e
/-- Pop: the Load of the head. -/
theorem pop_head (Y : Sys w p g q n s t S m has) {u : Nat} (hu : u < 4) (e : Stk.puts (m u) = []) {x : Nat} {r : List Nat} (hS : S = x :: r) (P : PopM w b q v l most 0 deep old) (A : Apart b p g q v) :
    Calls Try.prog 22 #[.pointer (some ⟨b, 0, none⟩)] w fun e w' => e = .returned (.bool true) ∧ ∃ s' r' cap, s'.c = wrap64 (s.c + 1) ∧ s'.xs = s.xs ∧ w.heap.size ≤ r' ∧ PopM w' b q (.slice (some ⟨r', 0, none⟩) 1 cap) [x] most 1 deep (Stk.hdOf s.xs) ∧ Apart b p g q (.slice (some ⟨r', 0, none⟩) 1 cap) ∧ Sys w' p g q n s' t S (Stk.upd m u (.pop most 1 deep (Stk.hdOf s.xs) [x])) has ∧ Else [b, p, g] w w' := by
  have hok := Y.env.ok
  have hg := hok ((0 : Nat) : Int)
  have hT := Y.holds.top
  rw [hS] at hT
  have hT2 : topN n (s.get ((0 : Nat) : Int)) = x := by rw [hT]; simp [Stk.linkOf]
  refine (popStep_load P.at_.cells.2.2.2.2.2 (pop_load1 Y.env P.at_ A hT2)).mono ?_
  rintro e1 w' ⟨rfl, ⟨r', cap, hr, P'⟩, M', E'⟩
  refine ⟨rfl, _, r', cap, rfl, read_xs _ _ _ _, hr, ⟨P', hg.1, hg.2, P.m1, P.m8, by simpa using P.m1⟩, A.fresh Y.env (.inr hr), Y.turn M' E' (apart_q A Y.env) (hok.hit _ _ _ hg.1 hg.2) (hit_len _ _ _ _ _) ?_, E'⟩
  rw [read_xs]; exact Y.gi.pop_load hu e hS most deep
theorem GI.pop_parts (G : Stk.GI n (Stk.hdOf s.xs) (Stk.lkOf s.xs) t S m has) {u : Nat} (hu : u < 4) (e : m u = .pop most 1 deep old l) : (∀ x ∈ l, x < n) ∧ l ≠ [] := by
  have k := G.ok u hu
  rw [e] at k
  exact ⟨k.2.1, (k.2.2.1 rfl).1⟩
/-- Pop: the Load of a link: that was the last. -/
theorem pop_stop (Y : Sys w p g q n s t S m has) {u : Nat} (hu : u < 4) (e : m u = .pop most 1 deep old l) (hne : l ≠ []) (hS : Stk.lkOf s.xs (l.getLast hne) = 0 ∨ l.length = most) (P : PopM w b q v l most 1 deep old) (A : Apart b p g q v) :
    Calls Try.prog 22 #[.pointer (some ⟨b, 0, none⟩)] w fun e w' => e = .returned (.bool true) ∧ ∃ s', s'.c = wrap64 (s.c + 1) ∧ s'.xs = s.xs ∧ PopM w' b q v l most 2 (Stk.lkOf s.xs (l.getLast hne) - 1) old ∧ Sys w' p g q n s' t S (Stk.upd m u (.pop most 2 (Stk.lkOf s.xs (l.getLast hne) - 1) old l)) has ∧ Else [b, p, g] w w' := by
  obtain ⟨hn, hl0⟩ := GI.pop_parts Y.gi hu e
  have hok := Y.env.ok
  have hlk := Y.gi.links _ (hn _ (List.getLast_mem hne))
  have hgl := Stk.getLast_getD hne
  have hg := hok (((2 : Nat) : Int) + (l.getD (l.length - 1) 0 : Nat))
  have hB : belowN n (s.get (((2 : Nat) : Int) + (l.getD (l.length - 1) 0 : Nat))) = Stk.lkOf s.xs (l.getLast hne) - 1 := by
    rw [get_lk, ← hgl]; unfold belowN; rw [if_neg (by omega)]
  have m8 := P.m8
  have l8 := P.l8
  have c5 := P.at_.cells.2.2.2.2.2
  by_cases h0 : Stk.lkOf s.xs (l.getLast hne) = 0
  · rw [h0] at hB
    refine (popStep_link c5 (pop_linkA Y.env P.at_ A hl0 hn (by omega) hB)).mono ?_
    rintro e1 w' ⟨rfl, P', M', E'⟩
    refine ⟨rfl, _, rfl, read_xs _ _ _ _, ?_, Y.turn M' E' (apart_q A Y.env) (hok.hit _ _ _ hg.1 hg.2) (hit_len _ _ _ _ _) ?_, E'⟩
    · rw [h0]; exact ⟨P', P.o0, P.o1, P.m1, P.m8, P.l8⟩
    · rw [read_xs]; exact Y.gi.pop_last hu e hne
  · have hm : l.length = most := by
      rcases hS with h | h
      · exact absurd h h0
      · exact h
    obtain ⟨d, hd⟩ : ∃ d : Nat, Stk.lkOf s.xs (l.getLast hne) - 1 = d := ⟨(Stk.lkOf s.xs (l.getLast hne) - 1).toNat, by omega⟩
    rw [hd] at hB
    refine (popStep_link c5 (pop_linkB Y.env P.at_ A hl0 hn (by omega) hB hm)).mono ?_
    rintro e1 w' ⟨rfl, P', M', E'⟩
    refine ⟨rfl, _, rfl, read_xs _ _ _ _, ?_, Y.turn M' E' (apart_q A Y.env) (hok.hit _ _ _ hg.1 hg.2) (hit_len _ _ _ _ _) ?_, E'⟩
    · rw [hd]; exact ⟨P', P.o0, P.o1, P.m1, P.m8, P.l8⟩
    · rw [read_xs]; exact Y.gi.pop_last hu e hne
/-- Pop: the Load of a link: one more. -/
theorem pop_goes (Y : Sys w p g q n s t S m has) {u : Nat} (hu : u < 4) (e : m u = .pop most 1 deep old l) (hne : l ≠ []) {d : Nat} (hd : Stk.lkOf s.xs (l.getLast hne) = d + 1) (hm : l.length ≠ most) (P : PopM w b q v l most 1 deep old) (A : Apart b p g q v) :
    Calls Try.prog 22 #[.pointer (some ⟨b, 0, none⟩)] w fun e w' => e = .returned (.bool true) ∧ ∃ s' r cap, s'.c = wrap64 (s.c + 1) ∧ s'.xs = s.xs ∧ (v.ownBlock = some r ∨ w.heap.size ≤ r) ∧ PopM w' b q (.slice (some ⟨r, 0, none⟩) (l.length + 1) cap) (l ++ [d]) most 1 d old ∧ Apart b p g q (.slice (some ⟨r, 0, none⟩) (l.length + 1) cap) ∧ Sys w' p g q n s' t S (Stk.upd m u (.pop most 1 d old (l ++ [d]))) has ∧ (∀ r, v.ownBlock = some r → Else [b, r, p, g] w w') := by
  obtain ⟨hn, hl0⟩ := GI.pop_parts Y.gi hu e
  have hok := Y.env.ok
  have hlk := Y.gi.links _ (hn _ (List.getLast_mem hne))
  have hgl := Stk.getLast_getD hne
  have hg := hok (((2 : Nat) : Int) + (l.getD (l.length - 1) 0 : Nat))
  have hB : belowN n (s.get (((2 : Nat) : Int) + (l.getD (l.length - 1) 0 : Nat))) = d := by
    rw [get_lk, ← hgl, hd]; unfold belowN; rw [if_neg (by omega)]; omega
  have m8 := P.m8
  have l8 := P.l8
  have c5 := P.at_.cells.2.2.2.2.2
  obtain ⟨r0, cap0, rfl, _⟩ := P.at_.row.get hl0
  refine (popStep_link c5 (pop_linkC Y.env P.at_ A hl0 hn (by omega) hB hm)).mono ?_
  rintro e1 w' ⟨rfl, ⟨r, cap, hr, P'⟩, M', E'⟩
  have E2 := E' r0 rfl
  have hq : q ∉ [b, r0, p, g] := by
    have h1 : q ≠ r0 := fun h => A.vq (by rw [h]; rfl)
    simp [A.bq.symm, h1, Y.env.np, Y.env.ng]
  refine ⟨rfl, _, r, cap, rfl, read_xs _ _ _ _, hr, ⟨P', P.o0, P.o1, P.m1, P.m8, by simp; omega⟩, A.fresh Y.env hr, Y.turn M' E2 hq (hok.hit _ _ _ hg.1 hg.2) (hit_len _ _ _ _ _) ?_, E'⟩
  rw [read_xs]; exact Y.gi.pop_more hu e hne hd _
/-- Pop: the exchange, done. -/
theorem pop_done (Y : Sys w p g q n s t S m has) {u : Nat} (hu : u < 4) (e : m u = .pop most 2 deep old l) (ho : old = Stk.hdOf s.xs) (ht : t < 4294967295) (P : PopM w b q v l most 2 deep old) (A : Apart b p g q v) :
    Calls Try.prog 22 #[.pointer (some ⟨b, 0, none⟩)] w fun e w' => e = .returned (.bool true) ∧ ∃ s' r, s'.c = wrap64 (s.c + 1) ∧ S = l ++ r ∧ PopAt w' b q v l most deep old .nilFunc ∧ Sys w' p g q n s' (t + 1) r (Stk.upd m u .idle) (Stk.upd has u (has u ++ l)) ∧ Else [b, p, g] w w' := by
  have hok := Y.env.ok
  have K := Y.gi.ok u hu
  rw [e] at K
  obtain ⟨d0, d1, _⟩ := K.2.2.2 rfl
  have hN := Y.next ht (x := deep) (by omega) (by omega)
  refine (popStep_turn P.at_.cells.2.2.2.2.2 (pop_turn Y.env P.at_ A (c := true) (fun E1 => sturn_yes E1 (by omega) (by omega) (by rw [get_hd]; exact ho.symm)))).mono ?_
  rintro e1 w' ⟨rfl, P', M', E'⟩
  have hM := M'
  rw [ho] at M'
  have hnx := nextW_in (Stk.hdOf s.xs) deep
  rw [ho] at e
  obtain ⟨r, hS, G'⟩ := Y.gi.pop_yes hu e
  refine ⟨rfl, _, r, rfl, hS, P', Y.turn M' E' (apart_q A Y.env) (hok.hit _ _ _ hnx.1 hnx.2) (hit_len _ _ _ _ _) ?_, E'⟩
  have hlen := Y.len
  rw [hit_hd, Stk.hdOf_set_head (by omega), Stk.lkOf_set_head, hN]
  exact G'
/-- Pop: the exchange, that failed. -/
theorem pop_fail (Y : Sys w p g q n s t S m has) {u : Nat} (hu : u < 4) (e : m u = .pop most 2 deep old l) (ho : old ≠ Stk.hdOf s.xs) (P : PopM w b q v l most 2 deep old) (A : Apart b p g q v) :
    Calls Try.prog 22 #[.pointer (some ⟨b, 0, none⟩)] w fun e w' => e = .returned (.bool true) ∧ ∃ s', s'.c = wrap64 (s.c + 1) ∧ s'.xs = s.xs ∧ PopM w' b q v l most 0 deep old ∧ Sys w' p g q n s' t S (Stk.upd m u (.pop most 0 deep old [])) has ∧ Else [b, p, g] w w' := by
  have hok := Y.env.ok
  have K := Y.gi.ok u hu
  rw [e] at K
  obtain ⟨d0, d1, _⟩ := K.2.2.2 rfl
  have hg := hok ((0 : Nat) : Int)
  refine (popStep_turn P.at_.cells.2.2.2.2.2 (pop_turn Y.env P.at_ A (c := false) (fun E1 => sturn_no E1 P.o0 P.o1 (by omega) (by omega) (by rw [get_hd]; exact fun h => ho h.symm)))).mono ?_
  rintro e1 w' ⟨rfl, P', M', E'⟩
  refine ⟨rfl, _, rfl, read_xs _ _ _ _, ⟨P', P.o0, P.o1, P.m1, P.m8, P.l8⟩, Y.turn M' E' (apart_q A Y.env) (hok.hit _ _ _ hg.1 hg.2) (hit_len _ _ _ _ _) ?_, E'⟩
  rw [read_xs]; exact Y.gi.pop_new hu (by rw [e]; rfl) _ _ _
end
end Go.Proofs.Ytalhbebpoohgkaa
