/-
  Texts beneath SupplyAll, part 2: Put, IntMore, Turns, LimMath, Limbo, Limbo2, Limbo3.
-/
import Derived.Test.YtkopplnjomkleaaGreatPart1
import Derived.WalkKit
import Derived.Deep.RegionLaw
/-
  A function turned at one place. No program is named here.
-/
namespace Go.Proofs.YtkopplnjomkleaaGreat
def put {α : Type} (f : Nat → α) (k : Nat) (x : α) : Nat → α := fun j => if j = k then x else f j
@[simp] theorem put_same {α : Type} (f : Nat → α) (k : Nat) (x : α) : put f k x k = x := by simp [put]
theorem put_other {α : Type} (f : Nat → α) {j k : Nat} (x : α) (h : j ≠ k) : put f k x j = f j := by simp [put, h]
theorem put_put {α : Type} (f : Nat → α) (k : Nat) (a b : α) : put (put f k a) k b = put f k b := by funext j; unfold put; split <;> rfl
theorem three {P : Nat → Prop} (h0 : P 0) (h1 : P 1) (h2 : P 2) : ∀ k, k < 3 → P k := by
  intro k hk
  have : k = 0 ∨ k = 1 ∨ k = 2 := by omega
  rcases this with rfl | rfl | rfl <;> assumption
end Go.Proofs.YtkopplnjomkleaaGreat

/-
  More of slices of ints: slices.Clone of whatever list, append as a step of a region that draws, shapes, blocks of an object (Next, less). (Behind IntRow.)
-/
namespace Go.Proofs.YtkopplnjomkleaaGreat
open Go.RowKit
set_option maxRecDepth 100000

/-- Blocks of before, or new ones. -/
def Next (w : World) (F F' : List Nat) : Prop := ∀ b, b ∈ F' → b ∈ F ∨ w.heap.size ≤ b
section
variable {w w1 w2 w' : World} {n : Nat} {F : List Nat} {v : Value} {a : Int} {xs : List Int}
theorem Next.refl (w : World) (F : List Nat) : Next w F F := fun _ h => .inl h
theorem Next.trans {F' F'' : List Nat} (h : Next w F F') (k : Next w' F' F'') (u : w.heap.size ≤ w'.heap.size) : Next w F F'' := fun b hb => (k b hb).elim (h b) (fun h => .inr (by omega))
set_option maxHeartbeats 1000000 in
theorem clone_any {xs : List Int} (R : Rd w v xs) (hl : xs.length ≤ 8192) :
    Calls Tryz.prog 106 #[v] w fun e w' => ∃ v', e = .returned v' ∧ Ints w' v' xs ∧ Fresh w v' ∧ Up w w' := by
  obtain ⟨A, cap, rfl⟩ := R.slice
  have q1 : ∀ (w : World) (a : Option Addr) (n c n' c' : Nat), (binOp .eql 22 (.slice a n c) (.slice none n' c')).run Tryz.prog w = .ok (.bool a.isNone) w := fun w a n c n' c' => Lib.run_eql_slice_nil w _ _ a n c n' c' Tryz.underlying22
  cases A with
  | none =>
    have e : xs = [] := by
      rcases xs with _ | ⟨x, xs⟩
      · rfl
      · obtain ⟨g, off, h, _⟩ := R.cell (j := 0) (by simp); cases h
    subst e
    clear R
    go_enter Tryz.func106, Tryz.ntmps106
    go_wp2_with fail
    go_ret
    exact ⟨_, rfl, Ints.nil _, fresh_nil _, Up.refl _⟩
  | some a =>
    have HR := Lib.hid R
    clear R
    have HO := Lib.hid (ints_of_own (xs := []) (own_empty w) rfl rfl)
    go_enter Tryz.func106, Tryz.ntmps106
    go_wp2_with (at_builtin; refine wpList_app rfl _ _ rfl rfl rfl HO.out (HR.out.up (Up.alloc _ _)) (by simpa using hl) ?_; intro v5 w5 J5 G5 A5; have HJ5 := Lib.hid J5; have HG5 := Lib.hid G5; have HA5 := Lib.hid A5; clear J5 G5 A5)
    go_ret
    have f0 : Fresh w (.slice (some ⟨w.heap.size, 0, none⟩) 0 0) := fun k hk => by simp [Value.ownBlock] at hk; omega
    exact ⟨_, rfl, by simpa using HJ5.out, fresh_app f0 (by simp) HA5.out, up_app (Up.alloc _ _) HG5.out f0⟩
/-- The blocks without one slice's. -/
def less (F : List Nat) (v : Value) : List Nat := F.filter (fun b => decide (v.ownBlock ≠ some b))
theorem mem_less {b : Nat} : b ∈ less F v ↔ b ∈ F ∧ v.ownBlock ≠ some b := by simp [less]
theorem fresh_of_le {a b : World} (Fr : Fresh b v) (h : a.heap.size ≤ b.heap.size) : Fresh a v := fun k hk => Nat.le_trans h (Fr k hk)
theorem shapeI {xs : List Int} (h : Ints w v xs) : ∃ A N c, v = .slice A N c := by obtain ⟨A, c, e⟩ := h.slice; exact ⟨A, _, c, e⟩
theorem Else.grown {s : List Nat} {a : World} {row : Option Nat} (h : Else s a w) (g : w.grownBy w' row) (hr : ∀ k, row = some k → k ∈ s ∨ a.heap.size ≤ k) : Else s a w' :=
  ⟨g.os.trans h.os, g.tape.trans h.tape, g.output.trans h.output, Nat.le_trans h.size g.size, fun k hk hs => (g.block k (Nat.lt_of_lt_of_le hk h.size) (fun e => by rcases hr k e.symm with h' | h'; exact hs h'; omega)).trans (h.block k hk hs)⟩
def nOf : Value → Nat
  | .slice _ n _ => n
  | _ => 0
theorem Ints.nOf {xs : List Int} (h : Ints w v xs) : nOf v = xs.length := by obtain ⟨A, c, rfl⟩ := h.slice; rfl
theorem Ints.one {c : Nat} {A : Option Addr} (J : Ints w (.slice A n c) [a]) : ∃ g, A = some ⟨g, 0, none⟩ ∧ w.cell? ⟨g, 0, none⟩ = some (.int .i64 a) := by
  obtain ⟨A', c', e⟩ := J.slice
  injection e with e1 e2 e3
  subst e1 e2 e3
  obtain ⟨g, h1, h2⟩ := own_cell (j := 0) J (by simp)
  exact ⟨g, h1, by simpa using h2⟩
theorem away_next {F' : List Nat} (A : Away v F) (N : Next w F F') (J : Ints w v xs) : Away v F' := fun b hb e => by
  rcases N b hb with h | h
  · exact A b h e
  · have := J.lt e; omega
/-- append as one step of a region that draws its order. -/
theorem step_app {v2 : Value} {xs ys : List Int} {ops : Array Oper} {o : Oper} {a : Act} {K : Act → World → Prop} {Q : Exit → Act → World → Prop} {E : Prop} (hgd : o.guard = none) (s x : Operand)
    (ho : o.op = .call { callee := .builtin .append, args := #[s, x], argTypes := #[22, 22] }) (hs : a.eval s = v) (hx : a.eval x = v2) (J : Ints w v xs) (Rd2 : Rd w v2 ys) (hl : xs.length + ys.length ≤ 8192)
    (h : ∀ v' w', Ints w' v' (xs ++ ys) → w.grownBy w' v.ownBlock → (v'.ownBlock = v.ownBlock ∨ v'.ownBlock = some w.heap.size) → K (a.put o.dst v') w') : if Region.wanted o (yielded ops a.tmps) = true then Oper.wp Tryz.prog o a w K Q else E := by
  have hw : Region.wanted o (yielded ops a.tmps) = true := by simp [Region.wanted, hgd]
  rw [if_pos hw]
  exact wp_app s x ho hs hx J Rd2 hl h
theorem wf_bounds {x : Int} (h : (Lit.int .i64 x).wf = true) : -9223372036854775808 ≤ x ∧ x < 9223372036854775808 := by
  simp [Lit.wf, IntKind.min, IntKind.max, IntKind.bits, IntKind.signed] at h; omega
theorem row_wf {w : World} {a : Option Addr} {len cap : Nat} {zs : List Int} (h : IsRow .i64 w a len cap zs) {k : Nat} (hk : k < len) : (Lit.int .i64 (zs.getD k 0)).wf = true := by
  rcases h with ⟨_, rfl, _, _⟩ | ⟨x, _, hl, hm, hz, _, hw⟩
  · omega
  · exact hw _ (get_mem (by omega))
end
end Go.Proofs.YtkopplnjomkleaaGreat

/-
  What an object of one's own leaves: its blocks are of before or new, nothing else has turned (Turned); one such step behind another. No program is named here.
-/
namespace Go.Proofs.YtkopplnjomkleaaGreat
open Go.RowKit
set_option maxRecDepth 100000
/-- Behind a call: blocks F' of before or new, of which P holds; nothing but F has turned. -/
def Turned (w w' : World) (F : List Nat) (P : List Nat → Prop) : Prop := ∃ F', P F' ∧ Next w F F' ∧ Else F w w'
section
variable {w w1 w2 w' : World} {F F1 : List Nat} {P Q : List Nat → Prop} {v : Value}
theorem Else.into {s t : List Nat} {a b c : World} (h : Else s a b) (k : Else t b c) (ht : ∀ x ∈ t, x ∈ s ∨ a.heap.size ≤ x) : Else s a c :=
  ⟨k.os.trans h.os, k.tape.trans h.tape, k.output.trans h.output, Nat.le_trans h.size k.size, fun i hi hs => (k.block i (Nat.lt_of_lt_of_le hi h.size) (fun hit => by rcases ht i hit with h1 | h1; exact hs h1; omega)).trans (h.block i hi hs)⟩
theorem Turned.refl (h : P F) : Turned w w F P := ⟨F, h, Next.refl _ _, Else.refl _ _⟩
theorem Turned.imp (T : Turned w w' F P) (h : ∀ F', P F' → Q F') : Turned w w' F Q := by
  obtain ⟨F', p, N, E⟩ := T; exact ⟨F', h F' p, N, E⟩
/-- One step behind another. -/
theorem Turned.trans (N : Next w F F1) (E : Else F w w1) (T : Turned w1 w2 F1 P) : Turned w w2 F P := by
  obtain ⟨F', p, N', E'⟩ := T
  exact ⟨F', p, N.trans N' E.size, E.into E' N⟩
theorem Turned.up (T : Turned w w1 F P) (u : Up w1 w') (h : ∀ F', P F' → Q F') : Turned w w' F Q := by
  obtain ⟨F', p, N, E⟩ := T; exact ⟨F', h F' p, N, E.up u⟩
theorem Turned.before (u : Up w w1) (T : Turned w1 w2 F P) : Turned w w2 F P := by
  obtain ⟨F', p, N, E⟩ := T
  exact ⟨F', p, fun b hb => (N b hb).imp id (fun h => Nat.le_trans u.size h), (Else.of_up u).trans E⟩
theorem next_apart {Fs Fs' Fl : List Nat} (N : Next w Fs Fs') (d : ∀ b ∈ Fs, b ∉ Fl) (lt : ∀ b ∈ Fl, b < w.heap.size) : ∀ b ∈ Fs', b ∉ Fl := by
  intro b hb hl
  rcases N b hb with h | h
  · exact d b h hl
  · have := lt b hl; omega
end
end Go.Proofs.YtkopplnjomkleaaGreat

/-
  What a limbo is, told by three tags, three lists and the greatest tag (Lb): which bucket is the oldest, what is open, what Ready leaves. No program is named here.
-/
namespace Go.Proofs.YtkopplnjomkleaaGreat

/-- A limbo: each bucket's tag, each bucket's items, the greatest tag that was retired. -/
structure Lb where
  T : Nat → Int
  L : Nat → List Int
  last : Int
def Lb.zero : Lb := ⟨fun _ => 0, fun _ => [], 0⟩
/-- The bucket k without its items, and without its tag. -/
def Lb.clear (S : Lb) (k : Nat) : Lb := ⟨put S.T k 0, put S.L k [], S.last⟩
def Lb.add (S : Lb) (k : Nat) (tag : Int) (xs : List Int) : Lb := ⟨put S.T k tag, put S.L k (S.L k ++ xs), tag⟩
def Lb.size (S : Lb) : Nat := (S.L 0).length + (S.L 1).length + (S.L 2).length
/-- How many buckets have items. -/
def Lb.cnt (S : Lb) : Nat := (if S.L 0 = [] then 0 else 1) + (if S.L 1 = [] then 0 else 1) + (if S.L 2 = [] then 0 else 1)
def Lb.retire (S : Lb) (k : Nat) (tag : Int) (xs : List Int) : Lb := (if S.T k < tag then S.clear k else S).add k tag xs
def Lb.taken (S : Lb) (k : Nat) (tag : Int) : List Int := if S.T k < tag then S.L k else []
/-- The better of one bucket (none: no bucket yet) and the bucket k. -/
def Lb.pick (S : Lb) (r : Option Nat) (k : Nat) : Option Nat :=
  if S.L k = [] then r else match r with
    | none => some k
    | some j => if S.T k < S.T j then some k else some j
def Lb.oldTo (S : Lb) : Nat → Option Nat
  | 0 => none
  | k + 1 => S.pick (S.oldTo k) k
def Lb.old (S : Lb) : Option Nat := S.oldTo 3
/-- The bucket that Ready takes next. -/
def Lb.opn (S : Lb) (now : Int) : Option Nat := match S.old with
  | none => none
  | some k => if S.T k + 2 ≤ now then some k else none
def Lb.rdyL : Nat → Lb → Int → List Int
  | 0, _, _ => []
  | n + 1, S, now => match S.opn now with
    | none => []
    | some k => S.L k ++ Lb.rdyL n (S.clear k) now
def Lb.rdyS : Nat → Lb → Int → Lb
  | 0, S, _ => S
  | n + 1, S, now => match S.opn now with
    | none => S
    | some k => Lb.rdyS n (S.clear k) now
/-- What Ready answers, and what it leaves. -/
def Lb.outs (S : Lb) (now : Int) : List Int := Lb.rdyL S.cnt S now
def Lb.rest (S : Lb) (now : Int) : Lb := Lb.rdyS S.cnt S now

/-- What holds of every limbo: tags from 0 to the greatest one that was retired; without items the tag is 0; a bucket's tag is of that bucket. -/
structure Lb.Ok (S : Lb) : Prop where
  lo : ∀ k, k < 3 → 0 ≤ S.T k
  hi : ∀ k, k < 3 → S.T k ≤ S.last
  top : S.last ≤ 4611686018427387903
  nil : ∀ k, k < 3 → S.L k = [] → S.T k = 0
  res : ∀ k, k < 3 → S.L k ≠ [] → S.T k % 3 = k
theorem Lb.Ok.zero : Lb.zero.Ok := ⟨fun _ _ => Int.le_refl _, fun _ _ => Int.le_refl _, by decide, fun _ _ _ => rfl, fun _ _ h => absurd rfl h⟩
theorem Lb.Ok.last0 {S : Lb} (h : S.Ok) : 0 ≤ S.last := Int.le_trans (h.lo 0 (by decide)) (h.hi 0 (by decide))
theorem Lb.Ok.clear {S : Lb} (h : S.Ok) (k : Nat) : (S.clear k).Ok := by
  refine ⟨fun j hj => ?_, fun j hj => ?_, h.top, fun j hj => ?_, fun j hj => ?_⟩
  · unfold Lb.clear put; dsimp only; split
    · exact Int.le_refl _
    · exact h.lo j hj
  · unfold Lb.clear put; dsimp only; split
    · exact h.last0
    · exact h.hi j hj
  · unfold Lb.clear put; dsimp only; split
    · intro; rfl
    · exact h.nil j hj
  · unfold Lb.clear put; dsimp only; split
    · intro h; exact absurd rfl h
    · exact h.res j hj
theorem Lb.Ok.add {S : Lb} (h : S.Ok) {k : Nat} {tag : Int} {xs : List Int} (h0 : S.last ≤ tag) (h1 : tag ≤ 4611686018427387903) (hk : tag % 3 = k) (hx : xs ≠ []) : (S.add k tag xs).Ok := by
  have l0 := h.last0
  refine ⟨fun j hj => ?_, fun j hj => ?_, h1, fun j hj => ?_, fun j hj => ?_⟩
  · unfold Lb.add put; dsimp only; split
    · omega
    · exact h.lo j hj
  · unfold Lb.add put; dsimp only; split
    · exact Int.le_refl _
    · exact Int.le_trans (h.hi j hj) h0
  · unfold Lb.add put; dsimp only; split
    · intro e; simp at e; exact absurd e.2 hx
    · exact h.nil j hj
  · unfold Lb.add put; dsimp only; split
    · intro _; subst_vars; exact hk
    · exact h.res j hj
theorem Lb.Ok.retire {S : Lb} (h : S.Ok) {k : Nat} {tag : Int} {xs : List Int} (h0 : S.last ≤ tag) (h1 : tag ≤ 4611686018427387903) (hk : tag % 3 = k) (hx : xs ≠ []) : (S.retire k tag xs).Ok := by
  unfold Lb.retire
  split
  · exact (h.clear k).add h0 h1 hk hx
  · exact h.add h0 h1 hk hx
theorem Lb.oldTo_lt {S : Lb} : ∀ {n k : Nat}, S.oldTo n = some k → k < n ∧ S.L k ≠ []
  | 0, k, h => by cases h
  | n + 1, k, h => by
    unfold Lb.oldTo Lb.pick at h
    split at h
    · have := Lb.oldTo_lt h; exact ⟨by omega, this.2⟩
    · rename_i hn
      split at h
      · injection h with h; subst h; exact ⟨by omega, hn⟩
      · rename_i j hj
        split at h
        · injection h with h; subst h; exact ⟨by omega, hn⟩
        · injection h with h; subst h; have := Lb.oldTo_lt hj; exact ⟨by omega, this.2⟩
theorem Lb.oldTo_none {S : Lb} : ∀ {n : Nat}, S.oldTo n = none → ∀ k, k < n → S.L k = []
  | 0, _, k, hk => absurd hk (by omega)
  | n + 1, h, k, hk => by
    unfold Lb.oldTo Lb.pick at h
    split at h
    · rename_i hn
      rcases Nat.lt_succ_iff_lt_or_eq.1 hk with h' | rfl
      · exact Lb.oldTo_none h k h'
      · exact hn
    · split at h
      · cases h
      · split at h <;> cases h
theorem Lb.oldTo_least {S : Lb} : ∀ {n k : Nat}, S.oldTo n = some k → ∀ j, j < n → S.L j ≠ [] → S.T k ≤ S.T j
  | 0, _, h, _, _, _ => by cases h
  | n + 1, k, h, j, hj, hl => by
    unfold Lb.oldTo Lb.pick at h
    split at h
    · rename_i hn
      rcases Nat.lt_succ_iff_lt_or_eq.1 hj with h' | rfl
      · exact Lb.oldTo_least h j h' hl
      · exact absurd hn hl
    · split at h
      · rename_i hno
        injection h with h; subst h
        rcases Nat.lt_succ_iff_lt_or_eq.1 hj with h' | rfl
        · exact absurd (Lb.oldTo_none hno j h') hl
        · exact Int.le_refl _
      · rename_i i hi
        split at h
        · rename_i hlt
          injection h with h; subst h
          rcases Nat.lt_succ_iff_lt_or_eq.1 hj with h' | rfl
          · have := Lb.oldTo_least hi j h' hl; omega
          · exact Int.le_refl _
        · rename_i hlt
          injection h with h; subst h
          rcases Nat.lt_succ_iff_lt_or_eq.1 hj with h' | rfl
          · exact Lb.oldTo_least hi j h' hl
          · omega
theorem Lb.opn_some {S : Lb} {now : Int} {k : Nat} (h : S.opn now = some k) : S.old = some k ∧ k < 3 ∧ S.L k ≠ [] ∧ S.T k + 2 ≤ now := by
  unfold Lb.opn at h
  split at h
  · cases h
  · rename_i j hj
    split at h
    · injection h with h; subst h
      have := Lb.oldTo_lt hj
      exact ⟨hj, this.1, this.2, by assumption⟩
    · cases h
theorem Lb.opn_none {S : Lb} {now : Int} (h : S.opn now = none) : ∀ k, k < 3 → S.L k ≠ [] → now < S.T k + 2 := by
  intro k hk hl
  unfold Lb.opn at h
  split at h
  · rename_i hn; exact absurd (Lb.oldTo_none hn k hk) hl
  · rename_i j hj
    split at h
    · cases h
    · have := Lb.oldTo_least hj k hk hl; omega
theorem Lb.cnt_clear {S : Lb} {k : Nat} (hk : k < 3) (hl : S.L k ≠ []) : S.cnt = (S.clear k).cnt + 1 := by
  have : k = 0 ∨ k = 1 ∨ k = 2 := by omega
  unfold Lb.cnt Lb.clear put
  rcases this with rfl | rfl | rfl <;> simp [hl] <;> omega
theorem Lb.size_clear {S : Lb} {k : Nat} (hk : k < 3) : S.size = (S.clear k).size + (S.L k).length := by
  have : k = 0 ∨ k = 1 ∨ k = 2 := by omega
  unfold Lb.size Lb.clear put
  rcases this with rfl | rfl | rfl <;> simp <;> omega
theorem Lb.size_add {S : Lb} {k : Nat} (hk : k < 3) (tag : Int) (xs : List Int) : (S.add k tag xs).size = S.size + xs.length := by
  have : k = 0 ∨ k = 1 ∨ k = 2 := by omega
  unfold Lb.size Lb.add put
  rcases this with rfl | rfl | rfl <;> simp <;> omega
theorem Lb.len_le {S : Lb} {k : Nat} (hk : k < 3) : (S.L k).length ≤ S.size := by have := S.size_clear hk; omega
theorem Lb.size_retire {S : Lb} {k : Nat} (hk : k < 3) (tag : Int) (xs : List Int) : (S.retire k tag xs).size + (S.taken k tag).length = S.size + xs.length := by
  unfold Lb.retire Lb.taken
  split
  · rw [Lb.size_add hk]; have := S.size_clear hk; omega
  · rw [Lb.size_add hk]; simp
/-- One step of Ready. -/
theorem Lb.outs_some {S : Lb} {now : Int} {k : Nat} (h : S.opn now = some k) : S.outs now = S.L k ++ (S.clear k).outs now ∧ S.rest now = (S.clear k).rest now := by
  obtain ⟨_, hk, hl, _⟩ := Lb.opn_some h
  unfold Lb.outs Lb.rest
  rw [Lb.cnt_clear hk hl]
  simp only [Lb.rdyL, Lb.rdyS, h]
  exact ⟨trivial, trivial⟩
theorem Lb.outs_none {S : Lb} {now : Int} (h : S.opn now = none) : S.outs now = [] ∧ S.rest now = S := by
  unfold Lb.outs Lb.rest
  cases S.cnt <;> simp [Lb.rdyL, Lb.rdyS, h]
/-- A thing that holds of S and goes over each step holds at the end. -/
theorem Lb.walk {now : Int} {P : Lb → List Int → Prop} (step : ∀ S o k, P S o → S.opn now = some k → P (S.clear k) (o ++ S.L k)) :
    ∀ (n : Nat) (S : Lb) (o : List Int), S.cnt = n → P S o → P (S.rest now) (o ++ S.outs now) ∧ (S.rest now).opn now = none
  | n, S, o, hn, hP => by
    rcases h : S.opn now with _ | k
    · obtain ⟨e1, e2⟩ := Lb.outs_none h
      rw [e1, e2, List.append_nil]; exact ⟨hP, h⟩
    · obtain ⟨_, hk, hl, _⟩ := Lb.opn_some h
      obtain ⟨e1, e2⟩ := Lb.outs_some h
      have hc := Lb.cnt_clear hk hl
      rw [e1, e2, ← List.append_assoc]
      match n, hn with
      | 0, hn => omega
      | n + 1, hn => exact Lb.walk step n (S.clear k) (o ++ S.L k) (by omega) (step S o k hP h)
theorem Lb.rest_ok {S : Lb} (h : S.Ok) (now : Int) : (S.rest now).Ok ∧ (S.rest now).last = S.last ∧ (S.rest now).size + (S.outs now).length = S.size ∧ (S.rest now).opn now = none := by
  have := Lb.walk (now := now) (P := fun R o => R.Ok ∧ R.last = S.last ∧ R.size + o.length = S.size) (fun R o k ⟨h1, h2, h3⟩ hk => ⟨h1.clear k, h2, by have := R.size_clear (Lb.opn_some hk).2.1; rw [List.length_append]; omega⟩) _ S [] rfl ⟨h, rfl, by simp⟩
  simpa only [List.nil_append, and_assoc] using this
end Go.Proofs.YtkopplnjomkleaaGreat

/-
  Package limbo: the limbo in memory (Lim), the contracts of New, oldest, Open, empty, Bucket, Len.
-/
namespace Go.Proofs.YtkopplnjomkleaaGreat
open Go.RowKit
set_option maxRecDepth 100000

/-- The limbo S lies at q; its buckets' slices are V; all its blocks are among F. -/
structure LimV (w : World) (q : Nat) (F : List Nat) (S : Lb) (V : Nat → Value) : Prop where
  top : Whole w q 174 #[.int .i64 (S.T 0), V 0, .int .i64 (S.T 1), V 1, .int .i64 (S.T 2), V 2, .int .i64 S.last]
  ints : ∀ k, k < 3 → Ints w (V k) (S.L k)
  mem : q ∈ F
  inF : ∀ k, k < 3 → ∀ b, (V k).ownBlock = some b → b ∈ F
  nq : ∀ k, k < 3 → (V k).ownBlock ≠ some q
  dis : ∀ j k, j < 3 → k < 3 → j ≠ k → ∀ b, (V j).ownBlock = some b → (V k).ownBlock ≠ some b
  lt : ∀ b, b ∈ F → b < w.heap.size
  ok : S.Ok
def Lim (w : World) (q : Nat) (F : List Nat) (S : Lb) : Prop := ∃ V, LimV w q F S V
section
variable {w w' : World} {q : Nat} {F : List Nat} {S : Lb} {V : Nat → Value} {v : Value}
theorem LimV.up (E : LimV w q F S V) (u : Up w w') : LimV w' q F S V :=
  ⟨E.top.up u, fun k hk => (E.ints k hk).up u, E.mem, E.inF, E.nq, E.dis, fun b hb => Nat.lt_of_lt_of_le (E.lt b hb) u.size, E.ok⟩
theorem LimV.else (E : LimV w q F S V) {l : List Nat} (u : Else l w w') (h : ∀ b, b ∈ F → b ∉ l) : LimV w' q F S V :=
  ⟨u.whole E.top (h _ E.mem), fun k hk => (E.ints k hk).else u (fun b hb e => h b (E.inF k hk b e) hb), E.mem, E.inF, E.nq, E.dis, fun b hb => Nat.lt_of_lt_of_le (E.lt b hb) u.size, E.ok⟩
theorem Lim.up (E : Lim w q F S) (u : Up w w') : Lim w' q F S := E.imp fun _ E => E.up u
theorem Lim.else (E : Lim w q F S) {l : List Nat} (u : Else l w w') (h : ∀ b, b ∈ F → b ∉ l) : Lim w' q F S := E.imp fun _ E => E.else u h
theorem Lim.ok (E : Lim w q F S) : S.Ok := E.elim fun _ E => E.ok
theorem Lim.lt (E : Lim w q F S) : ∀ b, b ∈ F → b < w.heap.size := E.elim fun _ E => E.lt
theorem Lim.mem (E : Lim w q F S) : q ∈ F := E.elim fun _ E => E.mem
theorem LimV.cells (E : LimV w q F S V) : w.cell? ⟨q, 0, none⟩ = some (.int .i64 (S.T 0)) ∧ w.cell? ⟨q, 1, none⟩ = some (V 0) ∧ w.cell? ⟨q, 2, none⟩ = some (.int .i64 (S.T 1)) ∧ w.cell? ⟨q, 3, none⟩ = some (V 1) ∧
    w.cell? ⟨q, 4, none⟩ = some (.int .i64 (S.T 2)) ∧ w.cell? ⟨q, 5, none⟩ = some (V 2) ∧ w.cell? ⟨q, 6, none⟩ = some (.int .i64 S.last) :=
  ⟨E.top.cell rfl, E.top.cell rfl, E.top.cell rfl, E.top.cell rfl, E.top.cell rfl, E.top.cell rfl, E.top.cell rfl⟩
/-- The three slices, each as such. -/
theorem LimV.slices (E : LimV w q F S V) : ∃ A0 c0 A1 c1 A2 c2, V 0 = .slice A0 (S.L 0).length c0 ∧ V 1 = .slice A1 (S.L 1).length c1 ∧ V 2 = .slice A2 (S.L 2).length c2 := by
  obtain ⟨A0, c0, h0⟩ := (E.ints 0 (by decide)).slice
  obtain ⟨A1, c1, h1⟩ := (E.ints 1 (by decide)).slice
  obtain ⟨A2, c2, h2⟩ := (E.ints 2 (by decide)).slice
  exact ⟨A0, c0, A1, c1, A2, c2, h0, h1, h2⟩
set_option maxHeartbeats 400000 in
theorem lnew_any (w : World) : Calls Tryz.prog 64 #[] w fun e w' => e = .returned (.pointer (some ⟨w.heap.size, 0, none⟩)) ∧ Lim w' w.heap.size [w.heap.size] Lb.zero ∧ Up w w' := by
  go_enter Tryz.func64, Tryz.ntmps64
  go_wp2
  go_ret
  refine ⟨rfl, ⟨fun _ => .slice none 0 0, ?_⟩, Up.alloc _ _⟩
  refine ⟨Whole.new _ _ _, fun k hk => Ints.nil _, by simp, fun k hk b hb => ?_, fun k hk hb => ?_, fun j k hj hk hjk b hb => ?_, fun b hb => ?_, Lb.Ok.zero⟩
  · simp [Value.ownBlock] at hb
  · simp [Value.ownBlock] at hb
  · simp [Value.ownBlock] at hb
  · simp at hb; subst hb; simp
/-- A bucket's address; none: nil. -/
def bptr (q : Nat) : Option Nat → Value
  | none => .pointer none
  | some k => .pointer (some ⟨q, 2 * k, none⟩)
end
end Go.Proofs.YtkopplnjomkleaaGreat

/-
  Package limbo: the contracts of oldest, Open, empty.
-/
namespace Go.Proofs.YtkopplnjomkleaaGreat
open Go.RowKit
set_option maxRecDepth 100000
section
variable {w w' : World} {q : Nat} {F : List Nat} {S : Lb} {V : Nat → Value} {v : Value}
def OldRel (w : World) (q : Nat) (S : Lb) (v i : Value) (wr : World) : Prop := ∃ k : Nat, k ≤ 3 ∧ i = .int .i64 k ∧ v = bptr q (S.oldTo k) ∧ Up w wr
theorem len_pos {xs : List Int} (h : xs ≠ []) : (0 : Int) < (xs.length : Int) := by have := List.length_pos_iff.2 h; omega
theorem pick_nil {S : Lb} {r : Option Nat} {k : Nat} (h : S.L k = []) : S.pick r k = r := by unfold Lb.pick; rw [if_pos h]
theorem pick_first {S : Lb} {k : Nat} (h : S.L k ≠ []) : S.pick none k = some k := by unfold Lb.pick; rw [if_neg h]
theorem pick_less {S : Lb} {j k : Nat} (h : S.L k ≠ []) (h1 : S.T k < S.T j) : S.pick (some j) k = some k := by unfold Lb.pick; rw [if_neg h]; dsimp only; rw [if_pos h1]
theorem pick_more {S : Lb} {j k : Nat} (h : S.L k ≠ []) (h1 : ¬ S.T k < S.T j) : S.pick (some j) k = some j := by unfold Lb.pick; rw [if_neg h]; dsimp only; rw [if_neg h1]
theorem bptr_none (q : Nat) : bptr q none = .pointer none := rfl
theorem bptr_0 (q : Nat) : bptr q (some 0) = .pointer (some ⟨q, 0, none⟩) := rfl
theorem bptr_1 (q : Nat) : bptr q (some 1) = .pointer (some ⟨q, 2, none⟩) := rfl
theorem bptr_2 (q : Nat) : bptr q (some 2) = .pointer (some ⟨q, 4, none⟩) := rfl
set_option maxHeartbeats 4000000 in
theorem oldest_any (E : Lim w q F S) : Calls Tryz.prog 130 #[.pointer (some ⟨q, 0, none⟩)] w fun e w' => e = .returned (bptr q S.old) ∧ Up w w' := by
  obtain ⟨V, E⟩ := E
  obtain ⟨A0, d0, A1, d1, A2, d2, v0, v1, v2⟩ := E.slices
  obtain ⟨c0, c1, c2, c3, c4, c5, c6⟩ := E.cells
  rw [v0] at c1
  rw [v1] at c3
  rw [v2] at c5
  have HC := Lib.hid (And.intro c0 (And.intro c1 (And.intro c2 (And.intro c3 (And.intro c4 c5)))))
  clear c0 c1 c2 c3 c4 c5 c6 v0 v1 v2 E
  go_enter Tryz.func130, Tryz.ntmps130
  go_wp2_with fail
  go_loopw [3, 6] (fun v i wr => OldRel w q S v i wr) (fun _ i _ => 3 - (intOf i).toNat)
  case atStart => exact ⟨0, Nat.zero_le _, rfl, rfl, Up.refl _⟩
  case round =>
    obtain ⟨k, hk, rfl, rfl, hu⟩ := hrel
    have HU := Lib.hid hu
    obtain ⟨c0, c1, c2, c3, c4, c5⟩ := HC.out
    replace c0 := hu.kept c0
    replace c1 := hu.kept c1
    replace c2 := hu.kept c2
    replace c3 := hu.kept c3
    replace c4 := hu.kept c4
    replace c5 := hu.kept c5
    clear hu
    have : k = 0 ∨ k = 1 ∨ k = 2 ∨ k = 3 := by omega
    rcases this with rfl | rfl | rfl | rfl
    · obtain ⟨r, hr⟩ : ∃ r, S.oldTo 0 = r := ⟨_, rfl⟩
      have HR := Lib.hid hr
      rw [hr]
      obtain rfl : r = none := hr.symm
      clear hr
      rw [bptr_none]
      by_cases hl : S.L 0 = []
      · have HP := Lib.hid (pick_nil (S := S) (r := none) hl)
        have e : (S.L 0).length = 0 := by rw [hl]; rfl
        rw [e] at c1
        clear hl e
        go_upto_region 6 with fail
        go_quiet (fail)
        go_wp2_with fail
        go_roundw
        case rel => exact ⟨1, by omega, by go_num, by rw [show S.oldTo 1 = S.pick (S.oldTo 0) 0 from rfl, HR.out, HP.out]; rfl, HU.out.then_drewN nq⟩
        case measure => simp [intOf]
      · have HP := Lib.hid (pick_first hl)
        have hp : 0 < (S.L 0).length := List.length_pos_iff.2 hl
        clear hl
        go_upto_region 6 with fail
        go_quiet (fail)
        go_wp2_with fail
        go_roundw
        case rel => exact ⟨1, by omega, by go_num, by rw [show S.oldTo 1 = S.pick (S.oldTo 0) 0 from rfl, HR.out, HP.out]; rfl, HU.out.then_drewN nq⟩
        case measure => simp [intOf]
    · obtain ⟨r, hr⟩ : ∃ r, S.oldTo 1 = r := ⟨_, rfl⟩
      have HR := Lib.hid hr
      rw [hr]
      rcases r with _ | j
      · clear hr
        rw [bptr_none]
        by_cases hl : S.L 1 = []
        · have HP := Lib.hid (pick_nil (S := S) (r := none) hl)
          have e : (S.L 1).length = 0 := by rw [hl]; rfl
          rw [e] at c3
          clear hl e
          go_upto_region 6 with fail
          go_quiet (fail)
          go_wp2_with fail
          go_roundw
          case rel => exact ⟨2, by omega, by go_num, by rw [show S.oldTo 2 = S.pick (S.oldTo 1) 1 from rfl, HR.out, HP.out]; rfl, HU.out.then_drewN nq⟩
          case measure => simp [intOf]
        · have HP := Lib.hid (pick_first hl)
          have hp : 0 < (S.L 1).length := List.length_pos_iff.2 hl
          clear hl
          go_upto_region 6 with fail
          go_quiet (fail)
          go_wp2_with fail
          go_roundw
          case rel => exact ⟨2, by omega, by go_num, by rw [show S.oldTo 2 = S.pick (S.oldTo 1) 1 from rfl, HR.out, HP.out]; rfl, HU.out.then_drewN nq⟩
          case measure => simp [intOf]
      · have hj := (Lb.oldTo_lt hr).1
        clear hr
        obtain rfl : j = 0 := by omega
        rw [bptr_0]
        by_cases hl : S.L 1 = []
        · have HP := Lib.hid (pick_nil (S := S) (r := (some 0)) hl)
          have e : (S.L 1).length = 0 := by rw [hl]; rfl
          rw [e] at c3
          clear hl e
          go_upto_region 6 with fail
          go_quiet (fail)
          go_wp2_with fail
          go_roundw
          case rel => exact ⟨2, by omega, by go_num, by rw [show S.oldTo 2 = S.pick (S.oldTo 1) 1 from rfl, HR.out, HP.out]; rfl, HU.out.then_drewN nq⟩
          case measure => simp [intOf]
        · have hp : 0 < (S.L 1).length := List.length_pos_iff.2 hl
          by_cases ht : S.T 1 < S.T 0
          · have HP := Lib.hid (pick_less hl ht)
            clear hl
            go_upto_region 6 with fail
            go_quiet (fail)
            go_wp2_with fail
            go_roundw
            case rel => exact ⟨2, by omega, by go_num, by rw [show S.oldTo 2 = S.pick (S.oldTo 1) 1 from rfl, HR.out, HP.out]; rfl, HU.out.then_drewN nq⟩
            case measure => simp [intOf]
          · have HP := Lib.hid (pick_more hl ht)
            clear hl
            have hd : decide (S.T 1 < S.T 0) = false := decide_eq_false ht
            go_upto_region 6 with fail
            go_quiet (fail)
            go_wp2_with fail
            go_roundw
            case rel => exact ⟨2, by omega, by go_num, by rw [show S.oldTo 2 = S.pick (S.oldTo 1) 1 from rfl, HR.out, HP.out]; rfl, HU.out.then_drewN nq⟩
            case measure => simp [intOf]
    · obtain ⟨r, hr⟩ : ∃ r, S.oldTo 2 = r := ⟨_, rfl⟩
      have HR := Lib.hid hr
      rw [hr]
      rcases r with _ | j
      · clear hr
        rw [bptr_none]
        by_cases hl : S.L 2 = []
        · have HP := Lib.hid (pick_nil (S := S) (r := none) hl)
          have e : (S.L 2).length = 0 := by rw [hl]; rfl
          rw [e] at c5
          clear hl e
          go_upto_region 6 with fail
          go_quiet (fail)
          go_wp2_with fail
          go_roundw
          case rel => exact ⟨3, by omega, by go_num, by rw [show S.oldTo 3 = S.pick (S.oldTo 2) 2 from rfl, HR.out, HP.out]; rfl, HU.out.then_drewN nq⟩
          case measure => simp [intOf]
        · have HP := Lib.hid (pick_first hl)
          have hp : 0 < (S.L 2).length := List.length_pos_iff.2 hl
          clear hl
          go_upto_region 6 with fail
          go_quiet (fail)
          go_wp2_with fail
          go_roundw
          case rel => exact ⟨3, by omega, by go_num, by rw [show S.oldTo 3 = S.pick (S.oldTo 2) 2 from rfl, HR.out, HP.out]; rfl, HU.out.then_drewN nq⟩
          case measure => simp [intOf]
      · have hj := (Lb.oldTo_lt hr).1
        clear hr
        have : j = 0 ∨ j = 1 := by omega
        rcases this with rfl | rfl
        · rw [bptr_0]
          by_cases hl : S.L 2 = []
          · have HP := Lib.hid (pick_nil (S := S) (r := (some 0)) hl)
            have e : (S.L 2).length = 0 := by rw [hl]; rfl
            rw [e] at c5
            clear hl e
            go_upto_region 6 with fail
            go_quiet (fail)
            go_wp2_with fail
            go_roundw
            case rel => exact ⟨3, by omega, by go_num, by rw [show S.oldTo 3 = S.pick (S.oldTo 2) 2 from rfl, HR.out, HP.out]; rfl, HU.out.then_drewN nq⟩
            case measure => simp [intOf]
          · have hp : 0 < (S.L 2).length := List.length_pos_iff.2 hl
            by_cases ht : S.T 2 < S.T 0
            · have HP := Lib.hid (pick_less hl ht)
              clear hl
              go_upto_region 6 with fail
              go_quiet (fail)
              go_wp2_with fail
              go_roundw
              case rel => exact ⟨3, by omega, by go_num, by rw [show S.oldTo 3 = S.pick (S.oldTo 2) 2 from rfl, HR.out, HP.out]; rfl, HU.out.then_drewN nq⟩
              case measure => simp [intOf]
            · have HP := Lib.hid (pick_more hl ht)
              clear hl
              have hd : decide (S.T 2 < S.T 0) = false := decide_eq_false ht
              go_upto_region 6 with fail
              go_quiet (fail)
              go_wp2_with fail
              go_roundw
              case rel => exact ⟨3, by omega, by go_num, by rw [show S.oldTo 3 = S.pick (S.oldTo 2) 2 from rfl, HR.out, HP.out]; rfl, HU.out.then_drewN nq⟩
              case measure => simp [intOf]
        · rw [bptr_1]
          by_cases hl : S.L 2 = []
          · have HP := Lib.hid (pick_nil (S := S) (r := (some 1)) hl)
            have e : (S.L 2).length = 0 := by rw [hl]; rfl
            rw [e] at c5
            clear hl e
            go_upto_region 6 with fail
            go_quiet (fail)
            go_wp2_with fail
            go_roundw
            case rel => exact ⟨3, by omega, by go_num, by rw [show S.oldTo 3 = S.pick (S.oldTo 2) 2 from rfl, HR.out, HP.out]; rfl, HU.out.then_drewN nq⟩
            case measure => simp [intOf]
          · have hp : 0 < (S.L 2).length := List.length_pos_iff.2 hl
            by_cases ht : S.T 2 < S.T 1
            · have HP := Lib.hid (pick_less hl ht)
              clear hl
              go_upto_region 6 with fail
              go_quiet (fail)
              go_wp2_with fail
              go_roundw
              case rel => exact ⟨3, by omega, by go_num, by rw [show S.oldTo 3 = S.pick (S.oldTo 2) 2 from rfl, HR.out, HP.out]; rfl, HU.out.then_drewN nq⟩
              case measure => simp [intOf]
            · have HP := Lib.hid (pick_more hl ht)
              clear hl
              have hd : decide (S.T 2 < S.T 1) = false := decide_eq_false ht
              go_upto_region 6 with fail
              go_quiet (fail)
              go_wp2_with fail
              go_roundw
              case rel => exact ⟨3, by omega, by go_num, by rw [show S.oldTo 3 = S.pick (S.oldTo 2) 2 from rfl, HR.out, HP.out]; rfl, HU.out.then_drewN nq⟩
              case measure => simp [intOf]
    · go_wp2_with fail
      go_ret
      exact ⟨rfl, HU.out⟩
    -- end of the round
end
end Go.Proofs.YtkopplnjomkleaaGreat

/-
  Package limbo: the contracts of Open, empty, Bucket, Len.
-/
namespace Go.Proofs.YtkopplnjomkleaaGreat
open Go.RowKit
set_option maxRecDepth 100000
section
variable {w w' : World} {q : Nat} {F : List Nat} {S : Lb} {V : Nat → Value} {v : Value}
def Lb.isOpen (S : Lb) (now : Int) : Bool := (S.opn now).isSome
theorem opn_of_none {S : Lb} {now : Int} (h : S.old = none) : S.opn now = none := by unfold Lb.opn; rw [h]
theorem opn_of_yes {S : Lb} {now : Int} {k : Nat} (h : S.old = some k) (h1 : S.T k + 2 ≤ now) : S.opn now = some k := by unfold Lb.opn; rw [h]; dsimp only; rw [if_pos h1]
theorem opn_of_no {S : Lb} {now : Int} {k : Nat} (h : S.old = some k) (h1 : ¬ S.T k + 2 ≤ now) : S.opn now = none := by unfold Lb.opn; rw [h]; dsimp only; rw [if_neg h1]
theorem oldest_to (E : Lim w q F S) {r : Option Nat} (h : S.old = r) : Calls Tryz.prog 130 #[.pointer (some ⟨q, 0, none⟩)] w fun e w' => e = .returned (bptr q r) ∧ Up w w' := h ▸ oldest_any E
/-- A bucket's two cells. -/
theorem LimV.at_ (E : LimV w q F S V) {k : Nat} (hk : k < 3) : w.cell? ⟨q, 2 * k, none⟩ = some (.int .i64 (S.T k)) ∧ w.cell? ⟨q, 2 * k + 1, none⟩ = some (V k) := by
  obtain ⟨c0, c1, c2, c3, c4, c5, c6⟩ := E.cells
  have : k = 0 ∨ k = 1 ∨ k = 2 := by omega
  rcases this with rfl | rfl | rfl
  · exact ⟨c0, c1⟩
  · exact ⟨c2, c3⟩
  · exact ⟨c4, c5⟩
set_option maxHeartbeats 1000000 in
theorem open_any (E : Lim w q F S) (now : Int) : Calls Tryz.prog 129 #[.pointer (some ⟨q, 0, none⟩), .int .i64 now] w fun e w' => e = .returned (.bool (S.isOpen now)) ∧ Up w w' := by
  have HE := Lib.hid E
  rcases h : S.old with _ | k
  · have e : S.isOpen now = false := by unfold Lb.isOpen; rw [opn_of_none h]; rfl
    rw [e]
    have HO := Lib.hid h
    clear h e E
    go_enter Tryz.func129, Tryz.ntmps129
    go_wp2_with (go_at_call 130; refine (oldest_to HE.out HO.out).mono ?_; rintro e w1 ⟨rfl, U1⟩; rw [bptr_none])
    go_ret
    exact ⟨rfl, U1⟩
  · have hk := (Lb.oldTo_lt h).1
    obtain ⟨V, EV⟩ := E
    have l0 := EV.ok.lo k hk
    have l1 := EV.ok.hi k hk
    have l2 := EV.ok.top
    have c := Lib.hid (EV.at_ hk).1
    have a1 : wrap64 (S.T k + 2) = S.T k + 2 := wrap64_in (by omega) (by omega)
    have HO := Lib.hid h
    by_cases ht : S.T k + 2 ≤ now
    · have e : S.isOpen now = true := by unfold Lb.isOpen; rw [opn_of_yes h ht]; rfl
      rw [e]
      clear h e EV
      go_enter Tryz.func129, Tryz.ntmps129
      go_wp2_with (go_at_call 130; refine (oldest_to HE.out HO.out).mono ?_; rintro e w1 ⟨rfl, U1⟩; have c1 := U1.kept c.out; unfold bptr)
      go_ret
      exact ⟨rfl, U1⟩
    · have e : S.isOpen now = false := by unfold Lb.isOpen; rw [opn_of_no h ht]; rfl
      rw [e]
      clear h e EV
      go_enter Tryz.func129, Tryz.ntmps129
      go_wp2_with (go_at_call 130; refine (oldest_to HE.out HO.out).mono ?_; rintro e w1 ⟨rfl, U1⟩; have c1 := U1.kept c.out; unfold bptr)
      go_ret
      exact ⟨ret_bool (by first | rfl | (apply decide_eq_false; omega)), U1⟩
end
end Go.Proofs.YtkopplnjomkleaaGreat
