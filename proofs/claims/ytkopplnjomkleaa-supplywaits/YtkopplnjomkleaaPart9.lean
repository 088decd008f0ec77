/-
  Texts beneath SupplyWaits, part 9: Ints, ProSup, Stack1, StackMath.
-/
import Derived.Test.YtkopplnjomkleaaPart8
import Derived.Maps.OwnSet
import Derived.Lib.SliceRun
import Derived.Lib.Hide
/-
  Slices of ints: one that is read (Rd), one that is the whole of a block of its own (Ints); a set of ints in a map; slices.Clone; areItems.
-/
namespace Go.Proofs.Ytkopplnjomkleaa
open Go.RowKit
open Go.Maps
set_option maxRecDepth 100000

def I (l : List Nat) : List Int := l.map (fun x : Nat => (x : Int))
theorem I_len (l : List Nat) : (I l).length = l.length := by simp [I]
theorem I_get {l : List Nat} {j : Nat} (h : j < l.length) : (I l).getD j 0 = (l.getD j 0 : Nat) := by simp [I, List.getD, h]
/-! ### A set of ints, in a map of the call's own -/
def SetAt (w : World) (b k : Nat) (xs : List Int) : Prop :=
  ∃ D : DataW Unit, w.ownsMap Try.prog 3 (plainElem Try.prog 4) b k D ∧ ∀ i : Int, D.atKey (.int .i64 i) (.lit (.bool false)) = .lit (.bool (decide (i ∈ xs)))
theorem keyLaw : Keyed Try.prog 3 := int_keyed Try.underlying3
theorem zeroB (w : World) : (zeroValue 4).run Try.prog w = .ok (.bool false) w := by kernel_rfl
theorem plain_bool_inv {v : Value} {d : DataW Unit} {ps : List MemPlace} {x : Bool} (h : plainElem Try.prog 4 v = some (d, ps)) (hd : d = .lit (.bool x)) : v = .bool x := by
  unfold plainElem at h
  rw [Try.underlying4] at h
  cases v <;> simp at h
  rw [← h.1] at hd
  simpa using hd
theorem SetAt.made (w : World) : SetAt (w.alloc (.map #[] 0)) w.heap.size 0 [] :=
  ⟨.map [], World.ownsMap_made _ _ _ _, fun i => by simp [DataW.atKey]⟩
theorem SetAt.lt {w : World} {b k : Nat} {xs : List Int} (h : SetAt w b k xs) : b < w.heap.size := by
  obtain ⟨D, ho, _⟩ := h; exact ho.lt
end Go.Proofs.Ytkopplnjomkleaa

/-
  The program's supply of a worker (PSu), whatever its object's row is: a stash, a limbo, all its blocks among F; what the stash's and the limbo's calls leave of it.
-/
namespace Go.Proofs.Ytkopplnjomkleaa
open Go.RowKit
set_option maxRecDepth 100000
set_option linter.unusedSimpArgs false
structure PSuV (w : World) (b : Nat) (rw_ : Array Value) (qs ql : Nat) (F : List Nat) (m : Int) (st : List Int) (R : Lb) (Fs Fl : List Nat) : Prop where
  obj : Whole w b 80 rw_
  sta : Sta 127 w qs Fs m st
  lim : Lim w ql Fl R
  sF : ∀ x ∈ Fs, x ∈ F
  lF : ∀ x ∈ Fl, x ∈ F
  dis : ∀ x ∈ Fs, x ∉ Fl
  bs : b ∉ Fs
  bl : b ∉ Fl
  bF : b ∈ F
  lt : ∀ x ∈ F, x < w.heap.size
/-- The program's supply lies at b; its stash has at most m ahead of Over, the items st; its limbo is R; all its blocks are among F. -/
def PSu (w : World) (b : Nat) (rw_ : Array Value) (qs ql : Nat) (F : List Nat) (m : Int) (st : List Int) (R : Lb) : Prop := ∃ Fs Fl, PSuV w b rw_ qs ql F m st R Fs Fl
section
variable {w w1 w' : World} {b qs ql : Nat} {rw_ : Array Value} {F Fs Fl : List Nat} {m now tag : Int} {st st' xs : List Int} {R R' : Lb} {o v : Value}
theorem PSuV.up (E : PSuV w b rw_ qs ql F m st R Fs Fl) (u : Up w w') : PSuV w' b rw_ qs ql F m st R Fs Fl := ⟨E.obj.up u, E.sta.up u, E.lim.up u, E.sF, E.lF, E.dis, E.bs, E.bl, E.bF, fun x hx => Nat.lt_of_lt_of_le (E.lt x hx) u.size⟩
theorem PSuV.else (E : PSuV w b rw_ qs ql F m st R Fs Fl) {l : List Nat} (u : Else l w w') (h : ∀ x ∈ F, x ∉ l) : PSuV w' b rw_ qs ql F m st R Fs Fl :=
  ⟨u.whole E.obj (h b E.bF), E.sta.else u (fun x hx => h x (E.sF x hx)), E.lim.else u (fun x hx => h x (E.lF x hx)), E.sF, E.lF, E.dis, E.bs, E.bl, E.bF, fun x hx => Nat.lt_of_lt_of_le (E.lt x hx) u.size⟩
theorem PSu.up (E : PSu w b rw_ qs ql F m st R) (u : Up w w') : PSu w' b rw_ qs ql F m st R := by obtain ⟨Fs, Fl, E⟩ := E; exact ⟨Fs, Fl, E.up u⟩
theorem PSu.else (E : PSu w b rw_ qs ql F m st R) {l : List Nat} (u : Else l w w') (h : ∀ x ∈ F, x ∉ l) : PSu w' b rw_ qs ql F m st R := by obtain ⟨Fs, Fl, E⟩ := E; exact ⟨Fs, Fl, E.else u h⟩
theorem PSu.obj (E : PSu w b rw_ qs ql F m st R) : Whole w b 80 rw_ := by obtain ⟨_, _, E⟩ := E; exact E.obj
theorem PSu.lt (E : PSu w b rw_ qs ql F m st R) : ∀ x ∈ F, x < w.heap.size := by obtain ⟨_, _, E⟩ := E; exact E.lt
theorem PSu.bF (E : PSu w b rw_ qs ql F m st R) : b ∈ F := by obtain ⟨_, _, E⟩ := E; exact E.bF
/-- The stash is turned. -/
theorem PSuV.sgave (E : PSuV w b rw_ qs ql F m st R Fs Fl) (G : SGave 127 w w' qs Fs m st') : Turned w w' F fun F' => PSu w' b rw_ qs ql F' m st' R := by
  obtain ⟨Fs', S', N, X⟩ := G
  have d' := next_apart N E.dis (fun x hx => E.lt x (E.lF x hx))
  have b' : b ∉ Fs' := fun h => by
    rcases N b h with h | h
    · exact E.bs h
    · have := E.lt b E.bF; omega
  refine ⟨b :: (Fs' ++ Fl), ⟨Fs', Fl, X.whole E.obj E.bs, S', E.lim.else X (fun x hx h => E.dis x h hx), by simp; intro x hx; simp [hx], by simp; intro x hx; simp [hx], d', b', E.bl, by simp, ?_⟩, ?_, X.more E.sF⟩
  · intro x hx
    simp at hx
    rcases hx with rfl | hx | hx
    · exact Nat.lt_of_lt_of_le (E.lt _ E.bF) X.size
    · exact S'.lt x hx
    · exact Nat.lt_of_lt_of_le (E.lt x (E.lF x hx)) X.size
  · intro x hx
    simp at hx
    rcases hx with rfl | hx | hx
    · exact .inl E.bF
    · exact (N x hx).imp (E.sF x) id
    · exact .inl (E.lF x hx)
/-- The stash is turned, and handed something out. -/
theorem PSuV.stook (E : PSuV w b rw_ qs ql F m st R Fs Fl) (T : STook 127 w w' qs Fs m st' o xs) : Turned w w' F fun F' => PSu w' b rw_ qs ql F' m st' R ∧ Rd w' o xs ∧ Away o F' ∧ (∀ x, o.ownBlock = some x → x ∈ F ∨ w.heap.size ≤ x) := by
  obtain ⟨Fs', S', Ro, Ao, N, O, X⟩ := T
  have d' := next_apart N E.dis (fun x hx => E.lt x (E.lF x hx))
  have b' : b ∉ Fs' := fun h => by
    rcases N b h with h | h
    · exact E.bs h
    · have := E.lt b E.bF; omega
  refine ⟨b :: (Fs' ++ Fl), ⟨⟨Fs', Fl, X.whole E.obj E.bs, S', E.lim.else X (fun x hx h => E.dis x h hx), by simp; intro x hx; simp [hx], by simp; intro x hx; simp [hx], d', b', E.bl, by simp, ?_⟩, Ro, ?_, fun x hx => (O x hx).imp (E.sF x) id⟩, ?_, X.more E.sF⟩
  · intro x hx
    simp at hx
    rcases hx with rfl | hx | hx
    · exact Nat.lt_of_lt_of_le (E.lt _ E.bF) X.size
    · exact S'.lt x hx
    · exact Nat.lt_of_lt_of_le (E.lt x (E.lF x hx)) X.size
  · intro x hx e
    simp at hx
    rcases hx with rfl | hx | hx
    · rcases O _ e with h | h
      · exact E.bs h
      · have := E.lt _ E.bF; omega
    · exact Ao x hx e
    · rcases O _ e with h | h
      · exact E.dis x h hx
      · have := E.lt x (E.lF x hx); omega
  · intro x hx
    simp at hx
    rcases hx with rfl | hx | hx
    · exact .inl E.bF
    · exact (N x hx).imp (E.sF x) id
    · exact .inl (E.lF x hx)
/-- The limbo is turned, and handed something out. -/
theorem PSuV.ltook (E : PSuV w b rw_ qs ql F m st R Fs Fl) (T : Took w w' ql Fl R' xs o) : Turned w w' F fun F' => PSu w' b rw_ qs ql F' m st R' ∧ Ints w' o xs ∧ Away o F' ∧ (∀ x, o.ownBlock = some x → x ∈ F ∨ w.heap.size ≤ x) := by
  obtain ⟨Fl', L', Jo, Ao, N, O, X⟩ := T
  have d' := next_apart N (fun x hx h => E.dis x h hx) (fun x hx => E.lt x (E.sF x hx))
  have b' : b ∉ Fl' := fun h => by
    rcases N b h with h | h
    · exact E.bl h
    · have := E.lt b E.bF; omega
  refine ⟨b :: (Fs ++ Fl'), ⟨⟨Fs, Fl', X.whole E.obj E.bl, E.sta.else X (fun x hx h => E.dis x hx h), L', by simp; intro x hx; simp [hx], by simp; intro x hx; simp [hx], fun x hx h => d' x h hx, E.bs, b', by simp, ?_⟩, Jo, ?_, fun x hx => (O x hx).imp (E.lF x) id⟩, ?_, X.more E.lF⟩
  · intro x hx
    simp at hx
    rcases hx with rfl | hx | hx
    · exact Nat.lt_of_lt_of_le (E.lt _ E.bF) X.size
    · exact Nat.lt_of_lt_of_le (E.lt x (E.sF x hx)) X.size
    · exact L'.lt x hx
  · intro x hx e
    simp at hx
    rcases hx with rfl | hx | hx
    · rcases O _ e with h | h
      · exact E.bl h
      · have := E.lt _ E.bF; omega
    · rcases O _ e with h | h
      · exact E.dis x hx h
      · have := E.lt x (E.sF x hx); omega
    · exact Ao x hx e
  · intro x hx
    simp at hx
    rcases hx with rfl | hx | hx
    · exact .inl E.bF
    · exact .inl (E.sF x hx)
    · exact (N x hx).imp (E.lF x) id
/-- A Give to the stash. -/
theorem psuGive (E : PSu w b rw_ qs ql F m st R) (Ro : Rd w o xs) (hl : st.length + xs.length ≤ 8192) :
    Calls Try.prog 32 #[.pointer (some ⟨qs, 0, none⟩), o] w fun e w' => e = .returned (.tuple #[]) ∧ Turned w w' F fun F' => PSu w' b rw_ qs ql F' m (st ++ xs) R := by
  obtain ⟨Fs, Fl, E⟩ := E
  exact (sgive_any E.sta Ro hl).mono fun e w' ⟨he, G⟩ => ⟨he, E.sgave G⟩
theorem psuReady (E : PSu w b rw_ qs ql F m st R) (now : Int) (hs : R.size ≤ 8192) :
    Calls Try.prog 44 #[.pointer (some ⟨ql, 0, none⟩), .int .i64 now] w fun e w' => ∃ o, e = .returned o ∧ Turned w w' F fun F' => PSu w' b rw_ qs ql F' m st (R.rest now) ∧ Ints w' o (R.outs now) ∧ Away o F' ∧ (∀ x, o.ownBlock = some x → x ∈ F ∨ w.heap.size ≤ x) := by
  obtain ⟨Fs, Fl, E⟩ := E
  exact (lready_any E.lim now hs).mono fun e w' ⟨o, he, T⟩ => ⟨o, he, E.ltook T⟩
theorem psuRetire (E : PSu w b rw_ qs ql F m st R) (Rv : Rd w v xs) (Av : Away v F) (h0 : xs ≠ []) (h1 : R.last ≤ tag) (h2 : tag ≤ 4611686018427387903) {kk : Nat} (hk : tag % 3 = kk) (hs : R.size + xs.length ≤ 8192) :
    Calls Try.prog 31 #[.pointer (some ⟨ql, 0, none⟩), .int .i64 tag, v] w fun e w' => ∃ o, e = .returned (.tuple #[o, .int .i64 0]) ∧ Turned w w' F fun F' => PSu w' b rw_ qs ql F' m st (R.retire kk tag xs) ∧ Ints w' o (R.taken kk tag) ∧ Away o F' ∧ (∀ x, o.ownBlock = some x → x ∈ F ∨ w.heap.size ≤ x) := by
  obtain ⟨Fs, Fl, E⟩ := E
  exact (lretire_yes E.lim Rv (fun x hx => Av x (E.lF x hx)) h0 h1 h2 hk hs).mono fun e w' ⟨o, he, T⟩ => ⟨o, he, E.ltook T⟩
theorem psuRetire_no (E : PSu w b rw_ qs ql F m st R) (Rv : Rd w v xs) (h : ¬ (xs ≠ [] ∧ R.last ≤ tag ∧ tag ≤ 4611686018427387903)) :
    Calls Try.prog 31 #[.pointer (some ⟨ql, 0, none⟩), .int .i64 tag, v] w fun e w' => e = .returned (.tuple #[.slice none 0 0, .int .i64 1]) ∧ w = w' := by
  obtain ⟨Fs, Fl, E⟩ := E
  exact lretire_no E.lim Rv h
theorem psuTake_no (E : PSu w b rw_ qs ql F m [] R) : Calls Try.prog 70 #[.pointer (some ⟨qs, 0, none⟩)] w fun e w' => e = .returned (.tuple #[.int .i64 0, .bool false]) ∧ w = w' := by
  obtain ⟨Fs, Fl, E⟩ := E
  exact stake_none E.sta
theorem psuTake {y : Int} (E : PSu w b rw_ qs ql F m (st ++ [y]) R) : Calls Try.prog 70 #[.pointer (some ⟨qs, 0, none⟩)] w fun e w' => e = .returned (.tuple #[.int .i64 y, .bool true]) ∧ Turned w w' F fun F' => PSu w' b rw_ qs ql F' m st R := by
  obtain ⟨Fs, Fl, E⟩ := E
  exact (stake_some E.sta).mono fun e w' ⟨he, G⟩ => ⟨he, E.sgave G⟩
theorem psuLen (E : PSu w b rw_ qs ql F m st R) (hs : R.size ≤ 8000) {d : Nat} (hd : R.size = d) : Calls Try.prog 46 #[.pointer (some ⟨ql, 0, none⟩)] w fun e w' => e = .returned (.int .i64 (d : Nat)) ∧ Up w w' := by
  obtain ⟨Fs, Fl, E⟩ := E
  exact hd ▸ llen_any E.lim (by omega)
theorem psuList (E : PSu w b rw_ qs ql F m st R) (hl : st.length ≤ 8192) : Calls Try.prog 34 #[.pointer (some ⟨qs, 0, none⟩)] w fun e w' => ∃ o, e = .returned o ∧ Ints w' o st ∧ Fresh w o ∧ Up w w' := by
  obtain ⟨Fs, Fl, E⟩ := E
  exact slist_any E.sta hl
end
end Go.Proofs.Ytkopplnjomkleaa

/-
  Package stack: areItems; slices.Clone of ints.
-/
namespace Go.Proofs.Ytkopplnjomkleaa
open Go.RowKit
set_option maxRecDepth 100000

/-- Items, none twice. -/
def Good (n : Nat) (xs : List Int) : Prop := (∀ x ∈ xs, 0 ≤ x ∧ x < n) ∧ xs.Nodup
instance (n : Nat) (xs : List Int) : Decidable (Good n xs) := inferInstanceAs (Decidable (_ ∧ _))
theorem good_nil (n : Nat) : Good n [] := ⟨by simp, List.nodup_nil⟩
theorem good_step {n k : Nat} {xs : List Int} (h : Good n (xs.take k)) (hk : k < xs.length) {x : Int} (hx : xs.getD k 0 = x) (h0 : 0 ≤ x) (h1 : x < n) (h2 : x ∉ xs.take k) : Good n (xs.take (k + 1)) := by
  rw [take_get hk, hx]
  refine ⟨fun y hy => ?_, ?_⟩
  · rcases List.mem_append.1 hy with hy | hy
    · exact h.1 y hy
    · simp at hy; subst hy; exact ⟨h0, h1⟩
  · rw [List.nodup_append]
    refine ⟨h.2, by simp, fun a ha b hb => ?_⟩
    simp at hb; subst hb
    intro e; subst e; exact h2 ha
theorem not_good {n k : Nat} {xs : List Int} (hk : k < xs.length) {x : Int} (hx : xs.getD k 0 = x) (h : x < 0 ∨ (n : Int) ≤ x ∨ x ∈ xs.take k) : ¬ Good n xs := by
  intro ⟨g1, g2⟩
  have hm := g1 _ (get_mem hk)
  rw [hx] at hm
  rcases h with h | h | h
  · omega
  · omega
  · have e : xs = xs.take k ++ xs.getD k 0 :: xs.drop (k + 1) := by
      simp [List.getD, hk]
    rw [e, List.nodup_append] at g2
    exact g2.2.2 x h _ (by simp) hx.symm
theorem wf_small {x : Int} (h0 : 0 ≤ x) (h1 : x < 4096) : (Lit.int .i64 x).wf = true := WalkArith.wf_i64 (by omega)

section
variable {w : World} {p g q hd ln n : Nat} {s : St}
end

end Go.Proofs.Ytkopplnjomkleaa

/-
  Stacks of items whose head bears a tag, turned by machines of single accesses: what holds whoever goes on when. Plain facts: no program is named here.
-/
namespace Go.Proofs.Ytkopplnjomkleaa.Stk

/-- A function turned at one place. -/
def upd {α : Type} (f : Nat → α) (i : Nat) (v : α) : Nat → α := fun j => if j = i then v else f j
theorem upd_same {α : Type} (f : Nat → α) (i : Nat) (v : α) : upd f i v i = v := by simp [upd]
theorem upd_ne {α : Type} (f : Nat → α) {i j : Nat} (v : α) (h : j ≠ i) : upd f i v j = f j := by simp [upd, h]

/-- The link that leads to the top of a list: its first item and 1; 0: there is none. -/
def linkOf : List Nat → Int
  | [] => 0
  | x :: _ => x + 1
/-- The links lead through the list, from its top. -/
def Chain (lk : Nat → Int) : List Nat → Prop
  | [] => True
  | x :: r => lk x = linkOf r ∧ Chain lk r
theorem Chain.upd {lk : Nat → Int} {y : Nat} {v : Int} : ∀ {S : List Nat}, Chain lk S → y ∉ S → Chain (upd lk y v) S
  | [], _, _ => trivial
  | x :: r, ⟨h1, h2⟩, hy => by
    have hx : x ≠ y := fun e => hy (e ▸ List.mem_cons_self)
    exact ⟨by rw [upd_ne _ _ hx]; exact h1, Chain.upd h2 (fun h => hy (List.mem_cons_of_mem _ h))⟩
theorem Chain.right {lk : Nat → Int} : ∀ {a b : List Nat}, Chain lk (a ++ b) → Chain lk b
  | [], _, h => h
  | _ :: a, _, h => Chain.right (a := a) h.2
/-- The last one's link leads to what stands below. -/
theorem Chain.last {lk : Nat → Int} : ∀ {a b : List Nat} (h : a ≠ []), Chain lk (a ++ b) → lk (a.getLast h) = linkOf b
  | [x], b, _, h => h.1
  | x :: y :: a, b, _, h => by
    rw [List.getLast_cons (by simp)]
    exact Chain.last (a := y :: a) (by simp) h.2
/-- A list whose inner links are laid, and whose last one's link leads to b, stands above b. -/
theorem Chain.above {lk : Nat → Int} {b : List Nat} (hb : Chain lk b) : ∀ {a : List Nat} (h : a ≠ []), (∀ j, j + 1 < a.length → lk (a.getD j 0) = a.getD (j + 1) 0 + 1) → lk (a.getLast h) = linkOf b → Chain lk (a ++ b)
  | [x], _, _, hl => ⟨hl, hb⟩
  | x :: y :: a, _, hi, hl => by
    refine ⟨?_, ?_⟩
    · have := hi 0 (by simp)
      simpa [linkOf] using this
    · refine Chain.above hb (a := y :: a) (by simp) (fun j hj => ?_) (by rwa [List.getLast_cons (by simp)] at hl)
      have := hi (j + 1) (by simpa using hj)
      simpa using this
theorem linkOf_append {a b : List Nat} (h : a ≠ []) : linkOf (a ++ b) = linkOf a := by
  cases a with
  | nil => exact absurd rfl h
  | cons x a => rfl
theorem linkOf_nonneg (S : List Nat) : 0 ≤ linkOf S := by cases S <;> simp [linkOf]; omega
theorem linkOf_le {n : Nat} {S : List Nat} (h : ∀ x ∈ S, x < n) : linkOf S ≤ n := by
  cases S with
  | nil => simp [linkOf]
  | cons x r => have := h x List.mem_cons_self; simp [linkOf]; omega

/-- What one who shares the stack is about. Push: its items, how far it is, the head that it has seen. Pop: how many at most, how far it is, what is below, the head that it has seen, the items so far. -/
inductive Mach
  | idle
  | push (l : List Nat) (at_ : Nat) (old : Int)
  | pop (most at_ : Nat) (deep old : Int) (l : List Nat)
/-- The items in a machine's hands. -/
def puts : Mach → List Nat
  | .push l _ _ => l
  | _ => []
theorem puts_idle : puts .idle = [] := rfl
theorem puts_push (l : List Nat) (i : Nat) (old : Int) : puts (.push l i old) = l := rfl
theorem puts_pop (most i : Nat) (deep old : Int) (l : List Nat) : puts (.pop most i deep old l) = [] := rfl
/-- The head that was seen is an elder one (its tag is less), or it is the head still. -/
def Seen (hd : Int) (t : Nat) (old : Int) : Prop := old / 4294967296 < t ∨ old = hd
/-- What holds of one machine. -/
def MI (n : Nat) (hd : Int) (lk : Nat → Int) (t : Nat) (S : List Nat) : Mach → Prop
  | .idle => True
  | .push l i old => l ≠ [] ∧ i ≤ l.length + 1 ∧ (∀ j, j < i → j + 1 < l.length → lk (l.getD j 0) = l.getD (j + 1) 0 + 1) ∧
      (l.length ≤ i → Seen hd t old ∧ 0 ≤ old % 4294967296 ∧ old % 4294967296 ≤ n) ∧ (∀ h : l ≠ [], i = l.length + 1 → lk (l.getLast h) = old % 4294967296)
  | .pop _ i deep old l => i ≤ 2 ∧ (∀ x ∈ l, x < n) ∧ (i = 1 → l ≠ [] ∧ (old / 4294967296 < t ∨ (old = hd ∧ ∃ r, S = l ++ r))) ∧
      (i = 2 → -1 ≤ deep ∧ deep < n ∧ l ≠ [] ∧ (old / 4294967296 < t ∨ (old = hd ∧ ∃ r, S = l ++ r ∧ deep + 1 = linkOf r)))
def sum4 (f : Nat → Nat) : Nat := f 0 + f 1 + f 2 + f 3
/-- What holds of all four, the stack S, its links, the tag t: each item is just once in S or somebody's. -/
structure GI (n : Nat) (hd : Int) (lk : Nat → Int) (t : Nat) (S : List Nat) (m : Nat → Mach) (has : Nat → List Nat) : Prop where
  head : hd = linkOf S + t * 4294967296
  chain : Chain lk S
  small : n < 4294967295
  links : ∀ x, x < n → 0 ≤ lk x ∧ lk x ≤ n
  cnt : ∀ x, S.count x + sum4 (fun w => (has w).count x + (puts (m w)).count x) = if x < n then 1 else 0
  ok : ∀ w, w < 4 → MI n hd lk t S (m w)

section
variable {n : Nat} {hd : Int} {lk : Nat → Int} {t : Nat} {S : List Nat} {m : Nat → Mach} {has : Nat → List Nat}
theorem sum4_ge (f : Nat → Nat) {w : Nat} (hw : w < 4) : f w ≤ sum4 f := by
  unfold sum4
  rcases (show w = 0 ∨ w = 1 ∨ w = 2 ∨ w = 3 by omega) with rfl | rfl | rfl | rfl <;> omega
theorem sum4_two (f : Nat → Nat) {w v : Nat} (hw : w < 4) (hv : v < 4) (h : w ≠ v) : f w + f v ≤ sum4 f := by
  unfold sum4
  rcases (show w = 0 ∨ w = 1 ∨ w = 2 ∨ w = 3 by omega) with rfl | rfl | rfl | rfl <;> rcases (show v = 0 ∨ v = 1 ∨ v = 2 ∨ v = 3 by omega) with rfl | rfl | rfl | rfl <;> first | omega | exact absurd rfl h
theorem sum4_upd (f g : Nat → Nat) {w : Nat} (hw : w < 4) (h : ∀ v, v ≠ w → g v = f v) : sum4 g + f w = sum4 f + g w := by
  unfold sum4
  rcases (show w = 0 ∨ w = 1 ∨ w = 2 ∨ w = 3 by omega) with rfl | rfl | rfl | rfl
  · have a := h 1 (by omega); have b := h 2 (by omega); have c := h 3 (by omega); omega
  · have a := h 0 (by omega); have b := h 2 (by omega); have c := h 3 (by omega); omega
  · have a := h 0 (by omega); have b := h 1 (by omega); have c := h 3 (by omega); omega
  · have a := h 0 (by omega); have b := h 1 (by omega); have c := h 2 (by omega); omega
theorem cnt_upd (m : Nat → Mach) (has : Nat → List Nat) {w : Nat} (hw : w < 4) (M : Mach) (h : List Nat) (x : Nat) :
    sum4 (fun v => ((upd has w h) v).count x + (puts ((upd m w M) v)).count x) + ((has w).count x + (puts (m w)).count x) = sum4 (fun v => (has v).count x + (puts (m v)).count x) + (h.count x + (puts M).count x) := by
  have := sum4_upd (fun v => (has v).count x + (puts (m v)).count x) (fun v => ((upd has w h) v).count x + (puts ((upd m w M) v)).count x) hw (fun v hv => by simp [upd_ne _ _ hv])
  simpa [upd_same] using this
theorem upd_id {α : Type} (f : Nat → α) (w : Nat) : upd f w (f w) = f := by
  funext j; unfold upd; split
  · subst_vars; rfl
  · rfl
/-- An item in a machine's hands is in no other place. -/
theorem GI.mine (g : GI n hd lk t S m has) {w y : Nat} (hw : w < 4) (hy : y ∈ puts (m w)) : y < n ∧ y ∉ S ∧ (∀ v, v < 4 → v ≠ w → y ∉ puts (m v)) ∧ (puts (m w)).count y = 1 := by
  have c := g.cnt y
  have p := List.count_pos_iff.2 hy
  have s1 := sum4_ge (fun w => (has w).count y + (puts (m w)).count y) hw
  have hn : y < n := by
    by_cases h : y < n
    · exact h
    · rw [if_neg h] at c; omega
  rw [if_pos hn] at c
  refine ⟨hn, ?_, fun v hv hne hin => ?_, by omega⟩
  · intro h; have := List.count_pos_iff.2 h; omega
  · have q := List.count_pos_iff.2 hin
    have s2 := sum4_two (fun w => (has w).count y + (puts (m w)).count y) hw hv (Ne.symm hne)
    omega
theorem GI.mem_lt (g : GI n hd lk t S m has) {x : Nat} (hx : x ∈ S) : x < n := by
  have c := g.cnt x
  have p := List.count_pos_iff.2 hx
  by_cases h : x < n
  · exact h
  · rw [if_neg h] at c; omega
theorem GI.link_le (g : GI n hd lk t S m has) : 0 ≤ linkOf S ∧ linkOf S ≤ n := ⟨linkOf_nonneg S, linkOf_le fun _ hx => g.mem_lt hx⟩
theorem GI.mod (g : GI n hd lk t S m has) : hd % 4294967296 = linkOf S := by
  have := g.link_le; have := g.small; have := g.head; omega
theorem GI.tag (g : GI n hd lk t S m has) : hd / 4294967296 = t := by
  have := g.link_le; have := g.small; have := g.head; omega
/-- A link of an item that is none of this machine's turns nothing of it. -/
theorem MI.link {M : Mach} (h : MI n hd lk t S M) {y : Nat} {v : Int} (hy : y ∉ puts M) : MI n hd (upd lk y v) t S M := by
  cases M with
  | idle => trivial
  | pop _ _ _ _ _ => exact h
  | push l i old =>
    obtain ⟨h1, h2, h3, h4, h5⟩ := h
    have hy : y ∉ l := hy
    have hm : ∀ j, j < l.length → l.getD j 0 ≠ y := fun j hj e => hy (by rw [← e]; simp [List.getD, hj])
    refine ⟨h1, h2, fun j hj hl => ?_, h4, fun hne hi => ?_⟩
    · rw [upd_ne _ _ (hm j (by omega))]; exact h3 j hj hl
    · rw [upd_ne _ _ (fun e => hy (by rw [← e]; exact List.getLast_mem hne))]; exact h5 hne hi
/-- An exchange of another one: the head that was seen is an elder one. -/
theorem MI.bump {M : Mach} (h : MI n hd lk t S M) (ht : hd / 4294967296 = t) (hd' : Int) (S' : List Nat) : MI n hd' lk (t + 1) S' M := by
  have key : ∀ {old : Int} {P : Prop}, (old / 4294967296 < t ∨ (old = hd ∧ P)) → old / 4294967296 < ((t + 1 : Nat) : Int) := by
    rintro old P (h | ⟨rfl, _⟩) <;> omega
  cases M with
  | idle => trivial
  | push l i old =>
    obtain ⟨h1, h2, h3, h4, h5⟩ := h
    refine ⟨h1, h2, h3, fun hi => ⟨.inl ?_, (h4 hi).2⟩, h5⟩
    rcases (h4 hi).1 with h | rfl <;> omega
  | pop most i deep old l =>
    obtain ⟨h1, h2, h3, h4⟩ := h
    exact ⟨h1, h2, fun hi => ⟨(h3 hi).1, .inl (key (h3 hi).2)⟩, fun hi => ⟨(h4 hi).1, (h4 hi).2.1, (h4 hi).2.2.1, .inl (key (h4 hi).2.2.2)⟩⟩
/-- One of them has another machine, or goes on within his own; no cell is turned. -/
theorem GI.own (g : GI n hd lk t S m has) {w : Nat} (hw : w < 4) {M : Mach} (hp : puts M = puts (m w)) (h : MI n hd lk t S M) : GI n hd lk t S (upd m w M) has := by
  refine ⟨g.head, g.chain, g.small, g.links, fun x => ?_, fun v hv => ?_⟩
  · have c := g.cnt x
    have u := cnt_upd m has hw M (has w) x
    rw [upd_id] at u
    rw [hp] at u
    omega
  · by_cases e : v = w
    · subst e; rw [upd_same]; exact h
    · rw [upd_ne _ _ e]; exact g.ok v hv
/-- One of them turns the link of an item in his hands. -/
theorem GI.link (g : GI n hd lk t S m has) {w y : Nat} {v : Int} (hw : w < 4) (hy : y ∈ puts (m w)) (h0 : 0 ≤ v) (h1 : v ≤ n) {M : Mach} (hp : puts M = puts (m w)) (h : MI n hd (upd lk y v) t S M) : GI n hd (upd lk y v) t S (upd m w M) has := by
  obtain ⟨y0, y1, y2, _⟩ := g.mine hw hy
  refine ⟨g.head, g.chain.upd y1, g.small, fun x hx => ?_, fun x => ?_, fun u hu => ?_⟩
  · by_cases e : x = y
    · subst e; rw [upd_same]; exact ⟨h0, h1⟩
    · rw [upd_ne _ _ e]; exact g.links x hx
  · have c := g.cnt x
    have u := cnt_upd m has hw M (has w) x
    rw [upd_id] at u
    rw [hp] at u
    omega
  · by_cases e : u = w
    · subst e; rw [upd_same]; exact h
    · rw [upd_ne _ _ e]; exact (g.ok u hu).link (y2 u hu e)

/-- An exchange: the stack is another one, and one of them has put or got. -/
theorem GI.swap (g : GI n hd lk t S m has) {w : Nat} (hw : w < 4) {S' : List Nat} {h : List Nat} (hc : Chain lk S') (hn : ∀ x, S'.count x + h.count x = S.count x + (has w).count x + (puts (m w)).count x) :
    GI n (linkOf S' + ((t + 1 : Nat) : Int) * 4294967296) lk (t + 1) S' (upd m w .idle) (upd has w h) := by
  refine ⟨rfl, hc, g.small, g.links, fun x => ?_, fun v hv => ?_⟩
  · have c := g.cnt x
    have u := cnt_upd m has hw .idle h x
    have k := hn x
    simp only [puts_idle, List.count_nil] at u
    omega
  · by_cases e : v = w
    · subst e; rw [upd_same]; trivial
    · rw [upd_ne _ _ e]; exact (g.ok v hv).bump g.tag _ _

theorem getD_mem {l : List Nat} {j : Nat} (h : j < l.length) : l.getD j 0 ∈ l := by simp [List.getD, h]
theorem getLast_getD {l : List Nat} (h : l ≠ []) : l.getLast h = l.getD (l.length - 1) 0 := by
  have : l.length - 1 < l.length := by have := List.length_pos_iff.2 h; omega
  rw [List.getLast_eq_getElem]; simp [List.getD, this]
theorem nodup_getD {l : List Nat} {y : Nat} (h : l.count y = 1) {i j : Nat} (hi : i < l.length) (hj : j < l.length) (ei : l.getD i 0 = y) (ej : l.getD j 0 = y) : i = j := by
  induction l generalizing i j with
  | nil => simp at hi
  | cons a l ih =>
    rw [List.count_cons] at h
    cases i with
    | zero => cases j with
      | zero => rfl
      | succ j =>
        exfalso
        simp at ei ej hj
        have : y ∈ l := by rw [← ej]; simp [hj]
        have := List.count_pos_iff.2 this
        simp [ei] at h; omega
    | succ i => cases j with
      | zero =>
        exfalso
        simp at ei ej hi
        have : y ∈ l := by rw [← ei]; simp [hi]
        have := List.count_pos_iff.2 this
        simp [ej] at h; omega
      | succ j =>
        simp at hi hj
        have hin : y ∈ l := by
          have : l.getD i 0 = y := by simpa using ei
          rw [← this]; exact getD_mem hi
        have p := List.count_pos_iff.2 hin
        have h' : l.count y = 1 := by split at h <;> omega
        rw [ih h' hi hj (by simpa using ei) (by simpa using ej)]
/-- Push: a link of its own, but for the last. -/
theorem GI.push_store (g : GI n hd lk t S m has) {w : Nat} (hw : w < 4) {l : List Nat} {i : Nat} {old : Int} (e : m w = .push l i old) (hi : i + 1 < l.length) :
    GI n hd (upd lk (l.getD i 0) (l.getD (i + 1) 0 + 1)) t S (upd m w (.push l (i + 1) old)) has := by
  have k := g.ok w hw
  rw [e] at k
  obtain ⟨h1, h2, h3, h4, h5⟩ := k
  have hp : puts (m w) = l := by rw [e]; rfl
  have hy : l.getD i 0 ∈ puts (m w) := by rw [hp]; exact getD_mem (by omega)
  obtain ⟨_, _, _, c1⟩ := g.mine hw hy
  rw [hp] at c1
  have hz := (g.mine hw (show l.getD (i + 1) 0 ∈ puts (m w) by rw [hp]; exact getD_mem hi)).1
  refine g.link hw hy (by omega) (by omega) (by rw [hp]; rfl) ⟨h1, by omega, fun j hj hl => ?_, fun h => absurd h (by omega), fun _ h => absurd h (by omega)⟩
  by_cases ej : j = i
  · subst ej; rw [upd_same]
  · rw [upd_ne _ _ (fun e2 => ej (nodup_getD c1 (by omega) (by omega) e2 rfl))]
    exact h3 j (by omega) hl
/-- Push: the Load of the head. -/
theorem GI.push_load (g : GI n hd lk t S m has) {w : Nat} (hw : w < 4) {l : List Nat} {i : Nat} {old : Int} (e : m w = .push l i old) (hi : i + 1 = l.length) :
    GI n hd lk t S (upd m w (.push l (i + 1) hd)) has := by
  have k := g.ok w hw
  rw [e] at k
  obtain ⟨h1, h2, h3, h4, h5⟩ := k
  have q := g.mod
  have r := g.link_le
  refine g.own hw (by rw [e]; rfl) ⟨h1, by omega, fun j hj hl => h3 j (by omega) hl, fun _ => ⟨.inr rfl, by omega, by omega⟩, fun _ h => absurd h (by omega)⟩
/-- Push: the last one's link. -/
theorem GI.push_link (g : GI n hd lk t S m has) {w : Nat} (hw : w < 4) {l : List Nat} {i : Nat} {old : Int} (e : m w = .push l i old) (hi : i = l.length) :
    GI n hd (upd lk (l.getD (i - 1) 0) (old % 4294967296)) t S (upd m w (.push l (i + 1) old)) has := by
  have k := g.ok w hw
  rw [e] at k
  obtain ⟨h1, h2, h3, h4, h5⟩ := k
  have hp : puts (m w) = l := by rw [e]; rfl
  have l0 := List.length_pos_iff.2 h1
  have hy : l.getD (i - 1) 0 ∈ puts (m w) := by rw [hp]; exact getD_mem (by omega)
  obtain ⟨_, _, _, c1⟩ := g.mine hw hy
  rw [hp] at c1
  obtain ⟨s1, s2, s3⟩ := h4 (by omega)
  refine g.link hw hy s2 s3 (by rw [hp]; rfl) ⟨h1, by omega, fun j hj hl => ?_, fun _ => ⟨s1, s2, s3⟩, fun hne _ => ?_⟩
  · rw [upd_ne _ _ (fun e2 => by have := nodup_getD c1 (by omega) (by omega) e2 rfl; omega)]
    exact h3 j (by omega) hl
  · rw [getLast_getD, ← hi, upd_same]
/-- Push: the exchange, done. -/
theorem GI.push_yes (g : GI n hd lk t S m has) {w : Nat} (hw : w < 4) {l : List Nat} {i : Nat} (e : m w = .push l i hd) (hi : i = l.length + 1) :
    GI n (l.getD 0 0 + 1 + ((t + 1 : Nat) : Int) * 4294967296) lk (t + 1) (l ++ S) (upd m w .idle) has := by
  have k := g.ok w hw
  rw [e] at k
  obtain ⟨h1, h2, h3, h4, h5⟩ := k
  have hl : (l.getD 0 0 : Int) + 1 = linkOf (l ++ S) := by
    cases l with
    | nil => exact absurd rfl h1
    | cons x r => rfl
  have := g.swap hw (S' := l ++ S) (h := has w) (g.chain.above h1 (fun j hj => h3 j (by omega) hj) (by rw [h5 h1 hi]; exact g.mod)) (fun x => by rw [e]; simp only [puts_push, List.count_append]; omega)
  rw [upd_id] at this
  rw [hl]; exact this
/-- Push: the exchange failed: again from the Load of the head. -/
theorem GI.push_no (g : GI n hd lk t S m has) {w : Nat} (hw : w < 4) {l : List Nat} {i : Nat} {old : Int} (e : m w = .push l i old) (hi : i = l.length + 1) :
    GI n hd lk t S (upd m w (.push l (l.length - 1) old)) has := by
  have k := g.ok w hw
  rw [e] at k
  obtain ⟨h1, h2, h3, h4, h5⟩ := k
  have l0 := List.length_pos_iff.2 h1
  exact g.own hw (by rw [e]; rfl) ⟨h1, by omega, fun j hj hl => h3 j (by omega) hl, fun h => absurd h (by omega), fun _ h => absurd h (by omega)⟩
/-- Push: it begins. -/
theorem GI.push_new (g : GI n hd lk t S m has) {w : Nat} (hw : w < 4) (e : puts (m w) = []) {l r : List Nat} (hl : has w = l ++ r) (h0 : l ≠ []) (old : Int) :
    GI n hd lk t S (upd m w (.push l 0 old)) (upd has w r) := by
  refine ⟨g.head, g.chain, g.small, g.links, fun x => ?_, fun v hv => ?_⟩
  · have c := g.cnt x
    have u := cnt_upd m has hw (.push l 0 old) r x
    rw [e, hl, List.count_append] at u
    simp only [puts_push, List.count_nil] at u
    omega
  · by_cases e : v = w
    · subst e; rw [upd_same]
      have l0 := List.length_pos_iff.2 h0
      exact ⟨h0, by omega, fun j hj _ => absurd hj (by omega), fun h => absurd h (by omega), fun _ h => absurd h (by omega)⟩
    · rw [upd_ne _ _ e]; exact g.ok v hv
/-- Pop: it begins, or begins again. -/
theorem GI.pop_new (g : GI n hd lk t S m has) {w : Nat} (hw : w < 4) (e : puts (m w) = []) (most : Nat) (deep old : Int) : GI n hd lk t S (upd m w (.pop most 0 deep old [])) has :=
  g.own hw (by rw [e]; rfl) ⟨by omega, by simp, fun h => absurd h (by omega), fun h => absurd h (by omega)⟩
/-- Pop: it is over. -/
theorem GI.pop_over (g : GI n hd lk t S m has) {w : Nat} (hw : w < 4) (e : puts (m w) = []) : GI n hd lk t S (upd m w .idle) has := g.own hw (by rw [e]; rfl) trivial
/-- Pop: the Load of the head, where there is one. -/
theorem GI.pop_load (g : GI n hd lk t S m has) {w : Nat} (hw : w < 4) (e : puts (m w) = []) {x : Nat} {r : List Nat} (hS : S = x :: r) (most : Nat) (deep : Int) : GI n hd lk t S (upd m w (.pop most 1 deep hd [x])) has := by
  have hx := g.mem_lt (x := x) (by rw [hS]; simp)
  exact g.own hw (by rw [e]; rfl) ⟨by omega, by simpa using hx, fun _ => ⟨by simp, .inr ⟨rfl, r, by rw [hS]; rfl⟩⟩, fun h => absurd h (by omega)⟩
/-- Pop: the Load of a link: one more. -/
theorem GI.pop_more (g : GI n hd lk t S m has) {w : Nat} (hw : w < 4) {most : Nat} {deep old : Int} {l : List Nat} (e : m w = .pop most 1 deep old l) (hne : l ≠ []) {d : Nat} (hd' : lk (l.getLast hne) = d + 1) (deep' : Int) :
    GI n hd lk t S (upd m w (.pop most 1 deep' old (l ++ [d]))) has := by
  have k := g.ok w hw
  rw [e] at k
  obtain ⟨h1, h2, h3, h4⟩ := k
  have hin := h2 _ (List.getLast_mem hne)
  have hl := g.links _ hin
  refine g.own hw (by rw [e]; rfl) ⟨by omega, ?_, fun _ => ⟨by simp, ?_⟩, fun h => absurd h (by omega)⟩
  · intro x hx
    rcases List.mem_append.1 hx with h | h
    · exact h2 x h
    · simp at h; omega
  · rcases (h3 rfl).2 with h | ⟨h, r, hr⟩
    · exact .inl h
    · refine .inr ⟨h, ?_⟩
      have c := g.chain
      rw [hr] at c
      have q := c.last hne
      cases r with
      | nil => simp [linkOf] at q; omega
      | cons y r =>
        simp only [linkOf] at q
        have : y = d := by omega
        exact ⟨r, by rw [hr, this]; simp⟩
/-- Pop: the Load of a link: that was the last. -/
theorem GI.pop_last (g : GI n hd lk t S m has) {w : Nat} (hw : w < 4) {most : Nat} {deep old : Int} {l : List Nat} (e : m w = .pop most 1 deep old l) (hne : l ≠ []) :
    GI n hd lk t S (upd m w (.pop most 2 (lk (l.getLast hne) - 1) old l)) has := by
  have k := g.ok w hw
  rw [e] at k
  obtain ⟨h1, h2, h3, h4⟩ := k
  have hl := g.links _ (h2 _ (List.getLast_mem hne))
  refine g.own hw (by rw [e]; rfl) ⟨by omega, h2, fun h => absurd h (by omega), fun _ => ⟨by omega, by omega, hne, ?_⟩⟩
  rcases (h3 rfl).2 with h | ⟨h, r, hr⟩
  · exact .inl h
  · have c := g.chain
    rw [hr] at c
    exact .inr ⟨h, r, hr, by rw [c.last hne]; omega⟩
/-- Pop: the exchange, done. -/
theorem GI.pop_yes (g : GI n hd lk t S m has) {w : Nat} (hw : w < 4) {most : Nat} {deep : Int} {l : List Nat} (e : m w = .pop most 2 deep hd l) :
    ∃ r, S = l ++ r ∧ GI n (deep + 1 + ((t + 1 : Nat) : Int) * 4294967296) lk (t + 1) r (upd m w .idle) (upd has w (has w ++ l)) := by
  have k := g.ok w hw
  rw [e] at k
  obtain ⟨h1, h2, h3, h4⟩ := k
  obtain ⟨_, _, _, h⟩ := h4 rfl
  rcases h with h | ⟨_, r, hr, hdp⟩
  · have := g.tag; omega
  · refine ⟨r, hr, ?_⟩
    have c := g.chain
    rw [hr] at c
    have := g.swap hw (S' := r) (h := has w ++ l) c.right (fun x => by rw [e, hr]; simp only [puts_pop, List.count_append, List.count_nil]; omega)
    rw [hdp]; exact this
end
/-- Each item just once: what the count says of the whole list. -/
theorem all_once {n : Nat} {l : List Nat} (h : ∀ x, l.count x = if x < n then 1 else 0) : l.length = n ∧ (∀ x ∈ l, x < n) ∧ l.Nodup := by
  have p : l.Perm (List.range n) := by
    rw [List.perm_iff_count]
    intro x
    rw [h x, List.count_range]
  exact ⟨by simpa using p.length_eq, fun x hx => List.mem_range.1 (p.mem_iff.1 hx), p.nodup_iff.2 List.nodup_range⟩
end Go.Proofs.Ytkopplnjomkleaa.Stk
