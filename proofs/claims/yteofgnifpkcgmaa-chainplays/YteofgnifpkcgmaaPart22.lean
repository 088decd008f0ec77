/-
  Texts beneath ChainPlays, part 22: Part5.
-/
import Derived.Test.YteofgnifpkcgmaaPart21
import Derived.Lib.Hide
import Derived.Laws.EntriesVeiled
import Derived.Deep.RegionHeldLaw
/-
  Texts beneath ChainPlays, part 5: StackMath, StackMem, Push, Push2, Push3, Pop, PopEnds, PushNew, StkData.
-/
/-
  Stacks of items whose head bears a tag, turned by machines of single accesses: what holds whoever goes on when. Plain facts: no program is named here.
-/
namespace Go.Proofs.Yteofgnifpkcgmaa.Stk

/-- A function turned at one place. -/
def upd {α : Type} (f : Nat → α) (i : Nat) (v : α) : Nat → α := fun j => if j = i then v else f j
theorem upd_same {α : Type} (f : Nat → α) (i : Nat) (v : α) : upd f i v i = v := by simp [upd]
theorem upd_ne {α : Type} (f : Nat → α) {i j : Nat} (v : α) (h : j ≠ i) : upd f i v j = f j := by simp [upd, h]

/-- The link that leads to the top of a list: its first item and 1; 0: there is none. -/
def linkOf : List Nat → Int
  | [] => 0
  | x :: _ => x + 1
/-- The links lead through the list, from its top. -/
def Chain (lk : Nat → Int) : List Nat → Prop
  | [] => True
  | x :: r => lk x = linkOf r ∧ Chain lk r
theorem Chain.upd {lk : Nat → Int} {y : Nat} {v : Int} : ∀ {S : List Nat}, Chain lk S → y ∉ S → Chain (upd lk y v) S
  | [], _, _ => trivial
  | x :: r, ⟨h1, h2⟩, hy => by
    have hx : x ≠ y := fun e => hy (e ▸ List.mem_cons_self)
    exact ⟨by rw [upd_ne _ _ hx]; exact h1, Chain.upd h2 (fun h => hy (List.mem_cons_of_mem _ h))⟩
theorem Chain.right {lk : Nat → Int} : ∀ {a b : List Nat}, Chain lk (a ++ b) → Chain lk b
  | [], _, h => h
  | _ :: a, _, h => Chain.right (a := a) h.2
/-- The last one's link leads to what stands below. -/
theorem Chain.last {lk : Nat → Int} : ∀ {a b : List Nat} (h : a ≠ []), Chain lk (a ++ b) → lk (a.getLast h) = linkOf b
  | [x], b, _, h => h.1
  | x :: y :: a, b, _, h => by
    rw [List.getLast_cons (by simp)]
    exact Chain.last (a := y :: a) (by simp) h.2
/-- A list whose inner links are laid, and whose last one's link leads to b, stands above b. -/
theorem Chain.above {lk : Nat → Int} {b : List Nat} (hb : Chain lk b) : ∀ {a : List Nat} (h : a ≠ []), (∀ j, j + 1 < a.length → lk (a.getD j 0) = a.getD (j + 1) 0 + 1) → lk (a.getLast h) = linkOf b → Chain lk (a ++ b)
  | [x], _, _, hl => ⟨hl, hb⟩
  | x :: y :: a, _, hi, hl => by
    refine ⟨?_, ?_⟩
    · have := hi 0 (by simp)
      simpa [linkOf] using this
    · refine Chain.above hb (a := y :: a) (by simp) (fun j hj => ?_) (by rwa [List.getLast_cons (by simp)] at hl)
      have := hi (j + 1) (by simpa using hj)
      simpa using this
theorem linkOf_append {a b : List Nat} (h : a ≠ []) : linkOf (a ++ b) = linkOf a := by
  cases a with
  | nil => exact absurd rfl h
  | cons x a => rfl
theorem linkOf_nonneg (S : List Nat) : 0 ≤ linkOf S := by cases S <;> simp [linkOf]; omega
theorem linkOf_le {n : Nat} {S : List Nat} (h : ∀ x ∈ S, x < n) : linkOf S ≤ n := by
  cases S with
  | nil => simp [linkOf]
  | cons x r => have := h x List.mem_cons_self; simp [linkOf]; omega

/-- What one who shares the stack is about. Push: its items, how far it is, the head that it has seen. Pop: how many at most, how far it is, what is below, the head that it has seen, the items so far. -/
inductive Mach
  | idle
  | push (l : List Nat) (at_ : Nat) (old : Int)
  | pop (most at_ : Nat) (deep old : Int) (l : List Nat)
/-- The items in a machine's hands. -/
def puts : Mach → List Nat
  | .push l _ _ => l
  | _ => []
theorem puts_idle : puts .idle = [] := rfl
theorem puts_push (l : List Nat) (i : Nat) (old : Int) : puts (.push l i old) = l := rfl
theorem puts_pop (most i : Nat) (deep old : Int) (l : List Nat) : puts (.pop most i deep old l) = [] := rfl
/-- The head that was seen is an elder one (its tag is less), or it is the head still. -/
def Seen (hd : Int) (t : Nat) (old : Int) : Prop := old / 4294967296 < t ∨ old = hd
/-- What holds of one machine. -/
def MI (n : Nat) (hd : Int) (lk : Nat → Int) (t : Nat) (S : List Nat) : Mach → Prop
  | .idle => True
  | .push l i old => l ≠ [] ∧ i ≤ l.length + 1 ∧ (∀ j, j < i → j + 1 < l.length → lk (l.getD j 0) = l.getD (j + 1) 0 + 1) ∧
      (l.length ≤ i → Seen hd t old ∧ 0 ≤ old % 4294967296 ∧ old % 4294967296 ≤ n) ∧ (∀ h : l ≠ [], i = l.length + 1 → lk (l.getLast h) = old % 4294967296)
  | .pop _ i deep old l => i ≤ 2 ∧ (∀ x ∈ l, x < n) ∧ (i = 1 → l ≠ [] ∧ (old / 4294967296 < t ∨ (old = hd ∧ ∃ r, S = l ++ r))) ∧
      (i = 2 → -1 ≤ deep ∧ deep < n ∧ l ≠ [] ∧ (old / 4294967296 < t ∨ (old = hd ∧ ∃ r, S = l ++ r ∧ deep + 1 = linkOf r)))
def sum4 (f : Nat → Nat) : Nat := f 0 + f 1 + f 2 + f 3
/-- What holds of all four, the stack S, its links, the tag t: each item is just once in S or somebody's. -/
structure GI (n : Nat) (hd : Int) (lk : Nat → Int) (t : Nat) (S : List Nat) (m : Nat → Mach) (has : Nat → List Nat) : Prop where
  head : hd = linkOf S + t * 4294967296
  chain : Chain lk S
  small : n < 4294967295
  links : ∀ x, x < n → 0 ≤ lk x ∧ lk x ≤ n
  cnt : ∀ x, S.count x + sum4 (fun w => (has w).count x + (puts (m w)).count x) = if x < n then 1 else 0
  ok : ∀ w, w < 4 → MI n hd lk t S (m w)

section
variable {n : Nat} {hd : Int} {lk : Nat → Int} {t : Nat} {S : List Nat} {m : Nat → Mach} {has : Nat → List Nat}
theorem sum4_ge (f : Nat → Nat) {w : Nat} (hw : w < 4) : f w ≤ sum4 f := by
  unfold sum4
  rcases (show w = 0 ∨ w = 1 ∨ w = 2 ∨ w = 3 by omega) with rfl | rfl | rfl | rfl <;> omega
theorem sum4_two (f : Nat → Nat) {w v : Nat} (hw : w < 4) (hv : v < 4) (h : w ≠ v) : f w + f v ≤ sum4 f := by
  unfold sum4
  rcases (show w = 0 ∨ w = 1 ∨ w = 2 ∨ w = 3 by omega) with rfl | rfl | rfl | rfl <;> rcases (show v = 0 ∨ v = 1 ∨ v = 2 ∨ v = 3 by omega) with rfl | rfl | rfl | rfl <;> first | omega | exact absurd rfl h
theorem sum4_upd (f g : Nat → Nat) {w : Nat} (hw : w < 4) (h : ∀ v, v ≠ w → g v = f v) : sum4 g + f w = sum4 f + g w := by
  unfold sum4
  rcases (show w = 0 ∨ w = 1 ∨ w = 2 ∨ w = 3 by omega) with rfl | rfl | rfl | rfl
  · have a := h 1 (by omega); have b := h 2 (by omega); have c := h 3 (by omega); omega
  · have a := h 0 (by omega); have b := h 2 (by omega); have c := h 3 (by omega); omega
  · have a := h 0 (by omega); have b := h 1 (by omega); have c := h 3 (by omega); omega
  · have a := h 0 (by omega); have b := h 1 (by omega); have c := h 2 (by omega); omega
theorem cnt_upd (m : Nat → Mach) (has : Nat → List Nat) {w : Nat} (hw : w < 4) (M : Mach) (h : List Nat) (x : Nat) :
    sum4 (fun v => ((upd has w h) v).count x + (puts ((upd m w M) v)).count x) + ((has w).count x + (puts (m w)).count x) = sum4 (fun v => (has v).count x + (puts (m v)).count x) + (h.count x + (puts M).count x) := by
  have := sum4_upd (fun v => (has v).count x + (puts (m v)).count x) (fun v => ((upd has w h) v).count x + (puts ((upd m w M) v)).count x) hw (fun v hv => by simp [upd_ne _ _ hv])
  simpa [upd_same] using this
theorem upd_id {α : Type} (f : Nat → α) (w : Nat) : upd f w (f w) = f := by
  funext j; unfold upd; split
  · subst_vars; rfl
  · rfl
/-- An item in a machine's hands is in no other place. -/
theorem GI.mine (g : GI n hd lk t S m has) {w y : Nat} (hw : w < 4) (hy : y ∈ puts (m w)) : y < n ∧ y ∉ S ∧ (∀ v, v < 4 → v ≠ w → y ∉ puts (m v)) ∧ (puts (m w)).count y = 1 := by
  have c := g.cnt y
  have p := List.count_pos_iff.2 hy
  have s1 := sum4_ge (fun w => (has w).count y + (puts (m w)).count y) hw
  have hn : y < n := by
    by_cases h : y < n
    · exact h
    · rw [if_neg h] at c; omega
  rw [if_pos hn] at c
  refine ⟨hn, ?_, fun v hv hne hin => ?_, by omega⟩
  · intro h; have := List.count_pos_iff.2 h; omega
  · have q := List.count_pos_iff.2 hin
    have s2 := sum4_two (fun w => (has w).count y + (puts (m w)).count y) hw hv (Ne.symm hne)
    omega
theorem GI.mem_lt (g : GI n hd lk t S m has) {x : Nat} (hx : x ∈ S) : x < n := by
  have c := g.cnt x
  have p := List.count_pos_iff.2 hx
  by_cases h : x < n
  · exact h
  · rw [if_neg h] at c; omega
theorem GI.link_le (g : GI n hd lk t S m has) : 0 ≤ linkOf S ∧ linkOf S ≤ n := ⟨linkOf_nonneg S, linkOf_le fun _ hx => g.mem_lt hx⟩
theorem GI.mod (g : GI n hd lk t S m has) : hd % 4294967296 = linkOf S := by
  have := g.link_le; have := g.small; have := g.head; omega
theorem GI.tag (g : GI n hd lk t S m has) : hd / 4294967296 = t := by
  have := g.link_le; have := g.small; have := g.head; omega
/-- A link of an item that is none of this machine's turns nothing of it. -/
theorem MI.link {M : Mach} (h : MI n hd lk t S M) {y : Nat} {v : Int} (hy : y ∉ puts M) : MI n hd (upd lk y v) t S M := by
  cases M with
  | idle => trivial
  | pop _ _ _ _ _ => exact h
  | push l i old =>
    obtain ⟨h1, h2, h3, h4, h5⟩ := h
    have hy : y ∉ l := hy
    have hm : ∀ j, j < l.length → l.getD j 0 ≠ y := fun j hj e => hy (by rw [← e]; simp [List.getD, hj])
    refine ⟨h1, h2, fun j hj hl => ?_, h4, fun hne hi => ?_⟩
    · rw [upd_ne _ _ (hm j (by omega))]; exact h3 j hj hl
    · rw [upd_ne _ _ (fun e => hy (by rw [← e]; exact List.getLast_mem hne))]; exact h5 hne hi
/-- An exchange of another one: the head that was seen is an elder one. -/
theorem MI.bump {M : Mach} (h : MI n hd lk t S M) (ht : hd / 4294967296 = t) (hd' : Int) (S' : List Nat) : MI n hd' lk (t + 1) S' M := by
  have key : ∀ {old : Int} {P : Prop}, (old / 4294967296 < t ∨ (old = hd ∧ P)) → old / 4294967296 < ((t + 1 : Nat) : Int) := by
    rintro old P (h | ⟨rfl, _⟩) <;> omega
  cases M with
  | idle => trivial
  | push l i old =>
    obtain ⟨h1, h2, h3, h4, h5⟩ := h
    refine ⟨h1, h2, h3, fun hi => ⟨.inl ?_, (h4 hi).2⟩, h5⟩
    rcases (h4 hi).1 with h | rfl <;> omega
  | pop most i deep old l =>
    obtain ⟨h1, h2, h3, h4⟩ := h
    exact ⟨h1, h2, fun hi => ⟨(h3 hi).1, .inl (key (h3 hi).2)⟩, fun hi => ⟨(h4 hi).1, (h4 hi).2.1, (h4 hi).2.2.1, .inl (key (h4 hi).2.2.2)⟩⟩
/-- One of them has another machine, or goes on within his own; no cell is turned. -/
theorem GI.own (g : GI n hd lk t S m has) {w : Nat} (hw : w < 4) {M : Mach} (hp : puts M = puts (m w)) (h : MI n hd lk t S M) : GI n hd lk t S (upd m w M) has := by
  refine ⟨g.head, g.chain, g.small, g.links, fun x => ?_, fun v hv => ?_⟩
  · have c := g.cnt x
    have u := cnt_upd m has hw M (has w) x
    rw [upd_id] at u
    rw [hp] at u
    omega
  · by_cases e : v = w
    · subst e; rw [upd_same]; exact h
    · rw [upd_ne _ _ e]; exact g.ok v hv
/-- One of them turns the link of an item in his hands. -/
theorem GI.link (g : GI n hd lk t S m has) {w y : Nat} {v : Int} (hw : w < 4) (hy : y ∈ puts (m w)) (h0 : 0 ≤ v) (h1 : v ≤ n) {M : Mach} (hp : puts M = puts (m w)) (h : MI n hd (upd lk y v) t S M) : GI n hd (upd lk y v) t S (upd m w M) has := by
  obtain ⟨y0, y1, y2, _⟩ := g.mine hw hy
  refine ⟨g.head, g.chain.upd y1, g.small, fun x hx => ?_, fun x => ?_, fun u hu => ?_⟩
  · by_cases e : x = y
    · subst e; rw [upd_same]; exact ⟨h0, h1⟩
    · rw [upd_ne _ _ e]; exact g.links x hx
  · have c := g.cnt x
    have u := cnt_upd m has hw M (has w) x
    rw [upd_id] at u
    rw [hp] at u
    omega
  · by_cases e : u = w
    · subst e; rw [upd_same]; exact h
    · rw [upd_ne _ _ e]; exact (g.ok u hu).link (y2 u hu e)

/-- An exchange: the stack is another one, and one of them has put or got. -/
theorem GI.swap (g : GI n hd lk t S m has) {w : Nat} (hw : w < 4) {S' : List Nat} {h : List Nat} (hc : Chain lk S') (hn : ∀ x, S'.count x + h.count x = S.count x + (has w).count x + (puts (m w)).count x) :
    GI n (linkOf S' + ((t + 1 : Nat) : Int) * 4294967296) lk (t + 1) S' (upd m w .idle) (upd has w h) := by
  refine ⟨rfl, hc, g.small, g.links, fun x => ?_, fun v hv => ?_⟩
  · have c := g.cnt x
    have u := cnt_upd m has hw .idle h x
    have k := hn x
    simp only [puts_idle, List.count_nil] at u
    omega
  · by_cases e : v = w
    · subst e; rw [upd_same]; trivial
    · rw [upd_ne _ _ e]; exact (g.ok v hv).bump g.tag _ _

theorem getD_mem {l : List Nat} {j : Nat} (h : j < l.length) : l.getD j 0 ∈ l := by simp [List.getD, h]
theorem getLast_getD {l : List Nat} (h : l ≠ []) : l.getLast h = l.getD (l.length - 1) 0 := by
  have : l.length - 1 < l.length := by have := List.length_pos_iff.2 h; omega
  rw [List.getLast_eq_getElem]; simp [List.getD, this]
theorem nodup_getD {l : List Nat} {y : Nat} (h : l.count y = 1) {i j : Nat} (hi : i < l.length) (hj : j < l.length) (ei : l.getD i 0 = y) (ej : l.getD j 0 = y) : i = j := by
  induction l generalizing i j with
  | nil => simp at hi
  | cons a l ih =>
    rw [List.count_cons] at h
    cases i with
    | zero => cases j with
      | zero => rfl
      | succ j =>
        exfalso
        simp at ei ej hj
        have : y ∈ l := by rw [← ej]; simp [hj]
        have := List.count_pos_iff.2 this
        simp [ei] at h; omega
    | succ i => cases j with
      | zero =>
        exfalso
        simp at ei ej hi
        have : y ∈ l := by rw [← ei]; simp [hi]
        have := List.count_pos_iff.2 this
        simp [ej] at h; omega
      | succ j =>
        simp at hi hj
        have hin : y ∈ l := by
          have : l.getD i 0 = y := by simpa using ei
          rw [← this]; exact getD_mem hi
        have p := List.count_pos_iff.2 hin
        have h' : l.count y = 1 := by split at h <;> omega
        rw [ih h' hi hj (by simpa using ei) (by simpa using ej)]
/-- Push: a link of its own, but for the last. -/
theorem GI.push_store (g : GI n hd lk t S m has) {w : Nat} (hw : w < 4) {l : List Nat} {i : Nat} {old : Int} (e : m w = .push l i old) (hi : i + 1 < l.length) :
    GI n hd (upd lk (l.getD i 0) (l.getD (i + 1) 0 + 1)) t S (upd m w (.push l (i + 1) old)) has := by
  have k := g.ok w hw
  rw [e] at k
  obtain ⟨h1, h2, h3, h4, h5⟩ := k
  have hp : puts (m w) = l := by rw [e]; rfl
  have hy : l.getD i 0 ∈ puts (m w) := by rw [hp]; exact getD_mem (by omega)
  obtain ⟨_, _, _, c1⟩ := g.mine hw hy
  rw [hp] at c1
  have hz := (g.mine hw (show l.getD (i + 1) 0 ∈ puts (m w) by rw [hp]; exact getD_mem hi)).1
  refine g.link hw hy (by omega) (by omega) (by rw [hp]; rfl) ⟨h1, by omega, fun j hj hl => ?_, fun h => absurd h (by omega), fun _ h => absurd h (by omega)⟩
  by_cases ej : j = i
  · subst ej; rw [upd_same]
  · rw [upd_ne _ _ (fun e2 => ej (nodup_getD c1 (by omega) (by omega) e2 rfl))]
    exact h3 j (by omega) hl
/-- Push: the Load of the head. -/
theorem GI.push_load (g : GI n hd lk t S m has) {w : Nat} (hw : w < 4) {l : List Nat} {i : Nat} {old : Int} (e : m w = .push l i old) (hi : i + 1 = l.length) :
    GI n hd lk t S (upd m w (.push l (i + 1) hd)) has := by
  have k := g.ok w hw
  rw [e] at k
  obtain ⟨h1, h2, h3, h4, h5⟩ := k
  have q := g.mod
  have r := g.link_le
  refine g.own hw (by rw [e]; rfl) ⟨h1, by omega, fun j hj hl => h3 j (by omega) hl, fun _ => ⟨.inr rfl, by omega, by omega⟩, fun _ h => absurd h (by omega)⟩
/-- Push: the last one's link. -/
theorem GI.push_link (g : GI n hd lk t S m has) {w : Nat} (hw : w < 4) {l : List Nat} {i : Nat} {old : Int} (e : m w = .push l i old) (hi : i = l.length) :
    GI n hd (upd lk (l.getD (i - 1) 0) (old % 4294967296)) t S (upd m w (.push l (i + 1) old)) has := by
  have k := g.ok w hw
  rw [e] at k
  obtain ⟨h1, h2, h3, h4, h5⟩ := k
  have hp : puts (m w) = l := by rw [e]; rfl
  have l0 := List.length_pos_iff.2 h1
  have hy : l.getD (i - 1) 0 ∈ puts (m w) := by rw [hp]; exact getD_mem (by omega)
  obtain ⟨_, _, _, c1⟩ := g.mine hw hy
  rw [hp] at c1
  obtain ⟨s1, s2, s3⟩ := h4 (by omega)
  refine g.link hw hy s2 s3 (by rw [hp]; rfl) ⟨h1, by omega, fun j hj hl => ?_, fun _ => ⟨s1, s2, s3⟩, fun hne _ => ?_⟩
  · rw [upd_ne _ _ (fun e2 => by have := nodup_getD c1 (by omega) (by omega) e2 rfl; omega)]
    exact h3 j (by omega) hl
  · rw [getLast_getD, ← hi, upd_same]
/-- Push: the exchange, done. -/
theorem GI.push_yes (g : GI n hd lk t S m has) {w : Nat} (hw : w < 4) {l : List Nat} {i : Nat} (e : m w = .push l i hd) (hi : i = l.length + 1) :
    GI n (l.getD 0 0 + 1 + ((t + 1 : Nat) : Int) * 4294967296) lk (t + 1) (l ++ S) (upd m w .idle) has := by
  have k := g.ok w hw
  rw [e] at k
  obtain ⟨h1, h2, h3, h4, h5⟩ := k
  have hl : (l.getD 0 0 : Int) + 1 = linkOf (l ++ S) := by
    cases l with
    | nil => exact absurd rfl h1
    | cons x r => rfl
  have := g.swap hw (S' := l ++ S) (h := has w) (g.chain.above h1 (fun j hj => h3 j (by omega) hj) (by rw [h5 h1 hi]; exact g.mod)) (fun x => by rw [e]; simp only [puts_push, List.count_append]; omega)
  rw [upd_id] at this
  rw [hl]; exact this
/-- Push: the exchange failed: again from the Load of the head. -/
theorem GI.push_no (g : GI n hd lk t S m has) {w : Nat} (hw : w < 4) {l : List Nat} {i : Nat} {old : Int} (e : m w = .push l i old) (hi : i = l.length + 1) :
    GI n hd lk t S (upd m w (.push l (l.length - 1) old)) has := by
  have k := g.ok w hw
  rw [e] at k
  obtain ⟨h1, h2, h3, h4, h5⟩ := k
  have l0 := List.length_pos_iff.2 h1
  exact g.own hw (by rw [e]; rfl) ⟨h1, by omega, fun j hj hl => h3 j (by omega) hl, fun h => absurd h (by omega), fun _ h => absurd h (by omega)⟩
/-- Push: it begins. -/
theorem GI.push_new (g : GI n hd lk t S m has) {w : Nat} (hw : w < 4) (e : puts (m w) = []) {l r : List Nat} (hl : has w = l ++ r) (h0 : l ≠ []) (old : Int) :
    GI n hd lk t S (upd m w (.push l 0 old)) (upd has w r) := by
  refine ⟨g.head, g.chain, g.small, g.links, fun x => ?_, fun v hv => ?_⟩
  · have c := g.cnt x
    have u := cnt_upd m has hw (.push l 0 old) r x
    rw [e, hl, List.count_append] at u
    simp only [puts_push, List.count_nil] at u
    omega
  · by_cases e : v = w
    · subst e; rw [upd_same]
      have l0 := List.length_pos_iff.2 h0
      exact ⟨h0, by omega, fun j hj _ => absurd hj (by omega), fun h => absurd h (by omega), fun _ h => absurd h (by omega)⟩
    · rw [upd_ne _ _ e]; exact g.ok v hv
/-- Pop: it begins, or begins again. -/
theorem GI.pop_new (g : GI n hd lk t S m has) {w : Nat} (hw : w < 4) (e : puts (m w) = []) (most : Nat) (deep old : Int) : GI n hd lk t S (upd m w (.pop most 0 deep old [])) has :=
  g.own hw (by rw [e]; rfl) ⟨by omega, by simp, fun h => absurd h (by omega), fun h => absurd h (by omega)⟩
/-- Pop: it is over. -/
theorem GI.pop_over (g : GI n hd lk t S m has) {w : Nat} (hw : w < 4) (e : puts (m w) = []) : GI n hd lk t S (upd m w .idle) has := g.own hw (by rw [e]; rfl) trivial
/-- Pop: the Load of the head, where there is one. -/
theorem GI.pop_load (g : GI n hd lk t S m has) {w : Nat} (hw : w < 4) (e : puts (m w) = []) {x : Nat} {r : List Nat} (hS : S = x :: r) (most : Nat) (deep : Int) : GI n hd lk t S (upd m w (.pop most 1 deep hd [x])) has := by
  have hx := g.mem_lt (x := x) (by rw [hS]; simp)
  exact g.own hw (by rw [e]; rfl) ⟨by omega, by simpa using hx, fun _ => ⟨by simp, .inr ⟨rfl, r, by rw [hS]; rfl⟩⟩, fun h => absurd h (by omega)⟩
/-- Pop: the Load of a link: one more. -/
theorem GI.pop_more (g : GI n hd lk t S m has) {w : Nat} (hw : w < 4) {most : Nat} {deep old : Int} {l : List Nat} (e : m w = .pop most 1 deep old l) (hne : l ≠ []) {d : Nat} (hd' : lk (l.getLast hne) = d + 1) (deep' : Int) :
    GI n hd lk t S (upd m w (.pop most 1 deep' old (l ++ [d]))) has := by
  have k := g.ok w hw
  rw [e] at k
  obtain ⟨h1, h2, h3, h4⟩ := k
  have hin := h2 _ (List.getLast_mem hne)
  have hl := g.links _ hin
  refine g.own hw (by rw [e]; rfl) ⟨by omega, ?_, fun _ => ⟨by simp, ?_⟩, fun h => absurd h (by omega)⟩
  · intro x hx
    rcases List.mem_append.1 hx with h | h
    · exact h2 x h
    · simp at h; omega
  · rcases (h3 rfl).2 with h | ⟨h, r, hr⟩
    · exact .inl h
    · refine .inr ⟨h, ?_⟩
      have c := g.chain
      rw [hr] at c
      have q := c.last hne
      cases r with
      | nil => simp [linkOf] at q; omega
      | cons y r =>
        simp only [linkOf] at q
        have : y = d := by omega
        exact ⟨r, by rw [hr, this]; simp⟩
/-- Pop: the Load of a link: that was the last. -/
theorem GI.pop_last (g : GI n hd lk t S m has) {w : Nat} (hw : w < 4) {most : Nat} {deep old : Int} {l : List Nat} (e : m w = .pop most 1 deep old l) (hne : l ≠ []) :
    GI n hd lk t S (upd m w (.pop most 2 (lk (l.getLast hne) - 1) old l)) has := by
  have k := g.ok w hw
  rw [e] at k
  obtain ⟨h1, h2, h3, h4⟩ := k
  have hl := g.links _ (h2 _ (List.getLast_mem hne))
  refine g.own hw (by rw [e]; rfl) ⟨by omega, h2, fun h => absurd h (by omega), fun _ => ⟨by omega, by omega, hne, ?_⟩⟩
  rcases (h3 rfl).2 with h | ⟨h, r, hr⟩
  · exact .inl h
  · have c := g.chain
    rw [hr] at c
    exact .inr ⟨h, r, hr, by rw [c.last hne]; omega⟩
/-- Pop: the exchange, done. -/
theorem GI.pop_yes (g : GI n hd lk t S m has) {w : Nat} (hw : w < 4) {most : Nat} {deep : Int} {l : List Nat} (e : m w = .pop most 2 deep hd l) :
    ∃ r, S = l ++ r ∧ GI n (deep + 1 + ((t + 1 : Nat) : Int) * 4294967296) lk (t + 1) r (upd m w .idle) (upd has w (has w ++ l)) := by
  have k := g.ok w hw
  rw [e] at k
  obtain ⟨h1, h2, h3, h4⟩ := k
  obtain ⟨_, _, _, h⟩ := h4 rfl
  rcases h with h | ⟨_, r, hr, hdp⟩
  · have := g.tag; omega
  · refine ⟨r, hr, ?_⟩
    have c := g.chain
    rw [hr] at c
    have := g.swap hw (S' := r) (h := has w ++ l) c.right (fun x => by rw [e, hr]; simp only [puts_pop, List.count_append, List.count_nil]; omega)
    rw [hdp]; exact this
end
/-- Each item just once: what the count says of the whole list. -/
theorem all_once {n : Nat} {l : List Nat} (h : ∀ x, l.count x = if x < n then 1 else 0) : l.length = n ∧ (∀ x ∈ l, x < n) ∧ l.Nodup := by
  have p : l.Perm (List.range n) := by
    rw [List.perm_iff_count]
    intro x
    rw [h x, List.count_range]
  exact ⟨by simpa using p.length_eq, fun x hx => List.mem_range.1 (p.mem_iff.1 hx), p.nodup_iff.2 List.nodup_range⟩
end Go.Proofs.Yteofgnifpkcgmaa.Stk

/-
  A stack's cells as a list of words (the head at 0, the links from 2 on): how a store turns them; the list from the top; the filled stack; each item once. Plain facts: no program is named here.
-/
namespace Go.Proofs.Yteofgnifpkcgmaa.Stk

def hdOf (xs : List Int) : Int := xs.getD 0 0
def lkOf (xs : List Int) (i : Nat) : Int := xs.getD (2 + i) 0
theorem hdOf_set_head {xs : List Int} {v : Int} (h : 0 < xs.length) : hdOf (xs.set 0 v) = v := by simp [hdOf, List.getD, h]
theorem lkOf_set_head (xs : List Int) (v : Int) : lkOf (xs.set 0 v) = lkOf xs := by
  funext i
  unfold lkOf List.getD
  rw [List.getElem?_set_ne (by omega)]
theorem hdOf_set_link (xs : List Int) (y : Nat) (v : Int) : hdOf (xs.set (2 + y) v) = hdOf xs := by simp [hdOf, List.getD]
theorem lkOf_set_link {xs : List Int} {y : Nat} {v : Int} (h : 2 + y < xs.length) : lkOf (xs.set (2 + y) v) = upd (lkOf xs) y v := by
  funext i
  unfold lkOf upd
  by_cases e : i = y
  · subst e; simp [List.getD, h]
  · have : 2 + y ≠ 2 + i := by omega
    unfold List.getD
    rw [List.getElem?_set_ne this, if_neg e]

section
variable {n : Nat} {hd : Int} {lk : Nat → Int} {t : Nat} {S : List Nat} {m : Nat → Mach} {has : Nat → List Nat}
/-- The link of the one at place j leads to what stands below. -/
theorem Chain.get : ∀ {S : List Nat} {j : Nat}, Chain lk S → j < S.length → lk (S.getD j 0) = linkOf (S.drop (j + 1))
  | x :: r, 0, h, _ => by simpa using h.1
  | x :: r, j + 1, h, hj => by
    have := Chain.get (S := r) (j := j) h.2 (by simpa using hj)
    simpa using this
theorem linkOf_drop {S : List Nat} {j : Nat} (h : j < S.length) : linkOf (S.drop j) = S.getD j 0 + 1 := by
  rw [List.drop_eq_getElem_cons h]; simp [linkOf, List.getD, h]
theorem linkOf_end {S : List Nat} {j : Nat} (h : S.length ≤ j) : linkOf (S.drop j) = 0 := by rw [List.drop_eq_nil_of_le h]; rfl
theorem linkOf_zero {S : List Nat} (h : linkOf S = 0) : S = [] := by
  cases S with
  | nil => rfl
  | cons x r => simp [linkOf] at h; omega
theorem linkOf_pos {S : List Nat} {x : Nat} (h : linkOf S = x + 1) : ∃ r, S = x :: r := by
  cases S with
  | nil => simp [linkOf] at h; omega
  | cons y r => simp only [linkOf] at h; exact ⟨r, by rw [show y = x by omega]⟩
theorem take_more {S : List Nat} {j : Nat} (h : j < S.length) : S.take j ++ [S.getD j 0] = S.take (j + 1) := by
  rw [List.take_add_one]; simp [List.getD, h]
/-- The items, all of them: each is there just once. -/
theorem GI.once (g : GI n hd lk t S m has) {L : List Nat} (hL : L = S ++ (has 0 ++ puts (m 0)) ++ (has 1 ++ puts (m 1)) ++ (has 2 ++ puts (m 2)) ++ (has 3 ++ puts (m 3))) : L.length = n ∧ (∀ x ∈ L, x < n) ∧ L.Nodup := by
  refine all_once (fun x => ?_)
  have c := g.cnt x
  unfold sum4 at c
  dsimp only at c
  rw [hL]
  simp only [List.count_append]
  omega
theorem GI.len (g : GI n hd lk t S m has) : S.length ≤ n := by
  have h := (g.once rfl).1
  simp only [List.length_append] at h
  omega
theorem GI.nodup (g : GI n hd lk t S m has) : S.Nodup := by
  rw [List.nodup_iff_count]
  intro x
  have c := g.cnt x
  split at c <;> omega
/-- The filled stack. -/
theorem chain_range {lk : Nat → Int} {n : Nat} (h : ∀ i, i < n → lk i = if i + 1 < n then (i : Int) + 2 else 0) : ∀ k a, a + k = n → Chain lk (List.range' a k)
  | 0, _, _ => trivial
  | k + 1, a, e => by
    rw [List.range'_succ]
    refine ⟨?_, chain_range h k (a + 1) (by omega)⟩
    rw [h a (by omega)]
    cases k with
    | zero => rw [if_neg (by omega)]; rfl
    | succ k => rw [if_pos (by omega), List.range'_succ]; simp [linkOf]; omega
theorem GI.fill {n : Nat} {hd : Int} {lk : Nat → Int} (h0 : 0 < n) (h1 : n < 4294967295) (hh : hd = 1) (hl : ∀ i, i < n → lk i = if i + 1 < n then (i : Int) + 2 else 0) :
    GI n hd lk 0 (List.range n) (fun _ => .idle) (fun _ => []) := by
  refine ⟨?_, ?_, h1, fun x hx => ?_, fun x => ?_, fun _ _ => trivial⟩
  · cases n with
    | zero => omega
    | succ n => rw [List.range_eq_range', List.range'_succ]; simp [linkOf, hh]
  · rw [List.range_eq_range']; exact chain_range hl n 0 (by omega)
  · rw [hl x hx]; split <;> omega
  · rw [List.count_range]; simp [sum4, puts_idle]
end
end Go.Proofs.Yteofgnifpkcgmaa.Stk

/-
  Package stack: the machine Push.
-/
namespace Go.Proofs.Yteofgnifpkcgmaa
open Go.RowKit
open W64
section
variable {w w' : World} {p g q hd ln n b : Nat} {s : St} {v : Value} {l : List Nat} {i : Nat} {old : Int} {nx : Value}
theorem Ints.get {l : List Nat} (h : Ints w v (I l)) (hl : l ≠ []) : ∃ r cap, v = .slice (some ⟨r, 0, none⟩) l.length cap ∧ ∀ j, j < l.length → w.cell? ⟨r, j, none⟩ = some (.int .i64 ((l.getD j 0 : Nat) : Int)) := by
  obtain ⟨A, cap, e⟩ := h.slice
  rw [I_len] at e
  rw [e] at h
  unfold Ints at h
  rw [I_len] at h
  obtain ⟨r, hr, _⟩ := own_cell h (List.length_pos_iff.2 hl)
  refine ⟨r, cap, by rw [e, hr], fun j hj => ?_⟩
  obtain ⟨r', hr', hc⟩ := own_cell h hj
  rw [hr] at hr'; injection hr' with e2; injection e2 with e2; subst e2
  rw [hc]; simp [I, List.getD, hj]
theorem nextW_is {x i : Int} (i0 : -1 ≤ i) (i1 : i ≤ 4096) : headB i (nextT (x / 4294967296)) = true ∧ headN i (nextT (x / 4294967296)) = nextW x i := by
  have h : headB i (nextT (x / 4294967296)) = true := by
    rw [headB_iff]
    unfold nextT inB
    refine ⟨⟨i0, by omega⟩, ?_⟩
    split
    · rename_i h; simp at h; omega
    · omega
  exact ⟨h, by unfold nextW headV; rw [if_pos h]⟩
end
end Go.Proofs.Yteofgnifpkcgmaa

/-
  Package stack: the machine Push, its accesses.
-/
namespace Go.Proofs.Yteofgnifpkcgmaa
open Go.RowKit
open W64
set_option maxRecDepth 100000
section
variable {w w' : World} {p g q hd ln n b : Nat} {s : St} {v : Value} {l : List Nat} {i : Nat} {old : Int} {nx : Value}
/-- A machine lies apart from the stack and its memory. -/
structure Apart (b p g q : Nat) (v : Value) : Prop where
  bp : b ≠ p
  bg : b ≠ g
  bq : b ≠ q
  vp : v.ownBlock ≠ some p
  vg : v.ownBlock ≠ some g
  vq : v.ownBlock ≠ some q
theorem Apart.b2 {v : Value} (A : Apart b p g q v) : b ∉ [p, g] := by simp [A.bp, A.bg]
theorem Apart.v2 {v : Value} (A : Apart b p g q v) : Away v [p, g] := by
  intro k hk; simp at hk; rcases hk with rfl | rfl
  · exact A.vp
  · exact A.vg
end
end Go.Proofs.Yteofgnifpkcgmaa

/-
  Package stack: the machine Push, its last accesses, Step, Done.
-/
namespace Go.Proofs.Yteofgnifpkcgmaa
open Go.RowKit
open W64
set_option maxRecDepth 100000
section
variable {w w' : World} {p g q hd ln n b : Nat} {s : St} {v : Value} {l : List Nat} {i : Nat} {old : Int} {nx : Value}
theorem topN_in {x : Int} (_ : 0 ≤ x) (hn : 1 ≤ n) : -1 ≤ topN n x ∧ topN n x < n := by
  unfold topN; split <;> omega
theorem belowN_in {x : Int} (h : 0 ≤ x) (hn : 1 ≤ n) : -1 ≤ belowN n x ∧ belowN n x < n := by
  unfold belowN; split <;> omega
/-! ### Done, Step -/
end
end Go.Proofs.Yteofgnifpkcgmaa

/-
  Package stack: the machine Pop.
-/
namespace Go.Proofs.Yteofgnifpkcgmaa
open Go.RowKit
open W64
section
variable {w w' : World} {p g q hd ln n b most : Nat} {s : St} {v v' : Value} {l l' : List Nat} {deep old : Int} {nx : Value}
theorem row_self {w : World} {v : Value} {xs : List Int} (h : Ints w v xs) (a : v.ownBlock ≠ some b) {i : Nat} (u : Value) : Ints (w.setCell ⟨b, i, none⟩ u) v xs :=
  h.else (Else.set (s := [b]) (Else.refl [b] w) (p := ⟨b, i, none⟩) (.inl (by simp)) u) (by intro k hk; simp at hk; subst hk; exact a)
theorem Mem.self (M : Mem w p g s) (h1 : b ≠ p) (h2 : b ≠ g) (i : Nat) (u : Value) : Mem (w.setCell ⟨b, i, none⟩ u) p g s :=
  M.else (l := [b]) (Else.set (Else.refl [b] w) (p := ⟨b, i, none⟩) (.inl (by simp)) u) (by simp [h1.symm]) (by simp [h2.symm])
theorem Env.self (E : Env w p g q hd ln n s) (h1 : b ≠ p) (h2 : b ≠ g) (h3 : b ≠ q) (i : Nat) (u : Value) : Env (w.setCell ⟨b, i, none⟩ u) p g q hd ln n s :=
  E.else (l := [b]) (Else.set (Else.refl [b] w) (p := ⟨b, i, none⟩) (.inl (by simp)) u) (by simp [h1.symm]) (by simp [h2.symm]) (by simp [h3.symm])

end
end Go.Proofs.Yteofgnifpkcgmaa

/-
  Package stack: the machine Pop: the Load of a link, the exchange, Step, Done.
-/
namespace Go.Proofs.Yteofgnifpkcgmaa
open Go.RowKit
open W64
set_option maxRecDepth 100000
section
variable {w w' : World} {p g q hd ln n b most : Nat} {s : St} {v v' : Value} {l l' : List Nat} {deep old : Int} {nx : Value}

end
end Go.Proofs.Yteofgnifpkcgmaa

/-
  Package stack: Push begins.
-/
namespace Go.Proofs.Yteofgnifpkcgmaa
open Go.RowKit
set_option maxRecDepth 100000
section
variable {w : World} {p g q hd ln n : Nat} {s : St} {l : List Nat} {v : Value}
end
end Go.Proofs.Yteofgnifpkcgmaa

/-
  The machines of package stack as plain data: what they are behind each access, what the cells are. No function of the program is named here.
-/
namespace Go.Proofs.Yteofgnifpkcgmaa
open Go.RowKit
open W64
set_option maxRecDepth 100000
/-- A Pop: 0: the Load of the head is next, 1: of a link, 2: the Cas. -/
structure Po where
  most : Nat
  i : Nat
  deep : Int
  old : Int
  l : List Nat
  fin : Bool
/-- A Push: i below len - 1: a link is next; len - 1: the Load of the head; len: the last link; len + 1: the Cas. -/
structure Pu where
  l : List Nat
  i : Nat
  old : Int
  fin : Bool
def Po.last (P : Po) : Nat := P.l.getD (P.l.length - 1) 0
def Po.go (n hd ln : Nat) (xs : List Int) (P : Po) : Po :=
  if P.i = 0 then
    if topN n (xs.getD hd 0) = -1 then ⟨P.most, 0, P.deep, xs.getD hd 0, [], true⟩
    else ⟨P.most, 1, P.deep, xs.getD hd 0, [(topN n (xs.getD hd 0)).toNat], false⟩
  else if P.i = 1 then
    if belowN n (xs.getD (ln + P.last) 0) = -1 ∨ P.l.length = P.most then ⟨P.most, 2, belowN n (xs.getD (ln + P.last) 0), P.old, P.l, false⟩
    else ⟨P.most, 1, belowN n (xs.getD (ln + P.last) 0), P.old, P.l ++ [(belowN n (xs.getD (ln + P.last) 0)).toNat], false⟩
  else ⟨P.most, 0, P.deep, P.old, P.l, decide (xs.getD hd 0 = P.old)⟩
def Po.xs (hd : Nat) (xs : List Int) (P : Po) : List Int := if P.i = 2 ∧ xs.getD hd 0 = P.old then xs.set hd (nextW P.old P.deep) else xs
def Pu.go (hd : Nat) (xs : List Int) (P : Pu) : Pu :=
  if P.i + 1 < P.l.length then ⟨P.l, P.i + 1, P.old, false⟩
  else if P.i + 1 = P.l.length then ⟨P.l, P.i + 1, xs.getD hd 0, false⟩
  else if P.i = P.l.length then ⟨P.l, P.i + 1, P.old, false⟩
  else ⟨P.l, P.l.length - 1, P.old, decide (xs.getD hd 0 = P.old)⟩
def Pu.xs (n hd ln : Nat) (xs : List Int) (P : Pu) : List Int :=
  if P.i + 1 < P.l.length then xs.set (ln + P.l.getD P.i 0) ((P.l.getD (P.i + 1) 0 : Nat) + 1)
  else if P.i + 1 = P.l.length then xs
  else if P.i = P.l.length then xs.set (ln + P.l.getD (P.l.length - 1) 0) (topN n P.old + 1)
  else if xs.getD hd 0 = P.old then xs.set hd (nextW P.old (P.l.getD 0 0 : Nat)) else xs
/-- What a Pop's numbers keep to. -/
structure Po.Ok (n : Nat) (P : Po) : Prop where
  m1 : 1 ≤ P.most
  m8 : P.most ≤ 8
  len : P.l.length ≤ P.most
  lt : ∀ x ∈ P.l, x < n
  i2 : P.i ≤ 2
  ne : P.i ≠ 0 → P.l ≠ []
  d2 : P.i = 2 → -1 ≤ P.deep ∧ P.deep < n
  o0 : 0 ≤ P.old
  o1 : P.old < 18446744073709551616
structure Pu.Ok (n : Nat) (P : Pu) : Prop where
  ne : P.l ≠ []
  lt : ∀ x ∈ P.l, x < n
  len : P.l.length ≤ 8192
  top : P.i ≤ P.l.length + 1
  o0 : 0 ≤ P.old
  o1 : P.old < 18446744073709551616
section
variable {n hd ln : Nat} {xs : List Int} {P : Po} {U : Pu}
abbrev Words (xs : List Int) : Prop := ∀ i : Nat, 0 ≤ xs.getD i 0 ∧ xs.getD i 0 < 18446744073709551616
theorem topN_nat {x : Int} (h0 : 0 ≤ x) (hn : 1 ≤ n) (h : ¬ topN n x = -1) : topN n x = ((topN n x).toNat : Int) ∧ (topN n x).toNat < n := by
  have := topN_in (n := n) h0 hn
  omega
theorem belowN_nat {x : Int} (h0 : 0 ≤ x) (hn : 1 ≤ n) (h : ¬ belowN n x = -1) : belowN n x = ((belowN n x).toNat : Int) ∧ (belowN n x).toNat < n := by
  have := belowN_in (n := n) h0 hn
  omega
theorem Po.Ok.go (K : P.Ok n) (hw : Words xs) (hn : 1 ≤ n) : (P.go n hd ln xs).Ok n := by
  obtain ⟨h1, h2, h3, h4, h5, h6, h7, h8, h9⟩ := K
  have a := hw hd
  have c := hw (ln + P.last)
  unfold Po.go
  split
  · split
    · exact ⟨h1, h2, by simp, by simp, by simp, by simp, by simp, a.1, a.2⟩
    · rename_i h
      have t := topN_nat a.1 hn h
      exact ⟨h1, h2, by simpa using h1, by simpa using t.2, by simp, by simp, by simp, a.1, a.2⟩
  · split
    · rename_i hi0 hi
      split
      · have b := belowN_in (n := n) c.1 hn
        exact ⟨h1, h2, h3, h4, by simp, fun _ => h6 (by omega), fun _ => b, h8, h9⟩
      · rename_i h
        have hb : ¬ belowN n (xs.getD (ln + P.last) 0) = -1 := fun e => h (.inl e)
        have hm : ¬ P.l.length = P.most := fun e => h (.inr e)
        have b := belowN_nat c.1 hn hb
        refine ⟨h1, h2, by simp; omega, ?_, by simp, by simp, by simp, h8, h9⟩
        intro x hx
        rcases List.mem_append.1 hx with hx | hx
        · exact h4 x hx
        · rw [List.mem_singleton] at hx; subst hx; exact b.2
    · exact ⟨h1, h2, h3, h4, by simp, by simp, by simp, h8, h9⟩
theorem Pu.Ok.go (K : U.Ok n) (hw : Words xs) : (U.go hd xs).Ok n := by
  obtain ⟨h1, h2, h3, h4, h5, h6⟩ := K
  have a := hw hd
  have hl := List.length_pos_iff.2 h1
  unfold Pu.go
  split
  · exact ⟨h1, h2, h3, by dsimp only; omega, h5, h6⟩
  · split
    · exact ⟨h1, h2, h3, by dsimp only; omega, a.1, a.2⟩
    · split
      · exact ⟨h1, h2, h3, by dsimp only; omega, h5, h6⟩
      · exact ⟨h1, h2, h3, by dsimp only; omega, h5, h6⟩
end
end Go.Proofs.Yteofgnifpkcgmaa
