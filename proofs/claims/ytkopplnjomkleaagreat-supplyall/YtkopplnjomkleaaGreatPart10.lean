/-
  Texts beneath SupplyAll, part 10: StackMath, StackMem, Push.
-/
import Derived.Test.YtkopplnjomkleaaGreatPart9
import Derived.Lib.Hide
import Derived.Laws.EntriesVeiled
/-
  Stacks of items whose head bears a tag, turned by machines of single accesses: what holds whoever goes on when. Plain facts: no program is named here.
-/
namespace Go.Proofs.YtkopplnjomkleaaGreat.Stk

/-- A function turned at one place. -/
def upd {α : Type} (f : Nat → α) (i : Nat) (v : α) : Nat → α := fun j => if j = i then v else f j
theorem upd_same {α : Type} (f : Nat → α) (i : Nat) (v : α) : upd f i v i = v := by simp [upd]
theorem upd_ne {α : Type} (f : Nat → α) {i j : Nat} (v : α) (h : j ≠ i) : upd f i v j = f j := by simp [upd, h]

/-- The link that leads to the top of a list: its first item and 1; 0: there is none. -/
def linkOf : List Nat → Int
  | [] => 0
  | x :: _ => x + 1
/-- The links lead through the list, from its top. -/
def Chain (lk : Nat → Int) : List Nat → Prop
  | [] => True
  | x :: r => lk x = linkOf r ∧ Chain lk r
theorem Chain.upd {lk : Nat → Int} {y : Nat} {v : Int} : ∀ {S : List Nat}, Chain lk S → y ∉ S → Chain (upd lk y v) S
  | [], _, _ => trivial
  | x :: r, ⟨h1, h2⟩, hy => by
    have hx : x ≠ y := fun e => hy (e ▸ List.mem_cons_self)
    exact ⟨by rw [upd_ne _ _ hx]; exact h1, Chain.upd h2 (fun h => hy (List.mem_cons_of_mem _ h))⟩
theorem Chain.right {lk : Nat → Int} : ∀ {a b : List Nat}, Chain lk (a ++ b) → Chain lk b
  | [], _, h => h
  | _ :: a, _, h => Chain.right (a := a) h.2
/-- The last one's link leads to what stands below. -/
theorem Chain.last {lk : Nat → Int} : ∀ {a b : List Nat} (h : a ≠ []), Chain lk (a ++ b) → lk (a.getLast h) = linkOf b
  | [x], b, _, h => h.1
  | x :: y :: a, b, _, h => by
    rw [List.getLast_cons (by simp)]
    exact Chain.last (a := y :: a) (by simp) h.2
/-- A list whose inner links are laid, and whose last one's link leads to b, stands above b. -/
theorem Chain.above {lk : Nat → Int} {b : List Nat} (hb : Chain lk b) : ∀ {a : List Nat} (h : a ≠ []), (∀ j, j + 1 < a.length → lk (a.getD j 0) = a.getD (j + 1) 0 + 1) → lk (a.getLast h) = linkOf b → Chain lk (a ++ b)
  | [x], _, _, hl => ⟨hl, hb⟩
  | x :: y :: a, _, hi, hl => by
    refine ⟨?_, ?_⟩
    · have := hi 0 (by simp)
      simpa [linkOf] using this
    · refine Chain.above hb (a := y :: a) (by simp) (fun j hj => ?_) (by rwa [List.getLast_cons (by simp)] at hl)
      have := hi (j + 1) (by simpa using hj)
      simpa using this
theorem linkOf_append {a b : List Nat} (h : a ≠ []) : linkOf (a ++ b) = linkOf a := by
  cases a with
  | nil => exact absurd rfl h
  | cons x a => rfl
theorem linkOf_nonneg (S : List Nat) : 0 ≤ linkOf S := by cases S <;> simp [linkOf]; omega
theorem linkOf_le {n : Nat} {S : List Nat} (h : ∀ x ∈ S, x < n) : linkOf S ≤ n := by
  cases S with
  | nil => simp [linkOf]
  | cons x r => have := h x List.mem_cons_self; simp [linkOf]; omega

/-- What one who shares the stack is about. Push: its items, how far it is, the head that it has seen. Pop: how many at most, how far it is, what is below, the head that it has seen, the items so far. -/
inductive Mach
  | idle
  | push (l : List Nat) (at_ : Nat) (old : Int)
  | pop (most at_ : Nat) (deep old : Int) (l : List Nat)
/-- The items in a machine's hands. -/
def puts : Mach → List Nat
  | .push l _ _ => l
  | _ => []
theorem puts_idle : puts .idle = [] := rfl
theorem puts_push (l : List Nat) (i : Nat) (old : Int) : puts (.push l i old) = l := rfl
theorem puts_pop (most i : Nat) (deep old : Int) (l : List Nat) : puts (.pop most i deep old l) = [] := rfl
/-- The head that was seen is an elder one (its tag is less), or it is the head still. -/
def Seen (hd : Int) (t : Nat) (old : Int) : Prop := old / 4294967296 < t ∨ old = hd
/-- What holds of one machine. -/
def MI (n : Nat) (hd : Int) (lk : Nat → Int) (t : Nat) (S : List Nat) : Mach → Prop
  | .idle => True
  | .push l i old => l ≠ [] ∧ i ≤ l.length + 1 ∧ (∀ j, j < i → j + 1 < l.length → lk (l.getD j 0) = l.getD (j + 1) 0 + 1) ∧
      (l.length ≤ i → Seen hd t old ∧ 0 ≤ old % 4294967296 ∧ old % 4294967296 ≤ n) ∧ (∀ h : l ≠ [], i = l.length + 1 → lk (l.getLast h) = old % 4294967296)
  | .pop _ i deep old l => i ≤ 2 ∧ (∀ x ∈ l, x < n) ∧ (i = 1 → l ≠ [] ∧ (old / 4294967296 < t ∨ (old = hd ∧ ∃ r, S = l ++ r))) ∧
      (i = 2 → -1 ≤ deep ∧ deep < n ∧ l ≠ [] ∧ (old / 4294967296 < t ∨ (old = hd ∧ ∃ r, S = l ++ r ∧ deep + 1 = linkOf r)))
def sum4 (f : Nat → Nat) : Nat := f 0 + f 1 + f 2 + f 3
/-- What holds of all four, the stack S, its links, the tag t: each item is just once in S or somebody's. -/
structure GI (n : Nat) (hd : Int) (lk : Nat → Int) (t : Nat) (S : List Nat) (m : Nat → Mach) (has : Nat → List Nat) : Prop where
  head : hd = linkOf S + t * 4294967296
  chain : Chain lk S
  small : n < 4294967295
  links : ∀ x, x < n → 0 ≤ lk x ∧ lk x ≤ n
  cnt : ∀ x, S.count x + sum4 (fun w => (has w).count x + (puts (m w)).count x) = if x < n then 1 else 0
  ok : ∀ w, w < 4 → MI n hd lk t S (m w)

section
variable {n : Nat} {hd : Int} {lk : Nat → Int} {t : Nat} {S : List Nat} {m : Nat → Mach} {has : Nat → List Nat}
theorem sum4_ge (f : Nat → Nat) {w : Nat} (hw : w < 4) : f w ≤ sum4 f := by
  unfold sum4
  rcases (show w = 0 ∨ w = 1 ∨ w = 2 ∨ w = 3 by omega) with rfl | rfl | rfl | rfl <;> omega
theorem sum4_two (f : Nat → Nat) {w v : Nat} (hw : w < 4) (hv : v < 4) (h : w ≠ v) : f w + f v ≤ sum4 f := by
  unfold sum4
  rcases (show w = 0 ∨ w = 1 ∨ w = 2 ∨ w = 3 by omega) with rfl | rfl | rfl | rfl <;> rcases (show v = 0 ∨ v = 1 ∨ v = 2 ∨ v = 3 by omega) with rfl | rfl | rfl | rfl <;> first | omega | exact absurd rfl h
theorem sum4_upd (f g : Nat → Nat) {w : Nat} (hw : w < 4) (h : ∀ v, v ≠ w → g v = f v) : sum4 g + f w = sum4 f + g w := by
  unfold sum4
  rcases (show w = 0 ∨ w = 1 ∨ w = 2 ∨ w = 3 by omega) with rfl | rfl | rfl | rfl
  · have a := h 1 (by omega); have b := h 2 (by omega); have c := h 3 (by omega); omega
  · have a := h 0 (by omega); have b := h 2 (by omega); have c := h 3 (by omega); omega
  · have a := h 0 (by omega); have b := h 1 (by omega); have c := h 3 (by omega); omega
  · have a := h 0 (by omega); have b := h 1 (by omega); have c := h 2 (by omega); omega
theorem cnt_upd (m : Nat → Mach) (has : Nat → List Nat) {w : Nat} (hw : w < 4) (M : Mach) (h : List Nat) (x : Nat) :
    sum4 (fun v => ((upd has w h) v).count x + (puts ((upd m w M) v)).count x) + ((has w).count x + (puts (m w)).count x) = sum4 (fun v => (has v).count x + (puts (m v)).count x) + (h.count x + (puts M).count x) := by
  have := sum4_upd (fun v => (has v).count x + (puts (m v)).count x) (fun v => ((upd has w h) v).count x + (puts ((upd m w M) v)).count x) hw (fun v hv => by simp [upd_ne _ _ hv])
  simpa [upd_same] using this
theorem upd_id {α : Type} (f : Nat → α) (w : Nat) : upd f w (f w) = f := by
  funext j; unfold upd; split
  · subst_vars; rfl
  · rfl
/-- An item in a machine's hands is in no other place. -/
theorem GI.mine (g : GI n hd lk t S m has) {w y : Nat} (hw : w < 4) (hy : y ∈ puts (m w)) : y < n ∧ y ∉ S ∧ (∀ v, v < 4 → v ≠ w → y ∉ puts (m v)) ∧ (puts (m w)).count y = 1 := by
  have c := g.cnt y
  have p := List.count_pos_iff.2 hy
  have s1 := sum4_ge (fun w => (has w).count y + (puts (m w)).count y) hw
  have hn : y < n := by
    by_cases h : y < n
    · exact h
    · rw [if_neg h] at c; omega
  rw [if_pos hn] at c
  refine ⟨hn, ?_, fun v hv hne hin => ?_, by omega⟩
  · intro h; have := List.count_pos_iff.2 h; omega
  · have q := List.count_pos_iff.2 hin
    have s2 := sum4_two (fun w => (has w).count y + (puts (m w)).count y) hw hv (Ne.symm hne)
    omega
theorem GI.mem_lt (g : GI n hd lk t S m has) {x : Nat} (hx : x ∈ S) : x < n := by
  have c := g.cnt x
  have p := List.count_pos_iff.2 hx
  by_cases h : x < n
  · exact h
  · rw [if_neg h] at c; omega
theorem GI.link_le (g : GI n hd lk t S m has) : 0 ≤ linkOf S ∧ linkOf S ≤ n := ⟨linkOf_nonneg S, linkOf_le fun _ hx => g.mem_lt hx⟩
theorem GI.mod (g : GI n hd lk t S m has) : hd % 4294967296 = linkOf S := by
  have := g.link_le; have := g.small; have := g.head; omega
theorem GI.tag (g : GI n hd lk t S m has) : hd / 4294967296 = t := by
  have := g.link_le; have := g.small; have := g.head; omega
/-- A link of an item that is none of this machine's turns nothing of it. -/
theorem MI.link {M : Mach} (h : MI n hd lk t S M) {y : Nat} {v : Int} (hy : y ∉ puts M) : MI n hd (upd lk y v) t S M := by
  cases M with
  | idle => trivial
  | pop _ _ _ _ _ => exact h
  | push l i old =>
    obtain ⟨h1, h2, h3, h4, h5⟩ := h
    have hy : y ∉ l := hy
    have hm : ∀ j, j < l.length → l.getD j 0 ≠ y := fun j hj e => hy (by rw [← e]; simp [List.getD, hj])
    refine ⟨h1, h2, fun j hj hl => ?_, h4, fun hne hi => ?_⟩
    · rw [upd_ne _ _ (hm j (by omega))]; exact h3 j hj hl
    · rw [upd_ne _ _ (fun e => hy (by rw [← e]; exact List.getLast_mem hne))]; exact h5 hne hi
/-- An exchange of another one: the head that was seen is an elder one. -/
theorem MI.bump {M : Mach} (h : MI n hd lk t S M) (ht : hd / 4294967296 = t) (hd' : Int) (S' : List Nat) : MI n hd' lk (t + 1) S' M := by
  have key : ∀ {old : Int} {P : Prop}, (old / 4294967296 < t ∨ (old = hd ∧ P)) → old / 4294967296 < ((t + 1 : Nat) : Int) := by
    rintro old P (h | ⟨rfl, _⟩) <;> omega
  cases M with
  | idle => trivial
  | push l i old =>
    obtain ⟨h1, h2, h3, h4, h5⟩ := h
    refine ⟨h1, h2, h3, fun hi => ⟨.inl ?_, (h4 hi).2⟩, h5⟩
    rcases (h4 hi).1 with h | rfl <;> omega
  | pop most i deep old l =>
    obtain ⟨h1, h2, h3, h4⟩ := h
    exact ⟨h1, h2, fun hi => ⟨(h3 hi).1, .inl (key (h3 hi).2)⟩, fun hi => ⟨(h4 hi).1, (h4 hi).2.1, (h4 hi).2.2.1, .inl (key (h4 hi).2.2.2)⟩⟩
/-- One of them has another machine, or goes on within his own; no cell is turned. -/
theorem GI.own (g : GI n hd lk t S m has) {w : Nat} (hw : w < 4) {M : Mach} (hp : puts M = puts (m w)) (h : MI n hd lk t S M) : GI n hd lk t S (upd m w M) has := by
  refine ⟨g.head, g.chain, g.small, g.links, fun x => ?_, fun v hv => ?_⟩
  · have c := g.cnt x
    have u := cnt_upd m has hw M (has w) x
    rw [upd_id] at u
    rw [hp] at u
    omega
  · by_cases e : v = w
    · subst e; rw [upd_same]; exact h
    · rw [upd_ne _ _ e]; exact g.ok v hv
/-- One of them turns the link of an item in his hands. -/
theorem GI.link (g : GI n hd lk t S m has) {w y : Nat} {v : Int} (hw : w < 4) (hy : y ∈ puts (m w)) (h0 : 0 ≤ v) (h1 : v ≤ n) {M : Mach} (hp : puts M = puts (m w)) (h : MI n hd (upd lk y v) t S M) : GI n hd (upd lk y v) t S (upd m w M) has := by
  obtain ⟨y0, y1, y2, _⟩ := g.mine hw hy
  refine ⟨g.head, g.chain.upd y1, g.small, fun x hx => ?_, fun x => ?_, fun u hu => ?_⟩
  · by_cases e : x = y
    · subst e; rw [upd_same]; exact ⟨h0, h1⟩
    · rw [upd_ne _ _ e]; exact g.links x hx
  · have c := g.cnt x
    have u := cnt_upd m has hw M (has w) x
    rw [upd_id] at u
    rw [hp] at u
    omega
  · by_cases e : u = w
    · subst e; rw [upd_same]; exact h
    · rw [upd_ne _ _ e]; exact (g.ok u hu).link (y2 u hu e)

/-- An exchange: the stack is another one, and one of them has put or got. -/
theorem GI.swap (g : GI n hd lk t S m has) {w : Nat} (hw : w < 4) {S' : List Nat} {h : List Nat} (hc : Chain lk S') (hn : ∀ x, S'.count x + h.count x = S.count x + (has w).count x + (puts (m w)).count x) :
    GI n (linkOf S' + ((t + 1 : Nat) : Int) * 4294967296) lk (t + 1) S' (upd m w .idle) (upd has w h) := by
  refine ⟨rfl, hc, g.small, g.links, fun x => ?_, fun v hv => ?_⟩
  · have c := g.cnt x
    have u := cnt_upd m has hw .idle h x
    have k := hn x
    simp only [puts_idle, List.count_nil] at u
    omega
  · by_cases e : v = w
    · subst e; rw [upd_same]; trivial
    · rw [upd_ne _ _ e]; exact (g.ok v hv).bump g.tag _ _

theorem getD_mem {l : List Nat} {j : Nat} (h : j < l.length) : l.getD j 0 ∈ l := by simp [List.getD, h]
theorem getLast_getD {l : List Nat} (h : l ≠ []) : l.getLast h = l.getD (l.length - 1) 0 := by
  have : l.length - 1 < l.length := by have := List.length_pos_iff.2 h; omega
  rw [List.getLast_eq_getElem]; simp [List.getD, this]
theorem nodup_getD {l : List Nat} {y : Nat} (h : l.count y = 1) {i j : Nat} (hi : i < l.length) (hj : j < l.length) (ei : l.getD i 0 = y) (ej : l.getD j 0 = y) : i = j := by
  induction l generalizing i j with
  | nil => simp at hi
  | cons a l ih =>
    rw [List.count_cons] at h
    cases i with
    | zero => cases j with
      | zero => rfl
      | succ j =>
        exfalso
        simp at ei ej hj
        have : y ∈ l := by rw [← ej]; simp [hj]
        have := List.count_pos_iff.2 this
        simp [ei] at h; omega
    | succ i => cases j with
      | zero =>
        exfalso
        simp at ei ej hi
        have : y ∈ l := by rw [← ei]; simp [hi]
        have := List.count_pos_iff.2 this
        simp [ej] at h; omega
      | succ j =>
        simp at hi hj
        have hin : y ∈ l := by
          have : l.getD i 0 = y := by simpa using ei
          rw [← this]; exact getD_mem hi
        have p := List.count_pos_iff.2 hin
        have h' : l.count y = 1 := by split at h <;> omega
        rw [ih h' hi hj (by simpa using ei) (by simpa using ej)]
/-- Push: a link of its own, but for the last. -/
theorem GI.push_store (g : GI n hd lk t S m has) {w : Nat} (hw : w < 4) {l : List Nat} {i : Nat} {old : Int} (e : m w = .push l i old) (hi : i + 1 < l.length) :
    GI n hd (upd lk (l.getD i 0) (l.getD (i + 1) 0 + 1)) t S (upd m w (.push l (i + 1) old)) has := by
  have k := g.ok w hw
  rw [e] at k
  obtain ⟨h1, h2, h3, h4, h5⟩ := k
  have hp : puts (m w) = l := by rw [e]; rfl
  have hy : l.getD i 0 ∈ puts (m w) := by rw [hp]; exact getD_mem (by omega)
  obtain ⟨_, _, _, c1⟩ := g.mine hw hy
  rw [hp] at c1
  have hz := (g.mine hw (show l.getD (i + 1) 0 ∈ puts (m w) by rw [hp]; exact getD_mem hi)).1
  refine g.link hw hy (by omega) (by omega) (by rw [hp]; rfl) ⟨h1, by omega, fun j hj hl => ?_, fun h => absurd h (by omega), fun _ h => absurd h (by omega)⟩
  by_cases ej : j = i
  · subst ej; rw [upd_same]
  · rw [upd_ne _ _ (fun e2 => ej (nodup_getD c1 (by omega) (by omega) e2 rfl))]
    exact h3 j (by omega) hl
/-- Push: the Load of the head. -/
theorem GI.push_load (g : GI n hd lk t S m has) {w : Nat} (hw : w < 4) {l : List Nat} {i : Nat} {old : Int} (e : m w = .push l i old) (hi : i + 1 = l.length) :
    GI n hd lk t S (upd m w (.push l (i + 1) hd)) has := by
  have k := g.ok w hw
  rw [e] at k
  obtain ⟨h1, h2, h3, h4, h5⟩ := k
  have q := g.mod
  have r := g.link_le
  refine g.own hw (by rw [e]; rfl) ⟨h1, by omega, fun j hj hl => h3 j (by omega) hl, fun _ => ⟨.inr rfl, by omega, by omega⟩, fun _ h => absurd h (by omega)⟩
/-- Push: the last one's link. -/
theorem GI.push_link (g : GI n hd lk t S m has) {w : Nat} (hw : w < 4) {l : List Nat} {i : Nat} {old : Int} (e : m w = .push l i old) (hi : i = l.length) :
    GI n hd (upd lk (l.getD (i - 1) 0) (old % 4294967296)) t S (upd m w (.push l (i + 1) old)) has := by
  have k := g.ok w hw
  rw [e] at k
  obtain ⟨h1, h2, h3, h4, h5⟩ := k
  have hp : puts (m w) = l := by rw [e]; rfl
  have l0 := List.length_pos_iff.2 h1
  have hy : l.getD (i - 1) 0 ∈ puts (m w) := by rw [hp]; exact getD_mem (by omega)
  obtain ⟨_, _, _, c1⟩ := g.mine hw hy
  rw [hp] at c1
  obtain ⟨s1, s2, s3⟩ := h4 (by omega)
  refine g.link hw hy s2 s3 (by rw [hp]; rfl) ⟨h1, by omega, fun j hj hl => ?_, fun _ => ⟨s1, s2, s3⟩, fun hne _ => ?_⟩
  · rw [upd_ne _ _ (fun e2 => by have := nodup_getD c1 (by omega) (by omega) e2 rfl; omega)]
    exact h3 j (by omega) hl
  · rw [getLast_getD, ← hi, upd_same]
/-- Push: the exchange, done. -/
theorem GI.push_yes (g : GI n hd lk t S m has) {w : Nat} (hw : w < 4) {l : List Nat} {i : Nat} (e : m w = .push l i hd) (hi : i = l.length + 1) :
    GI n (l.getD 0 0 + 1 + ((t + 1 : Nat) : Int) * 4294967296) lk (t + 1) (l ++ S) (upd m w .idle) has := by
  have k := g.ok w hw
  rw [e] at k
  obtain ⟨h1, h2, h3, h4, h5⟩ := k
  have hl : (l.getD 0 0 : Int) + 1 = linkOf (l ++ S) := by
    cases l with
    | nil => exact absurd rfl h1
    | cons x r => rfl
  have := g.swap hw (S' := l ++ S) (h := has w) (g.chain.above h1 (fun j hj => h3 j (by omega) hj) (by rw [h5 h1 hi]; exact g.mod)) (fun x => by rw [e]; simp only [puts_push, List.count_append]; omega)
  rw [upd_id] at this
  rw [hl]; exact this
/-- Push: the exchange failed: again from the Load of the head. -/
theorem GI.push_no (g : GI n hd lk t S m has) {w : Nat} (hw : w < 4) {l : List Nat} {i : Nat} {old : Int} (e : m w = .push l i old) (hi : i = l.length + 1) :
    GI n hd lk t S (upd m w (.push l (l.length - 1) old)) has := by
  have k := g.ok w hw
  rw [e] at k
  obtain ⟨h1, h2, h3, h4, h5⟩ := k
  have l0 := List.length_pos_iff.2 h1
  exact g.own hw (by rw [e]; rfl) ⟨h1, by omega, fun j hj hl => h3 j (by omega) hl, fun h => absurd h (by omega), fun _ h => absurd h (by omega)⟩
/-- Push: it begins. -/
theorem GI.push_new (g : GI n hd lk t S m has) {w : Nat} (hw : w < 4) (e : puts (m w) = []) {l r : List Nat} (hl : has w = l ++ r) (h0 : l ≠ []) (old : Int) :
    GI n hd lk t S (upd m w (.push l 0 old)) (upd has w r) := by
  refine ⟨g.head, g.chain, g.small, g.links, fun x => ?_, fun v hv => ?_⟩
  · have c := g.cnt x
    have u := cnt_upd m has hw (.push l 0 old) r x
    rw [e, hl, List.count_append] at u
    simp only [puts_push, List.count_nil] at u
    omega
  · by_cases e : v = w
    · subst e; rw [upd_same]
      have l0 := List.length_pos_iff.2 h0
      exact ⟨h0, by omega, fun j hj _ => absurd hj (by omega), fun h => absurd h (by omega), fun _ h => absurd h (by omega)⟩
    · rw [upd_ne _ _ e]; exact g.ok v hv
/-- Pop: it begins, or begins again. -/
theorem GI.pop_new (g : GI n hd lk t S m has) {w : Nat} (hw : w < 4) (e : puts (m w) = []) (most : Nat) (deep old : Int) : GI n hd lk t S (upd m w (.pop most 0 deep old [])) has :=
  g.own hw (by rw [e]; rfl) ⟨by omega, by simp, fun h => absurd h (by omega), fun h => absurd h (by omega)⟩
/-- Pop: it is over. -/
theorem GI.pop_over (g : GI n hd lk t S m has) {w : Nat} (hw : w < 4) (e : puts (m w) = []) : GI n hd lk t S (upd m w .idle) has := g.own hw (by rw [e]; rfl) trivial
/-- Pop: the Load of the head, where there is one. -/
theorem GI.pop_load (g : GI n hd lk t S m has) {w : Nat} (hw : w < 4) (e : puts (m w) = []) {x : Nat} {r : List Nat} (hS : S = x :: r) (most : Nat) (deep : Int) : GI n hd lk t S (upd m w (.pop most 1 deep hd [x])) has := by
  have hx := g.mem_lt (x := x) (by rw [hS]; simp)
  exact g.own hw (by rw [e]; rfl) ⟨by omega, by simpa using hx, fun _ => ⟨by simp, .inr ⟨rfl, r, by rw [hS]; rfl⟩⟩, fun h => absurd h (by omega)⟩
/-- Pop: the Load of a link: one more. -/
theorem GI.pop_more (g : GI n hd lk t S m has) {w : Nat} (hw : w < 4) {most : Nat} {deep old : Int} {l : List Nat} (e : m w = .pop most 1 deep old l) (hne : l ≠ []) {d : Nat} (hd' : lk (l.getLast hne) = d + 1) (deep' : Int) :
    GI n hd lk t S (upd m w (.pop most 1 deep' old (l ++ [d]))) has := by
  have k := g.ok w hw
  rw [e] at k
  obtain ⟨h1, h2, h3, h4⟩ := k
  have hin := h2 _ (List.getLast_mem hne)
  have hl := g.links _ hin
  refine g.own hw (by rw [e]; rfl) ⟨by omega, ?_, fun _ => ⟨by simp, ?_⟩, fun h => absurd h (by omega)⟩
  · intro x hx
    rcases List.mem_append.1 hx with h | h
    · exact h2 x h
    · simp at h; omega
  · rcases (h3 rfl).2 with h | ⟨h, r, hr⟩
    · exact .inl h
    · refine .inr ⟨h, ?_⟩
      have c := g.chain
      rw [hr] at c
      have q := c.last hne
      cases r with
      | nil => simp [linkOf] at q; omega
      | cons y r =>
        simp only [linkOf] at q
        have : y = d := by omega
        exact ⟨r, by rw [hr, this]; simp⟩
/-- Pop: the Load of a link: that was the last. -/
theorem GI.pop_last (g : GI n hd lk t S m has) {w : Nat} (hw : w < 4) {most : Nat} {deep old : Int} {l : List Nat} (e : m w = .pop most 1 deep old l) (hne : l ≠ []) :
    GI n hd lk t S (upd m w (.pop most 2 (lk (l.getLast hne) - 1) old l)) has := by
  have k := g.ok w hw
  rw [e] at k
  obtain ⟨h1, h2, h3, h4⟩ := k
  have hl := g.links _ (h2 _ (List.getLast_mem hne))
  refine g.own hw (by rw [e]; rfl) ⟨by omega, h2, fun h => absurd h (by omega), fun _ => ⟨by omega, by omega, hne, ?_⟩⟩
  rcases (h3 rfl).2 with h | ⟨h, r, hr⟩
  · exact .inl h
  · have c := g.chain
    rw [hr] at c
    exact .inr ⟨h, r, hr, by rw [c.last hne]; omega⟩
/-- Pop: the exchange, done. -/
theorem GI.pop_yes (g : GI n hd lk t S m has) {w : Nat} (hw : w < 4) {most : Nat} {deep : Int} {l : List Nat} (e : m w = .pop most 2 deep hd l) :
    ∃ r, S = l ++ r ∧ GI n (deep + 1 + ((t + 1 : Nat) : Int) * 4294967296) lk (t + 1) r (upd m w .idle) (upd has w (has w ++ l)) := by
  have k := g.ok w hw
  rw [e] at k
  obtain ⟨h1, h2, h3, h4⟩ := k
  obtain ⟨_, _, _, h⟩ := h4 rfl
  rcases h with h | ⟨_, r, hr, hdp⟩
  · have := g.tag; omega
  · refine ⟨r, hr, ?_⟩
    have c := g.chain
    rw [hr] at c
    have := g.swap hw (S' := r) (h := has w ++ l) c.right (fun x => by rw [e, hr]; simp only [puts_pop, List.count_append, List.count_nil]; omega)
    rw [hdp]; exact this
end
/-- Each item just once: what the count says of the whole list. -/
theorem all_once {n : Nat} {l : List Nat} (h : ∀ x, l.count x = if x < n then 1 else 0) : l.length = n ∧ (∀ x ∈ l, x < n) ∧ l.Nodup := by
  have p : l.Perm (List.range n) := by
    rw [List.perm_iff_count]
    intro x
    rw [h x, List.count_range]
  exact ⟨by simpa using p.length_eq, fun x hx => List.mem_range.1 (p.mem_iff.1 hx), p.nodup_iff.2 List.nodup_range⟩
end Go.Proofs.YtkopplnjomkleaaGreat.Stk

/-
  A stack's cells as a list of words (the head at 0, the links from 2 on): how a store turns them; the list from the top; the filled stack; each item once. Plain facts: no program is named here.
-/
namespace Go.Proofs.YtkopplnjomkleaaGreat.Stk

def hdOf (xs : List Int) : Int := xs.getD 0 0
def lkOf (xs : List Int) (i : Nat) : Int := xs.getD (2 + i) 0
theorem hdOf_set_head {xs : List Int} {v : Int} (h : 0 < xs.length) : hdOf (xs.set 0 v) = v := by simp [hdOf, List.getD, h]
theorem lkOf_set_head (xs : List Int) (v : Int) : lkOf (xs.set 0 v) = lkOf xs := by
  funext i
  unfold lkOf List.getD
  rw [List.getElem?_set_ne (by omega)]
theorem hdOf_set_link (xs : List Int) (y : Nat) (v : Int) : hdOf (xs.set (2 + y) v) = hdOf xs := by simp [hdOf, List.getD]
theorem lkOf_set_link {xs : List Int} {y : Nat} {v : Int} (h : 2 + y < xs.length) : lkOf (xs.set (2 + y) v) = upd (lkOf xs) y v := by
  funext i
  unfold lkOf upd
  by_cases e : i = y
  · subst e; simp [List.getD, h]
  · have : 2 + y ≠ 2 + i := by omega
    unfold List.getD
    rw [List.getElem?_set_ne this, if_neg e]

section
variable {n : Nat} {hd : Int} {lk : Nat → Int} {t : Nat} {S : List Nat} {m : Nat → Mach} {has : Nat → List Nat}
/-- The link of the one at place j leads to what stands below. -/
theorem Chain.get : ∀ {S : List Nat} {j : Nat}, Chain lk S → j < S.length → lk (S.getD j 0) = linkOf (S.drop (j + 1))
  | x :: r, 0, h, _ => by simpa using h.1
  | x :: r, j + 1, h, hj => by
    have := Chain.get (S := r) (j := j) h.2 (by simpa using hj)
    simpa using this
theorem linkOf_drop {S : List Nat} {j : Nat} (h : j < S.length) : linkOf (S.drop j) = S.getD j 0 + 1 := by
  rw [List.drop_eq_getElem_cons h]; simp [linkOf, List.getD, h]
theorem linkOf_end {S : List Nat} {j : Nat} (h : S.length ≤ j) : linkOf (S.drop j) = 0 := by rw [List.drop_eq_nil_of_le h]; rfl
theorem linkOf_zero {S : List Nat} (h : linkOf S = 0) : S = [] := by
  cases S with
  | nil => rfl
  | cons x r => simp [linkOf] at h; omega
theorem linkOf_pos {S : List Nat} {x : Nat} (h : linkOf S = x + 1) : ∃ r, S = x :: r := by
  cases S with
  | nil => simp [linkOf] at h; omega
  | cons y r => simp only [linkOf] at h; exact ⟨r, by rw [show y = x by omega]⟩
theorem take_more {S : List Nat} {j : Nat} (h : j < S.length) : S.take j ++ [S.getD j 0] = S.take (j + 1) := by
  rw [List.take_add_one]; simp [List.getD, h]
/-- The items, all of them: each is there just once. -/
theorem GI.once (g : GI n hd lk t S m has) {L : List Nat} (hL : L = S ++ (has 0 ++ puts (m 0)) ++ (has 1 ++ puts (m 1)) ++ (has 2 ++ puts (m 2)) ++ (has 3 ++ puts (m 3))) : L.length = n ∧ (∀ x ∈ L, x < n) ∧ L.Nodup := by
  refine all_once (fun x => ?_)
  have c := g.cnt x
  unfold sum4 at c
  dsimp only at c
  rw [hL]
  simp only [List.count_append]
  omega
theorem GI.len (g : GI n hd lk t S m has) : S.length ≤ n := by
  have h := (g.once rfl).1
  simp only [List.length_append] at h
  omega
theorem GI.nodup (g : GI n hd lk t S m has) : S.Nodup := by
  rw [List.nodup_iff_count]
  intro x
  have c := g.cnt x
  split at c <;> omega
/-- The filled stack. -/
theorem chain_range {lk : Nat → Int} {n : Nat} (h : ∀ i, i < n → lk i = if i + 1 < n then (i : Int) + 2 else 0) : ∀ k a, a + k = n → Chain lk (List.range' a k)
  | 0, _, _ => trivial
  | k + 1, a, e => by
    rw [List.range'_succ]
    refine ⟨?_, chain_range h k (a + 1) (by omega)⟩
    rw [h a (by omega)]
    cases k with
    | zero => rw [if_neg (by omega)]; rfl
    | succ k => rw [if_pos (by omega), List.range'_succ]; simp [linkOf]; omega
theorem GI.fill {n : Nat} {hd : Int} {lk : Nat → Int} (h0 : 0 < n) (h1 : n < 4294967295) (hh : hd = 1) (hl : ∀ i, i < n → lk i = if i + 1 < n then (i : Int) + 2 else 0) :
    GI n hd lk 0 (List.range n) (fun _ => .idle) (fun _ => []) := by
  refine ⟨?_, ?_, h1, fun x hx => ?_, fun x => ?_, fun _ _ => trivial⟩
  · cases n with
    | zero => omega
    | succ n => rw [List.range_eq_range', List.range'_succ]; simp [linkOf, hh]
  · rw [List.range_eq_range']; exact chain_range hl n 0 (by omega)
  · rw [hl x hx]; split <;> omega
  · rw [List.count_range]; simp [sum4, puts_idle]
end
end Go.Proofs.YtkopplnjomkleaaGreat.Stk

/-
  Package stack: the machine Push.
-/
namespace Go.Proofs.YtkopplnjomkleaaGreat
open Go.RowKit
open W64
set_option maxRecDepth 100000

/-- A Push lies at b, over the stack at q: its items l lie at v; how many have their link; the head that it loaded; the next access. -/
structure PushAt (w : World) (b q : Nat) (v : Value) (l : List Nat) (i : Nat) (old : Int) (nx : Value) : Prop where
  top : Whole w b 194 #[.pointer (some ⟨q, 0, none⟩), v, .int .i64 i, .int .u64 old, nx]
  row : Ints w v (I l)
  away : v.ownBlock ≠ some b
section
variable {w w' : World} {p g q hd ln n b : Nat} {s : St} {v : Value} {l : List Nat} {i : Nat} {old : Int} {nx : Value}
theorem PushAt.up (P : PushAt w b q v l i old nx) (u : Up w w') : PushAt w' b q v l i old nx := ⟨P.top.up u, P.row.up u, P.away⟩
theorem PushAt.else (P : PushAt w b q v l i old nx) {t : List Nat} (u : Else t w w') (h1 : b ∉ t) (h2 : Away v t) : PushAt w' b q v l i old nx := ⟨u.whole P.top h1, P.row.else u h2, P.away⟩
theorem PushAt.cells (P : PushAt w b q v l i old nx) : w.cell? ⟨b, 0, none⟩ = some (.pointer (some ⟨q, 0, none⟩)) ∧ w.cell? ⟨b, 1, none⟩ = some v ∧ w.cell? ⟨b, 2, none⟩ = some (.int .i64 i) ∧ w.cell? ⟨b, 3, none⟩ = some (.int .u64 old) ∧ w.cell? ⟨b, 4, none⟩ = some nx :=
  ⟨P.top.cell rfl, P.top.cell rfl, P.top.cell rfl, P.top.cell rfl, P.top.cell rfl⟩
theorem PushAt.next (P : PushAt w b q v l i old nx) (nx' : Value) : PushAt (w.setCell ⟨b, 4, none⟩ nx') b q v l i old nx' :=
  ⟨P.top.set 4 nx', P.row.else (Else.set (s := [b]) (Else.refl [b] w) (p := ⟨b, 4, none⟩) (.inl (by simp)) nx') (by intro k hk; simp at hk; subst hk; exact P.away), P.away⟩
theorem PushAt.count (P : PushAt w b q v l i old nx) (i' : Nat) : PushAt (w.setCell ⟨b, 2, none⟩ (.int .i64 i')) b q v l i' old nx :=
  ⟨P.top.set 2 _, P.row.else (Else.set (s := [b]) (Else.refl [b] w) (p := ⟨b, 2, none⟩) (.inl (by simp)) _) (by intro k hk; simp at hk; subst hk; exact P.away), P.away⟩
theorem PushAt.seen (P : PushAt w b q v l i old nx) (old' : Int) : PushAt (w.setCell ⟨b, 3, none⟩ (.int .u64 old')) b q v l i old' nx :=
  ⟨P.top.set 3 _, P.row.else (Else.set (s := [b]) (Else.refl [b] w) (p := ⟨b, 3, none⟩) (.inl (by simp)) _) (by intro k hk; simp at hk; subst hk; exact P.away), P.away⟩
theorem Ints.get {l : List Nat} (h : Ints w v (I l)) (hl : l ≠ []) : ∃ r cap, v = .slice (some ⟨r, 0, none⟩) l.length cap ∧ ∀ j, j < l.length → w.cell? ⟨r, j, none⟩ = some (.int .i64 ((l.getD j 0 : Nat) : Int)) := by
  obtain ⟨A, cap, e⟩ := h.slice
  rw [I_len] at e
  rw [e] at h
  unfold Ints at h
  rw [I_len] at h
  obtain ⟨r, hr, _⟩ := own_cell h (List.length_pos_iff.2 hl)
  refine ⟨r, cap, by rw [e, hr], fun j hj => ?_⟩
  obtain ⟨r', hr', hc⟩ := own_cell h hj
  rw [hr] at hr'; injection hr' with e2; injection e2 with e2; subst e2
  rw [hc]; simp [I, List.getD, hj]
/-- linkOrLoad. -/
def nxL (b len i : Nat) : Value := if i + 1 < len then meth 148 b else meth 149 b
set_option maxHeartbeats 1000000 in
theorem linkOrLoad_in (P : PushAt w b q v l i old nx) (hl : l.length ≤ 8192) (hl0 : 1 ≤ l.length) :
    Calls Tryz.prog 135 #[.pointer (some ⟨b, 0, none⟩)] w fun e w' => e = .returned (.tuple #[]) ∧ PushAt w' b q v l i old (nxL b l.length i) ∧ Else [b] w w' := by
  obtain ⟨A, cap, rfl⟩ := P.row.slice
  rw [I_len] at *
  obtain ⟨_, c1, c2, _, c4⟩ := P.cells
  have f4 := P.top.frozen 4
  have hf := run_func
  have HP := Lib.hid P
  clear P
  have s1 : wrap64 ((l.length : Int) - 1) = l.length - 1 := wrap64_in (by omega) (by omega)
  have s2 : IntKind.i64.wrap ((l.length : Int) - 1) = l.length - 1 := IntWalk.i64_in _ (by omega)
  by_cases h : i + 1 < l.length
  · have e : nxL b l.length i = meth 148 b := by unfold nxL; rw [if_pos h]
    rw [e]
    have h1 : (i : Int) < (l.length : Int) - 1 := by omega
    go_enter Tryz.func135, Tryz.ntmps135
    go_upto_region 0 with fail
    go_quiet (fail)
    go_wp2_with fail
    go_end0
    exact ⟨rfl, (HP.out.up (Up.drewN w _)).next _, (Else.of_up (Up.drewN w _)).set (.inl (by simp)) _⟩
  · have e : nxL b l.length i = meth 149 b := by unfold nxL; rw [if_neg h]
    rw [e]
    have h1 : ¬ (i : Int) < (l.length : Int) - 1 := by omega
    go_enter Tryz.func135, Tryz.ntmps135
    go_upto_region 0 with fail
    go_quiet (fail)
    go_wp2_with fail
    go_end0
    exact ⟨rfl, (HP.out.up (Up.drewN w _)).next _, (Else.of_up (Up.drewN w _)).set (.inl (by simp)) _⟩

set_option maxHeartbeats 2000000 in
theorem sstoreLink_in (E : Env w p g q hd ln n s) {x y : Int} (x0 : 0 ≤ x) (x1 : x < n) (y0 : -1 ≤ y) (y1 : y < n) :
    Calls Tryz.prog 155 #[.pointer (some ⟨q, 0, none⟩), .int .i64 x, .int .i64 y] w fun e w' => e = .returned (.tuple #[]) ∧ Mem w' p g (s.hit 2 (ln + x) (y + 1) true) ∧ Else [p, g] w w' := by
  obtain ⟨c0, _, c2, _⟩ := E.cells
  have hq : q ∉ [p, g] := by simp [E.np, E.ng]
  have n1 := E.n1
  have hl := E.hl
  have ht := E.top
  have s1 : wrap64 ((ln : Int) + x) = ln + x := wrap64_in (by omega) (by omega)
  have s2 : IntKind.i64.wrap ((ln : Int) + x) = ln + x := IntWalk.i64_in _ (by omega)
  have hh := Lib.hid (E.hasL x0 x1)
  have HM := Lib.hid E.mem
  clear E
  go_enter Tryz.func155, Tryz.ntmps155
  go_upto_region 0 with fail
  go_region_held3 (fun w' => w'.cell? ⟨q, 0, none⟩ = some (.pointer (some ⟨p, 0, none⟩)) ∧ w'.cell? ⟨q, 2, none⟩ = some (.int .i64 ln)) ((first | exact ⟨c0, c2⟩ | exact ⟨E1.kept c0 hq, E1.kept c2 hq⟩))
    (first
      | (go_at_call 118; refine (asLink_any y y0 (by omega) _).mono ?_; rintro e w5 ⟨rfl, rfl⟩)
      | (go_at_call 159; refine (store_in _ (HM.out.up (up_drew w)) hh.out).mono ?_; rintro e w1 ⟨rfl, M1, E1⟩))
  go_wp2_with fail
  go_end0
  exact ⟨rfl, M1, (Else.of_up (up_drew w)).trans E1⟩
theorem nextW_is {x i : Int} (i0 : -1 ≤ i) (i1 : i ≤ 4096) : headB i (nextT (x / 4294967296)) = true ∧ headN i (nextT (x / 4294967296)) = nextW x i := by
  have h : headB i (nextT (x / 4294967296)) = true := by
    rw [headB_iff]
    unfold nextT inB
    refine ⟨⟨i0, by omega⟩, ?_⟩
    split
    · rename_i h; simp at h; omega
    · omega
  exact ⟨h, by unfold nextW headV; rw [if_pos h]⟩
set_option maxHeartbeats 2000000 in
theorem sturn_any (E : Env w p g q hd ln n s) {x i : Int} (h0 : 0 ≤ x) (h1 : x < 18446744073709551616) (i0 : -1 ≤ i) (i1 : i < n) {c : Bool} {s' : St}
    (hc : ∀ {w1 : World}, Mem w1 p g s → Calls Tryz.prog 163 #[.pointer (some ⟨p, 0, none⟩), .int .i64 hd, .int .u64 x, .int .u64 (nextW x i)] w1 fun e w' => e = .returned (.tuple #[.bool c, .int .i64 0]) ∧ Mem w' p g s' ∧ Else [p, g] w1 w') :
    Calls Tryz.prog 161 #[.pointer (some ⟨q, 0, none⟩), .int .u64 x, .int .i64 i] w fun e w' => e = .returned (.bool c) ∧ Mem w' p g s' ∧ Else [p, g] w w' := by
  obtain ⟨c0, c1, _, _⟩ := E.cells
  have hq : q ∉ [p, g] := by simp [E.np, E.ng]
  have n1 := E.n1
  obtain ⟨b1, b2⟩ := nextW_is (x := x) i0 (by omega)
  have HB := Lib.hid b1
  have HM := Lib.hid E.mem
  have HC := Lib.hid (fun w1 => @hc w1)
  rw [← b2] at HC
  clear E b1 b2 hc
  go_enter Tryz.func161, Tryz.ntmps161
  go_upto_region 2 with (first
    | (go_at_call 104; refine (getHead_any x _ h0 h1).mono ?_; rintro e w1 ⟨rfl, U1⟩)
    | (go_at_call 162; refine (next_any _ _ _ _).mono ?_; rintro e w2 ⟨rfl, U2⟩)
    | (go_at_call 119; refine (putHead_yes _ _ _ HB.out).mono ?_; rintro e w3 ⟨rfl, U3⟩))
  have U := (U1.trans U2).trans U3
  have HU := Lib.hid (U.trans (up_drew w3))
  replace c0 := U.kept c0
  replace c1 := U.kept c1
  clear U1 U2 U3 U
  go_region_held3 (fun w' => w'.cell? ⟨q, 0, none⟩ = some (.pointer (some ⟨p, 0, none⟩)) ∧ w'.cell? ⟨q, 1, none⟩ = some (.int .i64 hd)) ((first | exact ⟨c0, c1⟩ | exact ⟨E4.kept c0 hq, E4.kept c1 hq⟩))
    (first
      | (go_at_call 163; refine (HC.out _ (HM.out.up HU.out)).mono ?_; rintro e w4 ⟨rfl, M4, E4⟩))
  go_wp2_with fail
  go_ret
  exact ⟨rfl, M4, (Else.of_up HU.out).trans E4⟩
theorem sturn_yes (E : Env w p g q hd ln n s) {x i : Int} (i0 : -1 ≤ i) (i1 : i < n) (hx : s.get hd = x) :
    Calls Tryz.prog 161 #[.pointer (some ⟨q, 0, none⟩), .int .u64 x, .int .i64 i] w fun e w' => e = .returned (.bool true) ∧ Mem w' p g (s.hit 3 hd (nextW x i) true) ∧ Else [p, g] w w' := by
  have hk := E.ok hd
  rw [hx] at hk
  exact sturn_any E hk.1 hk.2 i0 i1 (fun m => cas_yes _ m E.hasH hx)
theorem sturn_no (E : Env w p g q hd ln n s) {x i : Int} (h0 : 0 ≤ x) (h1 : x < 18446744073709551616) (i0 : -1 ≤ i) (i1 : i < n) (hx : s.get hd ≠ x) :
    Calls Tryz.prog 161 #[.pointer (some ⟨q, 0, none⟩), .int .u64 x, .int .i64 i] w fun e w' => e = .returned (.bool false) ∧ Mem w' p g (s.hit 3 hd (s.get hd) false) ∧ Else [p, g] w w' :=
  sturn_any E h0 h1 i0 i1 (fun m => cas_no _ m E.hasH hx)
end
end Go.Proofs.YtkopplnjomkleaaGreat
