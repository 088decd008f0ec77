/-
  Slices of ints: one that is read (Rd), one that is the whole of a block of its own (Ints); a set of ints in a map; slices.Clone; areItems.
-/
import Derived.Test.YtalhbebpoohgkaaStack0
import Derived.Maps.OwnSet
namespace Go.Proofs.Ytalhbebpoohgkaa
open Go.RowKit
open Go.Maps
set_option maxRecDepth 100000

/-- The slice v reads as xs. -/
def Rd (w : World) (v : Value) (xs : List Int) : Prop :=
  ∃ A cap, v = .slice A xs.length cap ∧ xs.length ≤ maxLen ∧ ∀ j, j < xs.length → ∃ g off, A = some ⟨g, off, none⟩ ∧ w.cell? ⟨g, off + j, none⟩ = some (.int .i64 (xs.getD j 0))
/-- The slice v is the beginning of a block of its own, or nil, and reads as xs. -/
def Ints (w : World) (v : Value) (xs : List Int) : Prop := w.ownsRow 0 3 1 v xs.length (xs.map (Value.int .i64))
/-- None of the blocks l is the slice's. -/
def Away (v : Value) (l : List Nat) : Prop := ∀ k, k ∈ l → v.ownBlock ≠ some k
def I (l : List Nat) : List Int := l.map (fun x : Nat => (x : Int))
theorem I_len (l : List Nat) : (I l).length = l.length := by simp [I]
theorem I_get {l : List Nat} {j : Nat} (h : j < l.length) : (I l).getD j 0 = (l.getD j 0 : Nat) := by simp [I, List.getD, h]
theorem Rd.else {w w' : World} {v : Value} {xs : List Int} {l : List Nat} (h : Rd w v xs) (u : Else l w w') (a : Away v l) : Rd w' v xs := by
  obtain ⟨A, cap, rfl, hm, hc⟩ := h
  refine ⟨A, cap, rfl, hm, fun j hj => ?_⟩
  obtain ⟨g, off, rfl, h1⟩ := hc j hj
  exact ⟨g, off, rfl, u.kept h1 (fun hk => a _ hk rfl)⟩
theorem Rd.up {w w' : World} {v : Value} {xs : List Int} (h : Rd w v xs) (u : Up w w') : Rd w' v xs := by
  obtain ⟨A, cap, rfl, hm, hc⟩ := h
  refine ⟨A, cap, rfl, hm, fun j hj => ?_⟩
  obtain ⟨g, off, rfl, h1⟩ := hc j hj
  exact ⟨g, off, rfl, u.kept h1⟩
theorem Rd.nil (w : World) : Rd w (.slice none 0 0) [] := ⟨none, 0, rfl, Nat.zero_le _, fun j hj => absurd hj (by simp)⟩
theorem Ints.nil (w : World) : Ints w (.slice none 0 0) [] := ⟨rfl, .inl ⟨rfl, rfl⟩⟩
theorem Ints.up {w w' : World} {v : Value} {xs : List Int} (h : Ints w v xs) (u : Up w w') : Ints w' v xs := own_up h u
theorem Ints.else {w w' : World} {v : Value} {xs : List Int} {l : List Nat} (h : Ints w v xs) (u : Else l w w') (a : Away v l) : Ints w' v xs := by
  refine ⟨h.1, ?_⟩
  rcases h.2 with h | ⟨g, cap, cur, rfl, hb, hh, r⟩
  · exact .inl h
  · exact .inr ⟨g, cap, cur, rfl, hb, u.heap hh (fun hk => a _ hk rfl), r⟩
theorem Ints.grown {w w' : World} {v : Value} {xs : List Int} {row : Option Nat} (h : Ints w v xs) (u : w.grownBy w' row) (a : row ≠ v.ownBlock ∨ v.ownBlock = none) : Ints w' v xs := by
  refine ⟨h.1, ?_⟩
  rcases h.2 with h | ⟨g, cap, cur, rfl, hb, hh, r⟩
  · exact .inl h
  · refine .inr ⟨g, cap, cur, rfl, hb, (u.block g (some_lt hh) ?_).trans hh, r⟩
    rcases a with a | a
    · intro e; exact a (by rw [← e]; rfl)
    · simp [Value.ownBlock] at a
theorem Ints.rd {w : World} {v : Value} {xs : List Int} (h : Ints w v xs) : Rd w v xs := by
  rcases h.2 with ⟨rfl, h0⟩ | ⟨g, cap, cur, rfl, hb, hh, hn, hm, hs, ht⟩
  · have : xs = [] := List.length_eq_zero_iff.1 h0
    subst this; exact Rd.nil w
  · refine ⟨_, _, rfl, Nat.le_trans hn hm, fun j hj => ⟨g, 0, rfl, ?_⟩⟩
    obtain ⟨g', e, hc⟩ := own_cell h hj
    injection e with e; injection e with e; subst e
    rw [Nat.zero_add, hc]
    simp [List.getD, hj]
theorem Ints.lt {w : World} {v : Value} {xs : List Int} (h : Ints w v xs) {k : Nat} (hk : v.ownBlock = some k) : k < w.heap.size := by
  rcases h.2 with ⟨rfl, _⟩ | ⟨g, cap, cur, rfl, _, hh, _⟩
  · simp [Value.ownBlock] at hk
  · simp [Value.ownBlock] at hk; subst hk; exact some_lt hh
theorem Ints.slice {w : World} {v : Value} {xs : List Int} (h : Ints w v xs) : ∃ A cap, v = .slice A xs.length cap := own_slice h
theorem Rd.slice {w : World} {v : Value} {xs : List Int} (h : Rd w v xs) : ∃ A cap, v = .slice A xs.length cap := by
  obtain ⟨A, cap, e, _⟩ := h; exact ⟨A, cap, e⟩
theorem Rd.len {w : World} {v : Value} {xs : List Int} (h : Rd w v xs) : xs.length ≤ maxLen := by
  obtain ⟨A, cap, _, e, _⟩ := h; exact e
theorem Rd.cell {w : World} {A : Option Addr} {cap n : Nat} {xs : List Int} (h : Rd w (.slice A n cap) xs) {j : Nat} (hj : j < xs.length) : ∃ g off, A = some ⟨g, off, none⟩ ∧ w.cell? ⟨g, off + j, none⟩ = some (.int .i64 (xs.getD j 0)) := by
  obtain ⟨A', cap', e, _, hc⟩ := h
  injection e with e1; subst e1; exact hc j hj

/-! ### A set of ints, in a map of the call's own -/
def SetAt (w : World) (b k : Nat) (xs : List Int) : Prop :=
  ∃ D : DataW Unit, w.ownsMap Try.prog 3 (plainElem Try.prog 4) b k D ∧ ∀ i : Int, D.atKey (.int .i64 i) (.lit (.bool false)) = .lit (.bool (decide (i ∈ xs)))
theorem keyLaw : Keyed Try.prog 3 := int_keyed Try.underlying3
theorem zeroB (w : World) : (zeroValue 4).run Try.prog w = .ok (.bool false) w := by kernel_rfl
theorem plain_bool_inv {v : Value} {d : DataW Unit} {ps : List MemPlace} {x : Bool} (h : plainElem Try.prog 4 v = some (d, ps)) (hd : d = .lit (.bool x)) : v = .bool x := by
  unfold plainElem at h
  rw [Try.underlying4] at h
  cases v <;> simp at h
  rw [← h.1] at hd
  simpa using hd
theorem SetAt.made (w : World) : SetAt (w.alloc (.map #[] 0)) w.heap.size 0 [] :=
  ⟨.map [], World.ownsMap_made _ _ _ _, fun i => by simp [DataW.atKey]⟩
theorem SetAt.look {w : World} {b k : Nat} {xs : List Int} (h : SetAt w b k xs) {x : Int} (hw : (Lit.int .i64 x).wf = true) {c : Bool} (hc : decide (x ∈ xs) = c) :
    (Instr.lookup 108 (.map (some b)) (.int .i64 x) false).run Try.prog w = .ok (.bool c) w := by
  obtain ⟨D, ho, ha⟩ := h
  obtain ⟨v, ps, hrun, hv⟩ := ho.lookup keyLaw Try.underlying108 (zeroB w) (plainElem_bool Try.underlying4 false) (keyOf_int_mk Try.underlying3 hw)
  rw [hrun, plain_bool_inv hv (ha x), hc]
theorem SetAt.put {w : World} {b k : Nat} {xs : List Int} (h : SetAt w b k xs) {x : Int} (hw : (Lit.int .i64 x).wf = true) (hk : k < maxLen) :
    ∃ w', (Instr.mapUpdate 108 (.map (some b)) (.int .i64 x) (.bool true)).run Try.prog w = .ok () w' ∧ SetAt w' b (k + 1) (xs ++ [x]) ∧ w.grownBy w' (some b) := by
  obtain ⟨D, ho, ha⟩ := h
  obtain ⟨w', hrun, h1, h2⟩ := ho.store keyLaw Try.underlying108 hk (keyOf_int_mk Try.underlying3 hw) (plainElem_bool Try.underlying4 true)
  refine ⟨w', hrun, ⟨_, h1, fun i => ?_⟩, h2.grown⟩
  by_cases e : i = x
  · subst e; rw [atKey_put_same ho.isMap (by simp [WideAt.IsKeyLit])]; simp
  · rw [atKey_put_other (by simpa using e), ha i]
    simp [e]
theorem SetAt.lt {w : World} {b k : Nat} {xs : List Int} (h : SetAt w b k xs) : b < w.heap.size := by
  obtain ⟨D, ho, _⟩ := h; exact ho.lt
end Go.Proofs.Ytalhbebpoohgkaa
