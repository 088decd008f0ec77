/-
  A slice of slices of ints that came in, opened. No function of the program is named here.
-/
import Derived.Test.YthmaibbminnplaaRecsIn
namespace Go.Proofs.Ythmaibbminnplaa
open Go.ChangeShapes Go.WideShapes Go.RowKit Go.Deep Go.Joins

/-- 'len' elements, number i of which is the slice z i. -/
def IsLots (w : World) (a : Option Addr) (len cap : Nat) (z : Nat → Value) : Prop :=
  len ≤ maxLen ∧ ((a = none ∧ len = 0 ∧ cap = 0) ∨
  ∃ x, a = some x ∧ len ≤ cap ∧ cap ≤ maxLen ∧ ∀ i, i < len → w.cell? (x.add i) = some (z i) ∧ ∃ xs, Rd w (z i) xs)
theorem IsLots.len_le {w : World} {a : Option Addr} {len cap : Nat} {z : Nat → Value} (h : IsLots w a len cap z) : len ≤ maxLen := h.1
theorem IsLots.at {w : World} {a : Option Addr} {len cap : Nat} {z : Nat → Value} (h : IsLots w a len cap z) {i : Nat} (hi : i < len) :
    ∃ b off xs, a = some ⟨b, off, none⟩ ∧ b < w.heap.size ∧ w.cell? ⟨b, off + i, none⟩ = some (z i) ∧ Rd w (z i) xs := by
  rcases h.2 with ⟨_, rfl, _⟩ | ⟨x, rfl, hlc, hm, hc⟩
  · omega
  · obtain ⟨b, off, spot⟩ := x
    obtain ⟨hc0, xs, hx⟩ := hc i hi
    have hc1 := (hc 0 (by omega)).1
    have hs : spot = none := by simpa [Addr.add] using World.cell?_spot hc1
    subst hs
    have e : ∀ n, (⟨b, off, none⟩ : Addr).add n = ⟨b, off + n, none⟩ := fun n => by
      unfold Addr.add; split
      · subst_vars; rfl
      · rfl
    rw [e] at hc0
    exact ⟨b, off, xs, rfl, World.block_lt_of_cell? w _ hc0, hc0, hx⟩
section
variable {H : Type} {enc : TypeId × Value → H} {P : Program} {w : World} {base : Nat} {spare : Nat → Bool} {held : Bool}
theorem open_lots {r : Reach} {b0 : Nat} {t e : TypeId} {v : Value} {d : DataW H} {p : List MemPlace} (ht : P.underlying t = some (.slice e)) (ce : P.cellsOf e = 1) (hk : FK.s.type P e)
    (hv : Value.okWide P w r b0 t v) (h : DataW.Trod enc P w base spare held t v d p) :
    ∃ a len cap z, v = .slice a len cap ∧ IsLots w a len cap z := by
  obtain ⟨a, len, cap, rfl⟩ := okWide_slice ht hv
  refine ⟨a, len, cap, ?_⟩
  obtain ⟨fuel, hf⟩ := h
  rcases open_slice ht hf with ⟨hcs, _⟩ | ⟨x, l, c, m, n, D, Pl, hcs, _, hl, hm, hmm, _, hx⟩
  · simp [Value.cells] at hcs
    obtain ⟨rfl, rfl, rfl⟩ := hcs
    exact ⟨fun _ => undef, rfl, Nat.zero_le _, .inl ⟨rfl, rfl, rfl⟩⟩
  · simp [Value.cells] at hcs
    obtain ⟨rfl, rfl, rfl⟩ := hcs
    have hlm : len ≤ m := by rw [hmm]; split <;> omega
    have h' : ∀ i, ∃ z, i < len → w.cell? (x.add i) = some z ∧ ∃ xs, Rd w z xs := fun i => by
      by_cases hi : i < len
      · obtain ⟨cs', h1, h2⟩ := hx i (by omega)
        rw [ce] at h1
        obtain ⟨_, hlen, hcell⟩ := World.cells?_some h1
        obtain ⟨u, rfl⟩ : ∃ u, cs' = [u] := by
          match cs', hlen with
          | [u], _ => exact ⟨u, rfl⟩
        have ej := hcell 0 (by omega)
        rw [add_add] at ej
        simp only [Nat.mul_one, Nat.add_zero, List.getElem?_cons_zero] at ej
        exact ⟨u, fun _ => ⟨ej, field_ok (k := .s) hk h2⟩⟩
      · exact ⟨undef, fun hi' => absurd hi' hi⟩
    exact ⟨fun i => (h' i).choose, rfl, by omega, .inr ⟨x, rfl, hl, hm, fun i hi => (h' i).choose_spec hi⟩⟩
end
end Go.Proofs.Ythmaibbminnplaa
