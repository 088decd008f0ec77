/-
  A slice of structs of numbers that came in, opened. No program is named here.
-/
import Derived.Test.YtkfmnaocdfoigaaBase
import Derived.Lib.SmallJoins
namespace Go.Proofs.Ytkfmnaocdfoigaa
open Go.ChangeShapes Go.WideShapes Go.RowKit Go.Deep Go.Joins

/-- A slice of structs of numbers (of the kinds ks) that came in: nil; or 'len' elements, number i of which holds z i 0, z i 1, .. -/
def IsRows (ks : List IntKind) (w : World) (a : Option Addr) (len cap : Nat) (z : Nat → Nat → Int) : Prop :=
  len ≤ maxLen ∧ ((a = none ∧ len = 0 ∧ cap = 0) ∨
  ∃ x, a = some x ∧ len ≤ cap ∧ cap ≤ maxLen ∧ ∀ i, i < len → ∀ j k, ks[j]? = some k → w.cell? (x.add (i * ks.length + j)) = some (.int k (z i j)) ∧ (Lit.int k (z i j)).wf = true)
theorem IsRows.len_le {ks : List IntKind} {w : World} {a : Option Addr} {len cap : Nat} {z : Nat → Nat → Int} (h : IsRows ks w a len cap z) : len ≤ maxLen := h.1
theorem IsRows.at {ks : List IntKind} {w : World} {a : Option Addr} {len cap : Nat} {z : Nat → Nat → Int} (h : IsRows ks w a len cap z) (h0 : ks ≠ []) (hl : 0 < len) :
    ∃ b off, a = some ⟨b, off, none⟩ ∧ b < w.heap.size ∧ ∀ i, i < len → ∀ j k, ks[j]? = some k → w.cell? ⟨b, off + (i * ks.length + j), none⟩ = some (.int k (z i j)) ∧ (Lit.int k (z i j)).wf = true := by
  rcases h.2 with ⟨_, rfl, _⟩ | ⟨x, rfl, hlc, hm, hc⟩
  · omega
  · obtain ⟨b, off, spot⟩ := x
    obtain ⟨k, ks', rfl⟩ : ∃ k ks', ks = k :: ks' := by cases ks with | nil => exact absurd rfl h0 | cons k ks' => exact ⟨k, ks', rfl⟩
    have hc0 := (hc 0 hl 0 k rfl).1
    have hs : spot = none := by simpa [Addr.add] using World.cell?_spot hc0
    subst hs
    have e : ∀ n, (⟨b, off, none⟩ : Addr).add n = ⟨b, off + n, none⟩ := fun n => by
      unfold Addr.add; split
      · subst_vars; rfl
      · rfl
    refine ⟨b, off, rfl, ?_, fun i hi j k hk => ?_⟩
    · rw [e] at hc0; exact World.block_lt_of_cell? w _ hc0
    · have := hc i hi j k hk
      rwa [e] at this
theorem IsRows.four {k0 k1 k2 k3 : IntKind} {w : World} {a : Option Addr} {len cap : Nat} {z : Nat → Nat → Int} (h : IsRows [k0, k1, k2, k3] w a len cap z) {i : Nat} (hi : i < len) :
    ∃ b off, a = some ⟨b, off, none⟩ ∧ b < w.heap.size ∧ w.cell? ⟨b, off + i * 4, none⟩ = some (.int k0 (z i 0)) ∧ w.cell? ⟨b, off + i * 4 + 1, none⟩ = some (.int k1 (z i 1)) ∧
      w.cell? ⟨b, off + i * 4 + 2, none⟩ = some (.int k2 (z i 2)) ∧ w.cell? ⟨b, off + i * 4 + 3, none⟩ = some (.int k3 (z i 3)) := by
  obtain ⟨b, off, ha, hb, hc⟩ := h.at (by simp) (by omega)
  exact ⟨b, off, ha, hb, (hc i hi 0 k0 rfl).1, (hc i hi 1 k1 rfl).1, (hc i hi 2 k2 rfl).1, (hc i hi 3 k3 rfl).1⟩

section
variable {H : Type} {enc : TypeId × Value → H} {P : Program} {w : World} {base : Nat} {spare : Nat → Bool} {held : Bool}
theorem choose_rows {len : Nat} {R : Nat → (Nat → Int) → Prop} (h : ∀ i, i < len → ∃ z, R i z) : ∃ z : Nat → Nat → Int, ∀ i, i < len → R i (z i) := by
  have h' : ∀ i, ∃ z, i < len → R i z := fun i => by
    by_cases hi : i < len
    · obtain ⟨z, hz⟩ := h i hi; exact ⟨z, fun _ => hz⟩
    · exact ⟨fun _ => 0, fun hi' => absurd hi' hi⟩
  exact ⟨fun i => (h' i).choose, fun i hi => (h' i).choose_spec hi⟩
theorem choose_nums {ks : List IntKind} {R : Nat → IntKind → Int → Prop} (h : ∀ j k, ks[j]? = some k → ∃ z, R j k z) : ∃ z : Nat → Int, ∀ j k, ks[j]? = some k → R j k (z j) := by
  have h' : ∀ j, ∃ z, ∀ k, ks[j]? = some k → R j k z := fun j => by
    cases hk : ks[j]? with
    | none => exact ⟨0, fun k e => by cases e⟩
    | some k => obtain ⟨z, hz⟩ := h j k hk; exact ⟨z, fun k' e => by cases e; exact hz⟩
  exact ⟨fun j => (h' j).choose, fun j k hk => (h' j).choose_spec k hk⟩

theorem open_rows {r : Reach} {b0 : Nat} {t e : TypeId} {fs : Array Field} {ks : List IntKind} {v : Value} {d : DataW H} {p : List MemPlace} (ht : P.underlying t = some (.slice e)) (he : P.underlying e = some (.struct fs))
    (hone : oneCellFields P fs = true) (ce : P.cellsOf e = ks.length) (hn : fs.size = ks.length) (hk : ∀ (j : Nat) (f : Field) (k : IntKind), fs[j]? = some f → ks[j]? = some k → P.underlying f.type = some (.int k))
    (hv : Value.okWide P w r b0 t v) (h : DataW.Trod enc P w base spare held t v d p) :
    ∃ a len cap z, v = .slice a len cap ∧ IsRows ks w a len cap z := by
  obtain ⟨a, len, cap, rfl⟩ := okWide_slice ht hv
  refine ⟨a, len, cap, ?_⟩
  obtain ⟨fuel, hf⟩ := h
  rcases open_slice ht hf with ⟨hcs, _⟩ | ⟨x, l, c, m, n, D, Pl, hcs, _, hl, hm, hmm, _, hx⟩
  · simp [Value.cells] at hcs
    obtain ⟨rfl, rfl, rfl⟩ := hcs
    exact ⟨fun _ _ => 0, rfl, Nat.zero_le _, .inl ⟨rfl, rfl, rfl⟩⟩
  · simp [Value.cells] at hcs
    obtain ⟨rfl, rfl, rfl⟩ := hcs
    have hlm : len ≤ m := by rw [hmm]; split <;> omega
    obtain ⟨z, hz⟩ := choose_rows (len := len) (R := fun i z => ∀ j k, ks[j]? = some k → w.cell? (x.add (i * ks.length + j)) = some (.int k (z j)) ∧ (Lit.int k (z j)).wf = true) (fun i hi => by
      refine choose_nums (R := fun j k z => w.cell? (x.add (i * ks.length + j)) = some (.int k z) ∧ (Lit.int k z).wf = true) (fun j k hjk => ?_)
      obtain ⟨cs', h1, h2⟩ := hx i (by omega)
      rw [ce] at h1
      obtain ⟨_, hlen, hcell⟩ := World.cells?_some h1
      obtain ⟨xs, q, _, _, _, hxl, hg⟩ := DataW.trod_struct he h2
      have hj : j < ks.length := (List.getElem?_eq_some_iff.1 hjk).1
      obtain ⟨f, hfj⟩ : ∃ f, fs[j]? = some f := ⟨fs[j], Array.getElem?_eq_getElem (by omega)⟩
      obtain ⟨o, c1⟩ := hone_of hone j f hfj
      have g := hg j f hfj
      rw [o, c1] at g
      have ej := hcell j hj
      rw [add_add] at ej
      have hjc : j < cs'.length := by omega
      have ed : (cs'.drop j).take 1 = [cs'[j]] := by
        rw [List.drop_eq_getElem_cons hjc]; rfl
      rw [ed, List.getElem?_eq_getElem (by omega)] at g
      obtain ⟨u, e1, _, hw⟩ := DataW.trod_int (hk j f k hfj hjk) g
      rw [List.getElem?_eq_getElem hjc] at ej
      simp at e1
      exact ⟨u, by rw [ej, e1], hw⟩)
    exact ⟨z, rfl, by omega, .inr ⟨x, rfl, hl, hm, hz⟩⟩
end
end Go.Proofs.Ytkfmnaocdfoigaa
