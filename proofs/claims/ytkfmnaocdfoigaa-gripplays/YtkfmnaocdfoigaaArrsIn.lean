/-
  A slice of arrays of numbers that came in, opened (as IsRows of RowsIn). No program is named here.
-/
import Derived.Test.YtkfmnaocdfoigaaRowsIn
import Derived.OpenShut
namespace Go.Proofs.Ytkfmnaocdfoigaa
open Go.ChangeShapes Go.WideShapes Go.RowKit Go.Deep Go.Joins
theorem IsRows.three {k0 k1 k2 : IntKind} {w : World} {a : Option Addr} {len cap : Nat} {z : Nat → Nat → Int} (h : IsRows [k0, k1, k2] w a len cap z) {i : Nat} (hi : i < len) :
    ∃ b off, a = some ⟨b, off, none⟩ ∧ b < w.heap.size ∧ w.cell? ⟨b, off + i * 3, none⟩ = some (.int k0 (z i 0)) ∧ w.cell? ⟨b, off + i * 3 + 1, none⟩ = some (.int k1 (z i 1)) ∧
      w.cell? ⟨b, off + i * 3 + 2, none⟩ = some (.int k2 (z i 2)) := by
  obtain ⟨b, off, ha, hb, hc⟩ := h.at (by simp) (by omega)
  exact ⟨b, off, ha, hb, (hc i hi 0 k0 rfl).1, (hc i hi 1 k1 rfl).1, (hc i hi 2 k2 rfl).1⟩
section
variable {H : Type} {enc : TypeId × Value → H} {P : Program} {w : World} {base : Nat} {spare : Nat → Bool} {held : Bool}
theorem open_arrs {r : Reach} {b0 : Nat} {t e ee : TypeId} {n : Nat} {k : IntKind} {ks : List IntKind} {v : Value} {d : DataW H} {p : List MemPlace} (ht : P.underlying t = some (.slice e)) (he : P.underlying e = some (.array n ee))
    (c1 : P.cellsOf ee = 1) (ce : P.cellsOf e = n) (hn : ks = List.replicate n k) (hk : P.underlying ee = some (.int k))
    (hv : Value.okWide P w r b0 t v) (h : DataW.Trod enc P w base spare held t v d p) :
    ∃ a len cap z, v = .slice a len cap ∧ IsRows ks w a len cap z := by
  obtain ⟨a, len, cap, rfl⟩ := okWide_slice ht hv
  refine ⟨a, len, cap, ?_⟩
  obtain ⟨fuel, hf⟩ := h
  have hkl : ks.length = n := by rw [hn]; simp
  rcases open_slice ht hf with ⟨hcs, _⟩ | ⟨x, l, c, m, n', D, Pl, hcs, _, hl, hm, hmm, _, hx⟩
  · simp [Value.cells] at hcs
    obtain ⟨rfl, rfl, rfl⟩ := hcs
    exact ⟨fun _ _ => 0, rfl, Nat.zero_le _, .inl ⟨rfl, rfl, rfl⟩⟩
  · simp [Value.cells] at hcs
    obtain ⟨rfl, rfl, rfl⟩ := hcs
    have hlm : len ≤ m := by rw [hmm]; split <;> omega
    obtain ⟨z, hz⟩ := choose_rows (len := len) (R := fun i z => ∀ j k, ks[j]? = some k → w.cell? (x.add (i * ks.length + j)) = some (.int k (z j)) ∧ (Lit.int k (z j)).wf = true) (fun i hi => by
      refine choose_nums (R := fun j k z => w.cell? (x.add (i * ks.length + j)) = some (.int k z) ∧ (Lit.int k z).wf = true) (fun j k' hjk => ?_)
      obtain ⟨cs', h1, h2⟩ := hx i (by omega)
      rw [ce] at h1
      obtain ⟨_, hlen, hcell⟩ := World.cells?_some h1
      obtain ⟨xs, q, _, _, _, hxl, hg⟩ := DataW.trod_array he h2
      have hj : j < n := by rw [← hkl]; exact (List.getElem?_eq_some_iff.1 hjk).1
      obtain rfl : k' = k := by
        rw [hn, List.getElem?_replicate, if_pos hj] at hjk
        exact (Option.some.inj hjk).symm
      have g := hg j hj
      rw [c1, Nat.mul_one] at g
      have ej := hcell j hj
      rw [add_add] at ej
      have hjc : j < cs'.length := by omega
      have ed : (cs'.drop j).take 1 = [cs'[j]] := by
        rw [List.drop_eq_getElem_cons hjc]; rfl
      rw [ed, List.getElem?_eq_getElem (by omega)] at g
      obtain ⟨u, e1, _, hw⟩ := DataW.trod_int hk g
      rw [List.getElem?_eq_getElem hjc] at ej
      simp at e1
      exact ⟨u, by rw [hkl, ej, e1], hw⟩)
    exact ⟨z, rfl, by omega, .inr ⟨x, rfl, hl, hm, hz⟩⟩
end
end Go.Proofs.Ytkfmnaocdfoigaa
