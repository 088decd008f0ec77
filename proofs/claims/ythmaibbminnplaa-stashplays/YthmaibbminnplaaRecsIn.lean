/-
  A slice of structs that came in, whose fields are numbers and slices of ints, opened. No function of the program is named here.
-/
import Derived.Test.YthmaibbminnplaaIntRow
import Derived.Test.YthmaibbminnplaaRowsIn
namespace Go.Proofs.Ythmaibbminnplaa
open Go.ChangeShapes Go.WideShapes Go.RowKit Go.Deep Go.Joins

/-- A field: a number, or a slice of ints. -/
inductive FK
  | i (k : IntKind)
  | s
def FK.type (P : Program) (t : TypeId) : FK → Prop
  | .i k => P.underlying t = some (.int k)
  | .s => ∃ e, P.underlying t = some (.slice e) ∧ P.underlying e = some (.int .i64) ∧ P.cellsOf e = 1
def FK.ok (w : World) (v : Value) : FK → Prop
  | .i k => ∃ n, v = .int k n ∧ (Lit.int k n).wf = true
  | .s => ∃ xs, Rd w v xs
/-- 'len' elements, number i of which holds z i 0, z i 1, .. -/
def IsRecs (ks : List FK) (w : World) (a : Option Addr) (len cap : Nat) (z : Nat → Nat → Value) : Prop :=
  len ≤ maxLen ∧ ((a = none ∧ len = 0 ∧ cap = 0) ∨
  ∃ x, a = some x ∧ len ≤ cap ∧ cap ≤ maxLen ∧ ∀ i, i < len → ∀ j k, ks[j]? = some k → w.cell? (x.add (i * ks.length + j)) = some (z i j) ∧ k.ok w (z i j))
theorem IsRecs.len_le {ks : List FK} {w : World} {a : Option Addr} {len cap : Nat} {z : Nat → Nat → Value} (h : IsRecs ks w a len cap z) : len ≤ maxLen := h.1
theorem IsRecs.at {ks : List FK} {w : World} {a : Option Addr} {len cap : Nat} {z : Nat → Nat → Value} (h : IsRecs ks w a len cap z) (h0 : ks ≠ []) (hl : 0 < len) :
    ∃ b off, a = some ⟨b, off, none⟩ ∧ b < w.heap.size ∧ ∀ i, i < len → ∀ j k, ks[j]? = some k → w.cell? ⟨b, off + (i * ks.length + j), none⟩ = some (z i j) ∧ k.ok w (z i j) := by
  rcases h.2 with ⟨_, rfl, _⟩ | ⟨x, rfl, hlc, hm, hc⟩
  · omega
  · obtain ⟨b, off, spot⟩ := x
    obtain ⟨k, ks', rfl⟩ : ∃ k ks', ks = k :: ks' := by cases ks with | nil => exact absurd rfl h0 | cons k ks' => exact ⟨k, ks', rfl⟩
    have hc0 := (hc 0 hl 0 k rfl).1
    have hs : spot = none := by simpa [Addr.add] using World.cell?_spot hc0
    subst hs
    have e : ∀ n, (⟨b, off, none⟩ : Addr).add n = ⟨b, off + n, none⟩ := fun n => by
      unfold Addr.add; split
      · subst_vars; rfl
      · rfl
    refine ⟨b, off, rfl, ?_, fun i hi j k hk => ?_⟩
    · rw [e] at hc0; exact World.block_lt_of_cell? w _ hc0
    · have := hc i hi j k hk
      rwa [e] at this
section
variable {H : Type} {enc : TypeId × Value → H} {P : Program} {w : World} {base : Nat} {spare : Nat → Bool} {held : Bool}
theorem choose_recs {len : Nat} {R : Nat → (Nat → Value) → Prop} (h : ∀ i, i < len → ∃ z, R i z) : ∃ z : Nat → Nat → Value, ∀ i, i < len → R i (z i) := by
  have h' : ∀ i, ∃ z, i < len → R i z := fun i => by
    by_cases hi : i < len
    · obtain ⟨z, hz⟩ := h i hi; exact ⟨z, fun _ => hz⟩
    · exact ⟨fun _ => undef, fun hi' => absurd hi' hi⟩
  exact ⟨fun i => (h' i).choose, fun i hi => (h' i).choose_spec hi⟩
theorem choose_vals {ks : List FK} {R : Nat → FK → Value → Prop} (h : ∀ j k, ks[j]? = some k → ∃ z, R j k z) : ∃ z : Nat → Value, ∀ j k, ks[j]? = some k → R j k (z j) := by
  have h' : ∀ j, ∃ z, ∀ k, ks[j]? = some k → R j k z := fun j => by
    cases hk : ks[j]? with
    | none => exact ⟨undef, fun k e => by cases e⟩
    | some k => obtain ⟨z, hz⟩ := h j k hk; exact ⟨z, fun k' e => by cases e; exact hz⟩
  exact ⟨fun j => (h' j).choose, fun j k hk => (h' j).choose_spec k hk⟩
theorem field_ok {k : FK} {t : TypeId} {fuel : Nat} {u : Value} {x : DataW H × List MemPlace} (ht : k.type P t) (g : DataW.trod enc P w base spare held fuel t [u] = some x) : k.ok w u := by
  cases k with
  | i k =>
    obtain ⟨n, e1, _, hw⟩ := DataW.trod_int ht g
    simp at e1; exact ⟨n, e1, hw⟩
  | s =>
    obtain ⟨e, h1, h2, h3⟩ := ht
    rcases open_ints h1 h2 h3 g with ⟨hcs, _⟩ | ⟨y, l, c, zs, hcs, _, hl, hm, hz, _, hcell, _⟩
    · simp at hcs; subst hcs; exact ⟨[], Rd.nil w⟩
    · simp at hcs; subst hcs
      have hlz : l ≤ zs.length := by rw [hz]; split <;> omega
      have hlen : (zs.take l).length = l := by simp; omega
      refine ⟨zs.take l, some y, c, by rw [hlen], by omega, fun j hj => ?_⟩
      rw [hlen] at hj
      obtain ⟨b, off, spot⟩ := y
      have c0 := hcell 0 (by omega)
      have hs : spot = none := by simpa [Addr.add] using World.cell?_spot c0
      subst hs
      have e : ∀ n, (⟨b, off, none⟩ : Addr).add n = ⟨b, off + n, none⟩ := fun n => by
        unfold Addr.add; split
        · subst_vars; rfl
        · rfl
      have cj := hcell j (by omega)
      rw [e] at cj
      refine ⟨b, off, rfl, ?_⟩
      rw [cj]
      simp [List.getD, hj]
theorem open_recs {r : Reach} {b0 : Nat} {t e : TypeId} {fs : Array Field} {ks : List FK} {v : Value} {d : DataW H} {p : List MemPlace} (ht : P.underlying t = some (.slice e)) (he : P.underlying e = some (.struct fs))
    (hone : oneCellFields P fs = true) (ce : P.cellsOf e = ks.length) (hn : fs.size = ks.length) (hk : ∀ (j : Nat) (f : Field) (k : FK), fs[j]? = some f → ks[j]? = some k → k.type P f.type)
    (hv : Value.okWide P w r b0 t v) (h : DataW.Trod enc P w base spare held t v d p) :
    ∃ a len cap z, v = .slice a len cap ∧ IsRecs ks w a len cap z := by
  obtain ⟨a, len, cap, rfl⟩ := okWide_slice ht hv
  refine ⟨a, len, cap, ?_⟩
  obtain ⟨fuel, hf⟩ := h
  rcases open_slice ht hf with ⟨hcs, _⟩ | ⟨x, l, c, m, n, D, Pl, hcs, _, hl, hm, hmm, _, hx⟩
  · simp [Value.cells] at hcs
    obtain ⟨rfl, rfl, rfl⟩ := hcs
    exact ⟨fun _ _ => undef, rfl, Nat.zero_le _, .inl ⟨rfl, rfl, rfl⟩⟩
  · simp [Value.cells] at hcs
    obtain ⟨rfl, rfl, rfl⟩ := hcs
    have hlm : len ≤ m := by rw [hmm]; split <;> omega
    obtain ⟨z, hz⟩ := choose_recs (len := len) (R := fun i z => ∀ j k, ks[j]? = some k → w.cell? (x.add (i * ks.length + j)) = some (z j) ∧ k.ok w (z j)) (fun i hi => by
      refine choose_vals (R := fun j k z => w.cell? (x.add (i * ks.length + j)) = some z ∧ k.ok w z) (fun j k hjk => ?_)
      obtain ⟨cs', h1, h2⟩ := hx i (by omega)
      rw [ce] at h1
      obtain ⟨_, hlen, hcell⟩ := World.cells?_some h1
      obtain ⟨xs, q, _, _, _, hxl, hg⟩ := DataW.trod_struct he h2
      have hj : j < ks.length := (List.getElem?_eq_some_iff.1 hjk).1
      obtain ⟨f, hfj⟩ : ∃ f, fs[j]? = some f := ⟨fs[j], Array.getElem?_eq_getElem (by omega)⟩
      obtain ⟨o, c1⟩ := hone_of hone j f hfj
      have g := hg j f hfj
      rw [o, c1] at g
      have ej := hcell j hj
      rw [add_add] at ej
      have hjc : j < cs'.length := by omega
      have ed : (cs'.drop j).take 1 = [cs'[j]] := by
        rw [List.drop_eq_getElem_cons hjc]; rfl
      rw [ed, List.getElem?_eq_getElem (by omega)] at g
      rw [List.getElem?_eq_getElem hjc] at ej
      exact ⟨cs'[j], ej, field_ok (hk j f k hfj hjk) g⟩)
    exact ⟨z, rfl, by omega, .inr ⟨x, rfl, hl, hm, hz⟩⟩
end
end Go.Proofs.Ythmaibbminnplaa
