/-
  Texts beneath RootsPlay, part 28: RtPlay, RtTurn.
-/
import Derived.Test.YtalglhgngedjoaaGreatPart27
/-
  RootsPlay: four who create, look, end, give slots back; the program's machines and the document's beside each other (Play).
-/
namespace Go.Proofs.YtalglhgngedjoaaGreat
open Go.RowKit
open W64
set_option maxRecDepth 100000
inductive PM
  | idle
  | cr (K : Cr)
  | ed (K : Ed)
  | lk (K : Lk)
  | pu (U : Pu)
/-- The thirty-six cells of hands. -/
def row36 (V : Nat → Value) : Array Value := Array.ofFn fun i : Fin 36 => V i.1
theorem row36_get {V : Nat → Value} {k : Nat} (h : k < 36) : (row36 V)[k]? = some (V k) := by simp [row36, h]
theorem row36_set (V : Nat → Value) {k : Nat} (x : Value) : (row36 V).setIfInBounds k x = row36 (updA V k x) := by
  unfold row36
  apply Array.ext
  · simp
  · intro i h1 h2
    by_cases e : k = i
    · subst e; simp [updA]
    · have e' : ¬ i = k := fun h => e h.symm
      rw [Array.getElem_setIfInBounds_ne (by simpa using h2) e]
      simp [updA, e']
abbrev ptr (b : Nat) : Value := .pointer (some ⟨b, 0, none⟩)
def Apart2 (a b : Value) : Prop := ∀ k, a.ownBlock = some k → b.ownBlock ≠ some k
/-- One's machine in memory, the program's and the document's; the blocks that are its own. -/
inductive MW (w : World) (l : Lie) (n u : Nat) (V : Nat → Value) : PM → List Nat → Prop
  | idle (h0 : V u = .pointer none) (h1 : V (4 + u) = .pointer none) (h2 : V (8 + u) = .pointer none) (h3 : V (12 + u) = .pointer none) : MW w l n u V .idle []
  | cr {b pb rb rpb : Nat} {v rv : Value} {K : Cr} (h0 : V u = ptr b) (h1 : V (4 + u) = .pointer none) (h2 : V (8 + u) = .pointer none) (h3 : V (12 + u) = .pointer none) (h4 : V (16 + u) = ptr rb) (P : CrM w b pb l.q l.qs n v K) (R : RCrM w rb rpb l.k l.qr n rv K) (s : Apart2 v rv) : MW w l n u V (.cr K) ((b :: pb :: v.ownBlock.toList) ++ (rb :: rpb :: rv.ownBlock.toList))
  | ed {b rb : Nat} {K : Ed} (h0 : V u = .pointer none) (h1 : V (4 + u) = ptr b) (h2 : V (8 + u) = .pointer none) (h3 : V (12 + u) = .pointer none) (h4 : V (20 + u) = ptr rb) (P : EdM w b l.q 4 K) (R : REdM w rb l.k K) : MW w l n u V (.ed K) ([b] ++ [rb])
  | lk {b rb : Nat} {K : Lk} (h0 : V u = .pointer none) (h1 : V (4 + u) = .pointer none) (h2 : V (8 + u) = ptr b) (h3 : V (12 + u) = .pointer none) (h4 : V (24 + u) = ptr rb) (P : LkM w b l.q 4 K) (R : RLkM w rb l.k K) : MW w l n u V (.lk K) ([b] ++ [rb])
  | pu {b rb : Nat} {v rv : Value} {U : Pu} (h0 : V u = .pointer none) (h1 : V (4 + u) = .pointer none) (h2 : V (8 + u) = .pointer none) (h3 : V (12 + u) = ptr b) (h4 : V (28 + u) = ptr rb) (P : PuM w b l.qs n v U) (R : RPuM w rb l.qr n rv U) (s : Apart2 v rv) : MW w l n u V (.pu U) ((b :: v.ownBlock.toList) ++ (rb :: rv.ownBlock.toList))
/-- It goes on. -/
def PM.live (n T : Nat) : PM → Prop
  | .idle => True
  | .cr K => K.fin = false ∧ K.steps ≤ T
  | .ed K => K.fin = false ∧ K.slot < n ∧ K.steps ≤ T
  | .lk K => K.fin = false ∧ K.slot < n
  | .pu U => U.fin = false
theorem PM.live.more {n T : Nat} {M : PM} (h : M.live n T) : M.live n (T + 1) := by
  cases M with
  | idle => trivial
  | cr K => exact ⟨h.1, Nat.le_succ_of_le h.2⟩
  | ed K => exact ⟨h.1, h.2.1, Nat.le_succ_of_le h.2.2⟩
  | lk K => exact h
  | pu U => exact h
def ow (o : List Nat) (h : Value) : List Nat := o ++ h.ownBlock.toList
structure Play (W w : World) (l : Lie) (n bH D T : Nat) (m : Nat → PM) (V : Nat → Value) (o L : Nat → List Nat) (s : St) : Prop where
  roo : Roo w l.q l.p l.g l.qs (cfN n) 4 n s
  rw_ : RW w l.k l.pr l.gr l.qp l.qr l.qe (cfN n) 4 n s.xs s.c
  up : Up W w
  arr : Whole w bH 51 (row36 V)
  mw : ∀ u, u < 4 → MW w l n u V (m u) (o u)
  sl : ∀ u, u < 4 → Ints w (V (32 + u)) (I (L u))
  ls : ∀ u, u < 4 → ∀ x ∈ L u, x < n
  ll : ∀ u, u < 4 → (L u).length ≤ T
  lo : ∀ u, u < 4 → ∀ k ∈ ow (o u) (V (32 + u)), D ≤ k ∧ k < w.heap.size
  sh : ∀ u, u < 4 → ∀ k, (V (32 + u)).ownBlock = some k → k ∉ o u
  dj : ∀ u v, u < 4 → v < 4 → u ≠ v → ∀ k ∈ ow (o u) (V (32 + u)), k ∉ ow (o v) (V (32 + v))
  ord : (l.p < D ∧ l.g < D ∧ l.q < D ∧ l.qs < D) ∧ (l.pr < D ∧ l.gr < D ∧ l.k < D ∧ l.qr < D) ∧ bH < D ∧ D ≤ w.heap.size ∧ W.heap.size ≤ D
  base : W.heap.size ≤ l.p ∧ W.heap.size ≤ l.g ∧ W.heap.size ≤ l.pr ∧ W.heap.size ≤ l.gr ∧ W.heap.size ≤ bH
  ne : l.g ≠ l.gr
section
variable {W w w1 w2 w' : World} {l : Lie} {n bH D T u : Nat} {m : Nat → PM} {V V' : Nat → Value} {o L : Nat → List Nat} {s s' : St} {M : PM} {xs : List Int}
theorem away_of {v : Value} {x : List Nat} (h : ∀ k ∈ v.ownBlock.toList, k ∉ x) : Away v x := fun k hk e => h k (by simp [e]) hk
theorem MW.else {ol x : List Nat} (h : MW w l n u V M ol) (U : Else x w w') (hx : ∀ k ∈ ol, k ∉ x) : MW w' l n u V M ol := by
  cases h with
  | idle h0 h1 h2 h3 => exact .idle h0 h1 h2 h3
  | cr h0 h1 h2 h3 h4 P R s => exact .cr h0 h1 h2 h3 h4 (P.else U (hx _ (by simp)) (hx _ (by simp)) (away_of fun k hk => hx k (by simp at hk ⊢; simp [hk]))) ⟨U.whole R.row (hx _ (by simp)), R.pop.else U (hx _ (by simp)) (away_of fun k hk => hx k (by simp at hk ⊢; simp [hk])), R.ok⟩ s
  | ed h0 h1 h2 h3 h4 P R => exact .ed h0 h1 h2 h3 h4 (P.else U (hx _ (by simp))) ⟨U.whole R.row (hx _ (by simp)), R.o0, R.o1⟩
  | lk h0 h1 h2 h3 h4 P R => exact .lk h0 h1 h2 h3 h4 (P.else U (hx _ (by simp))) ⟨U.whole R.row (hx _ (by simp))⟩
  | pu h0 h1 h2 h3 h4 P R s => exact .pu h0 h1 h2 h3 h4 (P.else U (hx _ (by simp)) (away_of fun k hk => hx k (by simp at hk ⊢; simp [hk]))) (R.else U (hx _ (by simp)) (away_of fun k hk => hx k (by simp at hk ⊢; simp [hk]))) s
theorem MW.congr {ol : List Nat} (h : MW w l n u V M ol) (e : ∀ k, k % 4 = u → V' k = V k) (hu : u < 4) : MW w l n u V' M ol := by
  have e0 := e u (by omega)
  have e1 := e (4 + u) (by omega)
  have e2 := e (8 + u) (by omega)
  have e3 := e (12 + u) (by omega)
  have e4 := e (16 + u) (by omega)
  have e5 := e (20 + u) (by omega)
  have e6 := e (24 + u) (by omega)
  have e7 := e (28 + u) (by omega)
  cases h with
  | idle h0 h1 h2 h3 => exact .idle (e0.trans h0) (e1.trans h1) (e2.trans h2) (e3.trans h3)
  | cr h0 h1 h2 h3 h4 P R s => exact .cr (e0.trans h0) (e1.trans h1) (e2.trans h2) (e3.trans h3) (e4.trans h4) P R s
  | ed h0 h1 h2 h3 h4 P R => exact .ed (e0.trans h0) (e1.trans h1) (e2.trans h2) (e3.trans h3) (e5.trans h4) P R
  | lk h0 h1 h2 h3 h4 P R => exact .lk (e0.trans h0) (e1.trans h1) (e2.trans h2) (e3.trans h3) (e6.trans h4) P R
  | pu h0 h1 h2 h3 h4 P R s => exact .pu (e0.trans h0) (e1.trans h1) (e2.trans h2) (e3.trans h3) (e7.trans h4) P R s
theorem Play.ups (X : Play W w l n bH D T m V o L s) (U : Up w w') : Play W w' l n bH D T m V o L s :=
  ⟨X.roo.up U, X.rw_.up U, X.up.trans U, X.arr.up U, fun u hu => (X.mw u hu).else (x := []) (Else.of_up U) (by simp), fun u hu => (X.sl u hu).up U, X.ls, X.ll, fun u hu k hk => ⟨(X.lo u hu k hk).1, Nat.lt_of_lt_of_le (X.lo u hu k hk).2 U.size⟩, X.sh, X.dj, by have := X.ord; have := U.size; omega, X.base, X.ne⟩
/-- One of them has gone on: whatever has turned is his, the memories', the table's. -/
theorem Play.turn (X : Play W w l n bH D T m V o L s) (hu : u < 4) {x : List Nat} (U : Else x w w') (hx : ∀ k ∈ x, k ∈ ow (o u) (V (32 + u)) ∨ k = l.p ∨ k = l.g ∨ k = l.pr ∨ k = l.gr ∨ k = bH)
    (S : Roo w' l.q l.p l.g l.qs (cfN n) 4 n s') (R : RW w' l.k l.pr l.gr l.qp l.qr l.qe (cfN n) 4 n s'.xs s'.c) (A : Whole w' bH 51 (row36 V')) (hV : ∀ k, k % 4 ≠ u → V' k = V k) {M' : PM} {o' L' : List Nat} (H : MW w' l n u V' M' o')
    (J : Ints w' (V' (32 + u)) (I L')) (hl1 : ∀ x ∈ L', x < n) (hl2 : L'.length ≤ T + 1) (ho : ∀ k ∈ ow o' (V' (32 + u)), k < w'.heap.size ∧ (k ∈ ow (o u) (V (32 + u)) ∨ w.heap.size ≤ k)) (hs : ∀ k, (V' (32 + u)).ownBlock = some k → k ∉ o') :
    Play W w' l n bH D (T + 1) (updA m u M') V' (updA o u o') (updA L u L') s' := by
  have hord := X.ord
  have hV32 : ∀ v, v < 4 → v ≠ u → V' (32 + v) = V (32 + v) := fun v hv hne => hV _ (by omega)
  have key : ∀ v, v < 4 → v ≠ u → ∀ k ∈ ow (o v) (V (32 + v)), k ∉ x := fun v hv hne k hk hkx => by
    have h1 := (X.lo v hv k hk).1
    rcases hx k hkx with h | h
    · exact X.dj v u hv hu hne k hk h
    · omega
  have hD : ∀ k ∈ ow o' (V' (32 + u)), D ≤ k := fun k hk => by
    rcases (ho k hk).2 with h | h
    · exact (X.lo u hu k h).1
    · omega
  have fr : ∀ v, v < 4 → v ≠ u → ∀ k ∈ ow o' (V' (32 + u)), k ∉ ow (o v) (V (32 + v)) := fun v hv hne k hk hk2 => by
    rcases (ho k hk).2 with h | h
    · exact X.dj u v hu hv (Ne.symm hne) k h hk2
    · have := (X.lo v hv k hk2).2; omega
  refine ⟨S, R, ?_, A, fun v hv => ?_, fun v hv => ?_, fun v hv => ?_, fun v hv => ?_, fun v hv k hk => ?_, fun v hv k hk => ?_, fun v v' hv hv' hne k hk hk' => ?_, by have := U.size; omega, X.base, X.ne⟩
  · refine Else.up_new X.up U fun k hk => ?_
    rcases hx k hk with h | h
    · have := (X.lo u hu k h).1; omega
    · have := X.base; omega
  · by_cases e : v = u
    · subst e; rw [updA_same, updA_same]; exact H
    · rw [updA_ne _ _ e, updA_ne _ _ e]
      exact ((X.mw v hv).else U (fun k hk => key v hv e k (List.mem_append_left _ hk))).congr (fun k hk => hV k (by omega)) hv
  · by_cases e : v = u
    · subst e; rw [updA_same]; exact J
    · rw [updA_ne _ _ e, hV32 v hv e]
      exact (X.sl v hv).else U (away_of fun k hk => key v hv e k (List.mem_append_right _ hk))
  · by_cases e : v = u
    · subst e; rw [updA_same]; exact hl1
    · rw [updA_ne _ _ e]; exact X.ls v hv
  · by_cases e : v = u
    · subst e; rw [updA_same]; exact hl2
    · rw [updA_ne _ _ e]; have := X.ll v hv; omega
  · by_cases e : v = u
    · subst e; rw [updA_same] at hk; exact ⟨hD k hk, (ho k hk).1⟩
    · rw [updA_ne _ _ e, hV32 v hv e] at hk; exact ⟨(X.lo v hv k hk).1, Nat.lt_of_lt_of_le (X.lo v hv k hk).2 U.size⟩
  · by_cases e : v = u
    · subst e; rw [updA_same]; exact hs k hk
    · rw [hV32 v hv e] at hk; rw [updA_ne _ _ e]; exact X.sh v hv k hk
  · by_cases e : v = u
    · subst e
      have e2 : v' ≠ v := Ne.symm hne
      rw [updA_same] at hk
      rw [updA_ne _ _ e2, hV32 v' hv' e2] at hk'
      exact fr v' hv' e2 k hk hk'
    · rw [updA_ne _ _ e, hV32 v hv e] at hk
      by_cases e2 : v' = u
      · subst e2
        rw [updA_same] at hk'
        exact fr v hv e k hk' hk
      · rw [updA_ne _ _ e2, hV32 v' hv' e2] at hk'
        exact X.dj v v' hv hv' hne k hk hk'
theorem Play.hi (X : Play W w l n bH D T m V o L s) (hu : u < 4) {k : Nat} (hk : k ∈ o u) : D ≤ k ∧ k < w.heap.size := X.lo u hu k (List.mem_append_left _ hk)
/-- Both of one's machines have gone on. -/
theorem Play.both (X : Play W w l n bH D T m V o L s) (hu : u < 4) {ownP ownR : List Nat} {MP MR : World → Prop} (G : POut w l.q l.p l.g l.qs (cfN n) 4 n s xs ownP MP w1) (H : ROut w1 l.k l.pr l.gr l.qp l.qr l.qe (cfN n) 4 n xs s.c ownR MR w2) (hP : ∀ k ∈ ownP, k ∈ o u) (hR : ∀ k ∈ ownR, k ∈ o u) {M' : PM} {o' : List Nat}
    (hm : MP w1 → MR w2 → Else (ownP ++ [l.p, l.g]) w w1 → Else (ownR ++ [l.pr, l.gr]) w1 w2 → MW w2 l n u V M' o' ∧ ∀ k ∈ o', k < w2.heap.size ∧ (k ∈ o u ∨ w.heap.size ≤ k)) :
    ∃ s', s'.xs = xs ∧ Play W w2 l n bH D (T + 1) (updA m u M') V (updA o u o') L s' := by
  obtain ⟨s1, hc, hx, R1, MP1, E1⟩ := G
  obtain ⟨R2, MR2, E2⟩ := H
  have hord := X.ord
  have hb := fun k hk => (X.hi hu (hP k hk)).1
  have hb2 := fun k hk => (X.hi hu (hR k hk)).1
  have z1 := E1.size
  have z2 := E2.size
  have U : Else ((ownP ++ [l.p, l.g]) ++ (ownR ++ [l.pr, l.gr])) w w2 := (E1.more (fun k hk => List.mem_append_left _ hk)).trans (E2.more (fun k hk => List.mem_append_right _ hk))
  have off : ∀ k, k < D → k ≠ l.pr → k ≠ l.gr → k ∉ ownR ++ [l.pr, l.gr] := fun k h1 h2 h3 h => by
    simp at h
    rcases h with h | h | h
    · have := hb2 k h; omega
    · exact h2 h
    · exact h3 h
  have A := X.roo.env.mem.top
  have B := X.rw_.env.mem.top
  have C := X.rw_.env.mem.row
  have Gg := X.roo.env.mem.row
  have Q := X.roo.obj
  have S := X.roo.env.stk
  have hm2 := hm MP1 MR2 E1 E2
  subst hx
  have RO : Roo w2 l.q l.p l.g l.qs (cfN n) 4 n s1 := R1.else E2 ⟨off _ hord.1.1 (A.ne_type B (by decide)) (A.ne_type C (by decide)), off _ hord.1.2.1 (Gg.ne_type B (by decide)) X.ne, off _ hord.1.2.2.2 (S.ne_type B (by decide)) (S.ne_type C (by decide)), off _ hord.1.2.2.1 (Q.ne_type B (by decide)) (Q.ne_type C (by decide))⟩
  have hL : updA L u (L u) = L := updA_id L u
  refine ⟨s1, rfl, ?_⟩
  have key := X.turn hu (V' := V) (L' := L u) U (fun k hk => ?_) RO (hc ▸ R2) (U.whole X.arr ?_) (fun _ _ => rfl) hm2.1 ((X.sl u hu).else U (away_of fun k hk hm => ?_)) (X.ls u hu) (Nat.le_succ_of_le (X.ll u hu)) (fun k hk => ?_) (fun k hk hko => ?_)
  · rw [hL] at key; exact key
  · simp at hk
    rcases hk with h | h | h | h | h | h
    · exact .inl (List.mem_append_left _ (hP k h))
    · exact .inr (.inl h)
    · exact .inr (.inr (.inl h))
    · exact .inl (List.mem_append_left _ (hR k h))
    · exact .inr (.inr (.inr (.inl h)))
    · exact .inr (.inr (.inr (.inr (.inl h))))
  · intro hm
    have tA := X.arr.ne_type A (by decide)
    have tG := X.arr.ne_type Gg (by decide)
    have tB := X.arr.ne_type B (by decide)
    have tC := X.arr.ne_type C (by decide)
    simp at hm
    rcases hm with h | h | h | h | h | h
    · have := hb bH h; omega
    · exact tA h
    · exact tG h
    · have := hb2 bH h; omega
    · exact tB h
    · exact tC h
  · have h1 := X.sh u hu k (by simpa using hk)
    have h2 := (X.lo u hu k (List.mem_append_right _ hk)).1
    simp at hm
    rcases hm with h | h | h | h | h | h
    · exact h1 (hP k h)
    · omega
    · omega
    · exact h1 (hR k h)
    · omega
    · omega
  · rcases List.mem_append.1 hk with hk | hk
    · obtain ⟨a, b⟩ := hm2.2 k hk
      exact ⟨a, b.elim (fun h => .inl (List.mem_append_left _ h)) .inr⟩
    · exact ⟨by have := (X.lo u hu k (List.mem_append_right _ hk)).2; omega, .inl (List.mem_append_right _ hk)⟩
  · rcases (hm2.2 k hko).2 with h | h
    · exact X.sh u hu k hk h
    · have := (X.lo u hu k (List.mem_append_right _ (by simp [hk]))).2; omega
/-- The document's side behind the program's access. -/
theorem Play.ref1 (X : Play W w l n bH D T m V o L s) (hu : u < 4) {ownP : List Nat} (hP : ∀ k ∈ ownP, k ∈ o u) (E : Else (ownP ++ [l.p, l.g]) w w1) : RW w1 l.k l.pr l.gr l.qp l.qr l.qe (cfN n) 4 n s.xs s.c := by
  have hord := X.ord
  have A := X.roo.env.mem.top
  have Gg := X.roo.env.mem.row
  have off : ∀ k, k < D → k ≠ l.p → k ≠ l.g → k ∉ ownP ++ [l.p, l.g] := fun k h1 h2 h3 h => by
    simp at h
    rcases h with h | h | h
    · have := (X.hi hu (hP k h)).1; omega
    · exact h2 h
    · exact h3 h
  have B := X.rw_.env.mem.top
  have C := X.rw_.env.mem.row
  have K := X.rw_.obj
  have S := X.rw_.env.stk
  exact X.rw_.else E ⟨off _ hord.2.1.1 (B.ne_type A (by decide)) (B.ne_type Gg (by decide)), off _ hord.2.1.2.1 (C.ne_type A (by decide)) X.ne.symm, off _ hord.2.1.2.2.2 (S.ne_type A (by decide)) (S.ne_type Gg (by decide)), off _ hord.2.1.2.2.1 (K.ne_type A (by decide)) (K.ne_type Gg (by decide))⟩
end
end Go.Proofs.YtalglhgngedjoaaGreat

/-
  RootsPlay: one's machines go a step on, the program's, then the document's; they are struck from the table; others stand in it.
-/
namespace Go.Proofs.YtalglhgngedjoaaGreat
open Go.RowKit
open W64
set_option maxRecDepth 100000
/-- Both machines go a step on. -/
def B2 (f g : FuncId) (b rb : Nat) (w : World) (bH : Nat) (V : Nat → Value) (Q : World → Prop) : Prop :=
  ∃ G1 : World → Prop, Calls Tryz.prog f #[.pointer (some ⟨b, 0, none⟩)] w (fun e w1 => e = .returned (.bool true) ∧ G1 w1) ∧
    ∀ w1, G1 w1 → Whole w1 bH 51 (row36 V) ∧ Calls Tryz.prog g #[.pointer (some ⟨rb, 0, none⟩)] w1 (fun e w2 => e = .returned (.bool true) ∧ Q w2)
structure CrGot (P : World → Prop) (b rb : Nat) (l : Lie) (n : Nat) (K : Cr) (w : World) : Prop where
  play : P w
  prog : ∃ pb v, CrM w b pb l.q l.qs n v K
  ref : ∃ rpb rv, RCrM w rb rpb l.k l.qr n rv K
structure EdGot (P : World → Prop) (b rb : Nat) (l : Lie) (K : Ed) (w : World) : Prop where
  play : P w
  prog : EdM w b l.q 4 K
  ref : REdM w rb l.k K
structure LkGot (P : World → Prop) (b rb : Nat) (l : Lie) (K : Lk) (w : World) : Prop where
  play : P w
  prog : LkM w b l.q 4 K
  ref : RLkM w rb l.k K
structure PuGot (P : World → Prop) (b rb : Nat) (l : Lie) (n : Nat) (U : Pu) (w : World) : Prop where
  play : P w
  prog : ∃ v, PuM w b l.qs n v U
  ref : ∃ rv, RPuM w rb l.qr n rv U
section
variable {W w w1 w2 w' : World} {l : Lie} {n bH D T T' u k k' : Nat} {m : Nat → PM} {V V' : Nat → Value} {o L : Nat → List Nat} {s s' : St} {M : PM} {xs : List Int}
theorem PM.live.mono {M : PM} (h : M.live n T) (ht : T ≤ T') : M.live n T' := by
  cases M with
  | idle => trivial
  | cr K => exact ⟨h.1, Nat.le_trans h.2 ht⟩
  | ed K => exact ⟨h.1, h.2.1, Nat.le_trans h.2.2 ht⟩
  | lk K => exact h
  | pu U => exact h
theorem live_upd (h : ∀ v, v < 4 → (m v).live n T) (ht : T ≤ T') (hM : M.live n T') : ∀ v, v < 4 → (updA m u M v).live n T' := by
  intro v hv
  by_cases e : v = u
  · subst e; rw [updA_same]; exact hM
  · rw [updA_ne _ _ e]; exact (h v hv).mono ht
theorem updA_updA {α : Type} (f : Nat → α) (u : Nat) (x y : α) : updA (updA f u x) u y = updA f u y := by
  funext k
  by_cases e : k = u
  · subst e; simp [updA]
  · simp [updA, e]
theorem Play.more (X : Play W w l n bH D T m V o L s) (h : T ≤ T') : Play W w l n bH D T' m V o L s :=
  ⟨X.roo, X.rw_, X.up, X.arr, X.mw, X.sl, X.ls, fun u hu => Nat.le_trans (X.ll u hu) h, X.lo, X.sh, X.dj, X.ord, X.base, X.ne⟩
theorem Play.bh (X : Play W w l n bH D T m V o L s) (hu : u < 4) {own : List Nat} (hP : ∀ k ∈ own, k ∈ o u) : bH ∉ own ++ [l.p, l.g] := by
  have hord := X.ord
  have tA := X.arr.ne_type X.roo.env.mem.top (by decide)
  have tG := X.arr.ne_type X.roo.env.mem.row (by decide)
  intro h
  simp at h
  rcases h with h | h | h
  · have := (X.hi hu (hP _ h)).1; omega
  · exact tA h
  · exact tG h
/-! ### The document's Push -/
theorem RPuM.off {b qs : Nat} {v : Value} {U : Pu} (E : RPuM w b qs n v U) {t : TypeId} {cs : Array Value} {d : Nat} (B : Whole w d t cs) (h1 : 104 ≠ t) (h2 : 3 ≠ t) : b ≠ d ∧ v.ownBlock ≠ some d :=
  ⟨E.at_.top.ne_type B h1, E.at_.row.ne_block B h2⟩
theorem rPush {b kk p g qp qs qe r0 : Nat} {c : Cf} {cnt : Int} {v : Value} {U : Pu} (R : RW w kk p g qp qs qe c r0 n xs cnt) (E : RPuM w b qs n v U) (hf : U.fin = false) :
    Calls Tryz.prog 47 #[.pointer (some ⟨b, 0, none⟩)] w fun e w' => e = .returned (.bool true) ∧ ROut w kk p g qp qs qe c r0 n (U.xs n 1 (r0 + n) xs) cnt (b :: v.ownBlock.toList) (fun w' => RPuM w' b qs n v (U.go 1 xs)) w' := by
  obtain ⟨a1, a2⟩ := E.off R.env.mem.top (by decide) (by decide)
  obtain ⟨b1, b2⟩ := E.off R.env.mem.row (by decide) (by decide)
  obtain ⟨c1, c2⟩ := E.off R.env.stk (by decide) (by decide)
  refine (rpuStep R.env ⟨a1, b1, c1, a2, b2, c2⟩ E hf).mono ?_
  rintro e w' ⟨rfl, E2, M2, U2⟩
  obtain ⟨d1, d2⟩ := E.off R.obj (by decide) (by decide)
  refine ⟨rfl, ⟨U2.whole R.obj ?_, E2, R.may, R.hr, R.hn⟩, M2, U2⟩
  simp [R.kp, R.kg, d1.symm]; exact d2
/-! ### A step of both -/
theorem Near.cases {v v' : Value} (h : Near w v v') {k : Nat} (hk : v'.ownBlock = some k) : v.ownBlock = some k ∨ w.heap.size ≤ k := by
  rcases h with h | h | ⟨r, h, hr⟩
  · exact .inl (h ▸ hk)
  · rw [h] at hk; cases hk
  · rw [h] at hk; injection hk with hk; exact .inr (by omega)
theorem Play.crTurn (X : Play W w l n bH D T m V o L s) (hu : u < 4) {K : Cr} (em : m u = .cr K) (hf : K.fin = false) (hs : K.steps ≤ T) (hT : T ≤ 1000) :
    ∃ b rb, V u = ptr b ∧ V (4 + u) = .pointer none ∧ V (8 + u) = .pointer none ∧ V (12 + u) = .pointer none ∧ V (16 + u) = ptr rb ∧
      B2 29 37 b rb w bH V (CrGot (fun w2 => ∃ s' o', Play W w2 l n bH D (T + 1) (updA m u (.cr (K.go n 4 s.xs))) V (updA o u o') L s') b rb l n (K.go n 4 s.xs)) := by
  have hmw := X.mw u hu
  rw [em] at hmw
  generalize ho : o u = ol at hmw
  cases hmw with
  | cr h0 h1 h2 h3 h4 P R sp =>
  rename_i b pb rb rpb v rv
  have hord := X.ord
  refine ⟨b, rb, h0, h1, h2, h3, h4, fun w1 => ∃ v', Near w v v' ∧ POut w l.q l.p l.g l.qs (cfN n) 4 n s (K.xs 4 s.xs) (b :: pb :: v.ownBlock.toList) (fun w' => CrM w' b pb l.q l.qs n v' (K.go n 4 s.xs)) w1, crStep X.roo P hf (by omega), ?_⟩
  rintro w1 ⟨v', NR, G⟩
  have hP : ∀ k ∈ b :: pb :: v.ownBlock.toList, k ∈ o u := fun k hk => by rw [ho]; exact List.mem_append_left _ hk
  have hR : ∀ k ∈ rb :: rpb :: rv.ownBlock.toList, k ∈ o u := fun k hk => by rw [ho]; exact List.mem_append_right _ hk
  have lo : ∀ k ∈ o u, D ≤ k ∧ k < w.heap.size := fun k hk => X.hi hu hk
  have GG := G
  obtain ⟨s1, hc, hx, R1, M1, E1⟩ := G
  refine ⟨E1.whole X.arr (X.bh hu hP), ?_⟩
  have e1 := P.row.ne_type R.row (by decide)
  obtain ⟨e2, e3⟩ := P.pop.off R.row (by decide) (by decide)
  have e4 := P.row.ne_type R.pop.at_.top (by decide)
  obtain ⟨e5, e6⟩ := P.pop.off R.pop.at_.top (by decide) (by decide)
  obtain ⟨_, e7⟩ := R.pop.off P.row (by decide) (by decide)
  obtain ⟨_, e8⟩ := R.pop.off P.pop.at_.top (by decide) (by decide)
  have lb := lo b (hP b (by simp))
  have lpb := lo pb (hP pb (by simp))
  have lrb := lo rb (hR rb (by simp))
  have lrpb := lo rpb (hR rpb (by simp))
  have lv : ∀ k, v.ownBlock = some k → D ≤ k ∧ k < w.heap.size := fun k hk => lo k (hP k (by simp [hk]))
  have lrv : ∀ k, rv.ownBlock = some k → D ≤ k ∧ k < w.heap.size := fun k hk => lo k (hR k (by simp [hk]))
  have kR : ∀ k ∈ rb :: rpb :: rv.ownBlock.toList, k ∉ (b :: pb :: v.ownBlock.toList) ++ [l.p, l.g] := fun k hk hm => by
    have hD := (lo k (hR k hk)).1
    simp at hk hm
    rcases hk with hk | hk | hk <;> rcases hm with h | h | h | h | h <;> first | omega | exact e3 (hk ▸ h) | exact e6 (hk ▸ h) | exact e7 (h ▸ hk) | exact e8 (h ▸ hk) | exact sp _ h hk
  have RR : RCrM w1 rb rpb l.k l.qr n rv K := ⟨E1.whole R.row (kR _ (by simp)), R.pop.else E1 (kR _ (by simp)) (away_of fun k hk => kR k (by simp at hk ⊢; simp [hk])), R.ok⟩
  refine (rcrStep (X.ref1 hu hP E1) RR hf (by omega)).mono ?_
  rintro e w2 ⟨rfl, rv', NR2, H⟩
  have z1 := E1.size
  have z2 := H.2.2.size
  have MR2 := H.2.1
  obtain ⟨_, f3⟩ := M1.pop.off RR.row (by decide) (by decide)
  obtain ⟨_, f6⟩ := M1.pop.off RR.pop.at_.top (by decide) (by decide)
  have sp1 : Apart2 v' rv := fun k h1 h2 => by
    rcases NR.cases h1 with h | h
    · exact sp k h h2
    · have := lrv k h2; omega
  have kP : ∀ k ∈ b :: pb :: v'.ownBlock.toList, k ∉ (rb :: rpb :: rv.ownBlock.toList) ++ [l.pr, l.gr] := fun k hk hm => by
    have hD : D ≤ k := by
      simp at hk
      rcases hk with h | h | h
      · omega
      · omega
      · rcases NR.cases h with h | h
        · exact (lv k h).1
        · omega
    simp at hk hm
    rcases hk with hk | hk | hk <;> rcases hm with h | h | h | h | h <;> first | omega | exact f3 (h ▸ hk) | exact f6 (h ▸ hk) | exact e7 (hk ▸ h) | exact e8 (hk ▸ h) | exact sp1 _ hk h
  have sp2 : Apart2 v' rv' := fun k h1 h2 => by
    rcases NR2.cases h2 with h | h
    · exact sp1 k h1 h
    · have := M1.pop.at_.row.lt h1; omega
  have M2 : CrM w2 b pb l.q l.qs n v' (K.go n 4 s.xs) := M1.else H.2.2 (kP _ (by simp)) (kP _ (by simp)) (away_of fun k hk => kP k (by simp at hk ⊢; simp [hk]))
  have hsz : ∀ k ∈ (b :: pb :: v'.ownBlock.toList) ++ (rb :: rpb :: rv'.ownBlock.toList), k < w2.heap.size ∧ (k ∈ o u ∨ w.heap.size ≤ k) := fun k hk => by
    simp at hk
    rcases hk with h | h | h | h | h | h
    · exact ⟨by omega, .inl (hP _ (by simp [h]))⟩
    · exact ⟨by omega, .inl (hP _ (by simp [h]))⟩
    · refine ⟨by have := M1.pop.at_.row.lt h; omega, ?_⟩
      rcases NR.cases h with h | h
      · exact .inl (hP _ (by simp [h]))
      · exact .inr h
    · exact ⟨by omega, .inl (hR _ (by simp [h]))⟩
    · exact ⟨by omega, .inl (hR _ (by simp [h]))⟩
    · refine ⟨by have := MR2.pop.at_.row.lt h; omega, ?_⟩
      rcases NR2.cases h with h | h
      · exact .inl (hR _ (by simp [h]))
      · exact .inr (by omega)
  obtain ⟨s', _, Y⟩ := X.both hu GG H hP hR (M' := .cr (K.go n 4 s.xs)) (o' := (b :: pb :: v'.ownBlock.toList) ++ (rb :: rpb :: rv'.ownBlock.toList)) (fun _ _ _ _ => ⟨.cr h0 h1 h2 h3 h4 M2 MR2 sp2, hsz⟩)
  exact ⟨rfl, ⟨_, _, Y⟩, ⟨_, _, M2⟩, ⟨_, _, MR2⟩⟩
theorem Play.edTurn (X : Play W w l n bH D T m V o L s) (hu : u < 4) {K : Ed} (em : m u = .ed K) (hf : K.fin = false) (hk : K.slot < n) (hs : K.steps ≤ T) (hT : T ≤ 1000) :
    ∃ b rb, V u = .pointer none ∧ V (4 + u) = ptr b ∧ V (8 + u) = .pointer none ∧ V (12 + u) = .pointer none ∧ V (20 + u) = ptr rb ∧
      B2 38 39 b rb w bH V (EdGot (fun w2 => ∃ s' o', Play W w2 l n bH D (T + 1) (updA m u (.ed (K.go 4 s.xs))) V (updA o u o') L s') b rb l (K.go 4 s.xs)) := by
  have hmw := X.mw u hu
  rw [em] at hmw
  generalize ho : o u = ol at hmw
  cases hmw with
  | ed h0 h1 h2 h3 h4 P R =>
  rename_i b rb
  have hord := X.ord
  refine ⟨b, rb, h0, h1, h2, h3, h4, fun w1 => POut w l.q l.p l.g l.qs (cfN n) 4 n s (K.xs 4 s.xs) [b] (fun w' => EdM w' b l.q 4 (K.go 4 s.xs)) w1, edStep X.roo P hk hf (by omega), ?_⟩
  intro w1 G
  have hP : ∀ k ∈ [b], k ∈ o u := fun k hk => by rw [ho]; exact List.mem_append_left _ hk
  have hR : ∀ k ∈ [rb], k ∈ o u := fun k hk => by rw [ho]; exact List.mem_append_right _ hk
  have lb := X.hi hu (hP b (by simp))
  have lrb := X.hi hu (hR rb (by simp))
  have GG := G
  obtain ⟨s1, hc, hx, R1, M1, E1⟩ := G
  refine ⟨E1.whole X.arr (X.bh hu hP), ?_⟩
  have e1 := P.row.ne_type R.row (by decide)
  have RR : REdM w1 rb l.k K := ⟨E1.whole R.row (by simp; omega), R.o0, R.o1⟩
  refine (redStep (X.ref1 hu hP E1) RR hk hf P.i1 (by omega)).mono ?_
  rintro e w2 ⟨rfl, H⟩
  have z1 := E1.size
  have z2 := H.2.2.size
  have MR2 := H.2.1
  have M2 : EdM w2 b l.q 4 (K.go 4 s.xs) := M1.else H.2.2 (by simp; omega)
  have hsz : ∀ k ∈ [b] ++ [rb], k < w2.heap.size ∧ (k ∈ o u ∨ w.heap.size ≤ k) := fun k hk => by
    simp at hk
    rcases hk with h | h
    · exact ⟨by omega, .inl (hP _ (by simp [h]))⟩
    · exact ⟨by omega, .inl (hR _ (by simp [h]))⟩
  obtain ⟨s', _, Y⟩ := X.both hu GG H hP hR (M' := .ed (K.go 4 s.xs)) (o' := [b] ++ [rb]) (fun _ _ _ _ => ⟨.ed h0 h1 h2 h3 h4 M2 MR2, hsz⟩)
  exact ⟨rfl, ⟨_, _, Y⟩, M2, MR2⟩
theorem Play.lkTurn (X : Play W w l n bH D T m V o L s) (hu : u < 4) {K : Lk} (em : m u = .lk K) (hf : K.fin = false) (hk : K.slot < n) :
    ∃ b rb, V u = .pointer none ∧ V (4 + u) = .pointer none ∧ V (8 + u) = ptr b ∧ V (12 + u) = .pointer none ∧ V (24 + u) = ptr rb ∧
      B2 18 44 b rb w bH V (LkGot (fun w2 => ∃ s' o', Play W w2 l n bH D (T + 1) (updA m u (.lk (K.go 4 s.xs))) V (updA o u o') L s') b rb l (K.go 4 s.xs)) := by
  have hmw := X.mw u hu
  rw [em] at hmw
  generalize ho : o u = ol at hmw
  cases hmw with
  | lk h0 h1 h2 h3 h4 P R =>
  rename_i b rb
  have hord := X.ord
  refine ⟨b, rb, h0, h1, h2, h3, h4, fun w1 => POut w l.q l.p l.g l.qs (cfN n) 4 n s s.xs [b] (fun w' => LkM w' b l.q 4 (K.go 4 s.xs)) w1, lkStep X.roo P hk hf, ?_⟩
  intro w1 G
  have hP : ∀ k ∈ [b], k ∈ o u := fun k hk => by rw [ho]; exact List.mem_append_left _ hk
  have hR : ∀ k ∈ [rb], k ∈ o u := fun k hk => by rw [ho]; exact List.mem_append_right _ hk
  have lb := X.hi hu (hP b (by simp))
  have lrb := X.hi hu (hR rb (by simp))
  have GG := G
  obtain ⟨s1, hc, hx, R1, M1, E1⟩ := G
  refine ⟨E1.whole X.arr (X.bh hu hP), ?_⟩
  have e1 := P.row.ne_type R.row (by decide)
  have RR : RLkM w1 rb l.k K := ⟨E1.whole R.row (by simp; omega)⟩
  refine (rlkStep (X.ref1 hu hP E1) RR hk hf).mono ?_
  rintro e w2 ⟨rfl, H⟩
  have z1 := E1.size
  have z2 := H.2.2.size
  have MR2 := H.2.1
  have M2 : LkM w2 b l.q 4 (K.go 4 s.xs) := M1.else H.2.2 (by simp; omega)
  have hsz : ∀ k ∈ [b] ++ [rb], k < w2.heap.size ∧ (k ∈ o u ∨ w.heap.size ≤ k) := fun k hk => by
    simp at hk
    rcases hk with h | h
    · exact ⟨by omega, .inl (hP _ (by simp [h]))⟩
    · exact ⟨by omega, .inl (hR _ (by simp [h]))⟩
  obtain ⟨s', _, Y⟩ := X.both hu GG H hP hR (M' := .lk (K.go 4 s.xs)) (o' := [b] ++ [rb]) (fun _ _ _ _ => ⟨.lk h0 h1 h2 h3 h4 M2 MR2, hsz⟩)
  exact ⟨rfl, ⟨_, _, Y⟩, M2, MR2⟩
theorem Play.puTurn (X : Play W w l n bH D T m V o L s) (hu : u < 4) {U : Pu} (em : m u = .pu U) (hf : U.fin = false) :
    ∃ b rb, V u = .pointer none ∧ V (4 + u) = .pointer none ∧ V (8 + u) = .pointer none ∧ V (12 + u) = ptr b ∧ V (28 + u) = ptr rb ∧
      B2 46 47 b rb w bH V (PuGot (fun w2 => ∃ s' o', Play W w2 l n bH D (T + 1) (updA m u (.pu (U.go 1 s.xs))) V (updA o u o') L s') b rb l n (U.go 1 s.xs)) := by
  have hmw := X.mw u hu
  rw [em] at hmw
  generalize ho : o u = ol at hmw
  cases hmw with
  | pu h0 h1 h2 h3 h4 P R sp =>
  rename_i b rb v rv
  have hord := X.ord
  refine ⟨b, rb, h0, h1, h2, h3, h4, fun w1 => POut w l.q l.p l.g l.qs (cfN n) 4 n s (U.xs n 1 (4 + n) s.xs) (b :: v.ownBlock.toList) (fun w' => PuM w' b l.qs n v (U.go 1 s.xs)) w1, rtPush X.roo P hf, ?_⟩
  intro w1 G
  have hP : ∀ k ∈ b :: v.ownBlock.toList, k ∈ o u := fun k hk => by rw [ho]; exact List.mem_append_left _ hk
  have hR : ∀ k ∈ rb :: rv.ownBlock.toList, k ∈ o u := fun k hk => by rw [ho]; exact List.mem_append_right _ hk
  have lo : ∀ k ∈ o u, D ≤ k ∧ k < w.heap.size := fun k hk => X.hi hu hk
  have GG := G
  obtain ⟨s1, hc, hx, R1, M1, E1⟩ := G
  refine ⟨E1.whole X.arr (X.bh hu hP), ?_⟩
  have lb := lo b (hP b (by simp))
  have lrb := lo rb (hR rb (by simp))
  obtain ⟨e1, e2⟩ := P.off R.at_.top (by decide) (by decide)
  obtain ⟨_, e3⟩ := R.off P.at_.top (by decide) (by decide)
  have kR : ∀ k ∈ rb :: rv.ownBlock.toList, k ∉ (b :: v.ownBlock.toList) ++ [l.p, l.g] := fun k hk hm => by
    have hD := (lo k (hR k hk)).1
    simp at hk hm
    rcases hk with hk | hk <;> rcases hm with h | h | h | h <;> first | omega | exact e2 (hk ▸ h) | exact e3 (h ▸ hk) | exact sp _ h hk
  have kP : ∀ k ∈ b :: v.ownBlock.toList, k ∉ (rb :: rv.ownBlock.toList) ++ [l.pr, l.gr] := fun k hk hm => by
    have hD := (lo k (hP k hk)).1
    simp at hk hm
    rcases hk with hk | hk <;> rcases hm with h | h | h | h <;> first | omega | exact e2 (h ▸ hk) | exact e3 (hk ▸ h) | exact sp _ hk h
  have RR : RPuM w1 rb l.qr n rv U := R.else E1 (kR _ (by simp)) (away_of fun k hk => kR k (by simp at hk ⊢; simp [hk]))
  refine (rPush (X.ref1 hu hP E1) RR hf).mono ?_
  rintro e w2 ⟨rfl, H⟩
  have z1 := E1.size
  have z2 := H.2.2.size
  have MR2 := H.2.1
  have M2 : PuM w2 b l.qs n v (U.go 1 s.xs) := M1.else H.2.2 (kP _ (by simp)) (away_of fun k hk => kP k (by simp at hk ⊢; simp [hk]))
  have hsz : ∀ k ∈ (b :: v.ownBlock.toList) ++ (rb :: rv.ownBlock.toList), k < w2.heap.size ∧ (k ∈ o u ∨ w.heap.size ≤ k) := fun k hk => by
    have : k ∈ o u := by rw [ho]; exact hk
    exact ⟨by have := lo k this; omega, .inl this⟩
  obtain ⟨s', _, Y⟩ := X.both hu GG H hP hR (M' := .pu (U.go 1 s.xs)) (o' := (b :: v.ownBlock.toList) ++ (rb :: rv.ownBlock.toList)) (fun _ _ _ _ => ⟨.pu h0 h1 h2 h3 h4 M2 MR2 sp, hsz⟩)
  exact ⟨rfl, ⟨_, _, Y⟩, ⟨_, M2⟩, ⟨_, MR2⟩⟩
/-! ### The table -/
/-- The table alone has turned. -/
theorem Play.put (X : Play W w l n bH D T m V o L s) (hu : u < 4) (E : Else [bH] w w') (A : Whole w' bH 51 (row36 V')) (hV : ∀ k, k % 4 ≠ u → V' k = V k) {M' : PM} {o' L' : List Nat} (H : MW w' l n u V' M' o')
    (J : Ints w' (V' (32 + u)) (I L')) (hl1 : ∀ x ∈ L', x < n) (hl2 : L'.length ≤ T + 1) (ho : ∀ k ∈ ow o' (V' (32 + u)), k < w'.heap.size ∧ (k ∈ ow (o u) (V (32 + u)) ∨ w.heap.size ≤ k)) (hs : ∀ k, (V' (32 + u)).ownBlock = some k → k ∉ o') :
    Play W w' l n bH D (T + 1) (updA m u M') V' (updA o u o') (updA L u L') s := by
  have Q := X.arr
  have R := X.roo
  have S := X.rw_
  refine X.turn hu E (fun k hk => ?_) (R.else E ⟨?_, ?_, ?_, ?_⟩) (S.else E ⟨?_, ?_, ?_, ?_⟩) A hV H J hl1 hl2 ho hs
  · simp at hk; simp [hk]
  · simp [(Q.ne_type R.env.mem.top (by decide)).symm]
  · simp [(Q.ne_type R.env.mem.row (by decide)).symm]
  · simp [(Q.ne_type R.env.stk (by decide)).symm]
  · simp [(Q.ne_type R.obj (by decide)).symm]
  · simp [(Q.ne_type S.env.mem.top (by decide)).symm]
  · simp [(Q.ne_type S.env.mem.row (by decide)).symm]
  · simp [(Q.ne_type S.env.stk (by decide)).symm]
  · simp [(Q.ne_type S.obj (by decide)).symm]
/-- What is done is struck. -/
theorem Play.strike (X : Play W w l n bH D T m V o L s) (hu : u < 4) {k : Nat} (hk : k = u ∨ k = 4 + u ∨ k = 8 + u ∨ k = 12 + u) (h0 : k = u ∨ V u = .pointer none) (h1 : k = 4 + u ∨ V (4 + u) = .pointer none) (h2 : k = 8 + u ∨ V (8 + u) = .pointer none) (h3 : k = 12 + u ∨ V (12 + u) = .pointer none) :
    Play W (w.setCell ⟨bH, k, none⟩ (.pointer none)) l n bH D (T + 1) (updA m u .idle) (updA V k (.pointer none)) (updA o u []) L s := by
  have E : Else [bH] w (w.setCell ⟨bH, k, none⟩ (.pointer none)) := (Else.refl [bH] w).set (.inl (by simp)) _
  have A := X.arr.set k (.pointer none)
  rw [row36_set] at A
  have hord := X.ord
  have no : ∀ j, j = k ∨ V j = .pointer none → updA V k (.pointer none) j = .pointer none := fun j hj => by
    by_cases e : j = k
    · rw [e, updA_same]
    · rw [updA_ne _ _ e]; exact hj.resolve_left e
  have e32 : updA V k (.pointer none) (32 + u) = V (32 + u) := updA_ne _ _ (by omega)
  have key := X.put hu (L' := L u) (V' := updA V k (.pointer none)) E A (fun j hj => updA_ne _ _ (by omega)) (.idle (no _ (h0.imp (·.symm) id)) (no _ (h1.imp (·.symm) id)) (no _ (h2.imp (·.symm) id)) (no _ (h3.imp (·.symm) id))) (by
    rw [e32]
    exact (X.sl u hu).else E (fun j hj he => by
      have := (X.lo u hu j (List.mem_append_right _ (by simp [he]))).1
      simp at hj; omega)) (X.ls u hu) (Nat.le_succ_of_le (X.ll u hu)) (fun j hj => by
    rw [e32] at hj
    have hj2 : j ∈ (V (32 + u)).ownBlock.toList := by simpa [ow] using hj
    exact ⟨by have := (X.lo u hu j (List.mem_append_right _ hj2)).2; have := E.size; omega, .inl (List.mem_append_right _ hj2)⟩) (fun j _ => by simp)
  rw [updA_id] at key
  exact key
end
end Go.Proofs.YtalglhgngedjoaaGreat
