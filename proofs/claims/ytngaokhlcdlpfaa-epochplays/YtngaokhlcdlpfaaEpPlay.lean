/-
  EpochPlays: four who enter, leave, advance; the program's machines and the document's beside each other (Play).
-/
import Derived.Test.YtngaokhlcdlpfaaRefStep
namespace Go.Proofs.Ytngaokhlcdlpfaa
open Go.RowKit
open W64
set_option maxRecDepth 100000
/-- One's machine. -/
inductive PM
  | idle
  | en (e : En)
  | le (d : Bool)
  | ad (a : Ad)
/-- The twenty-four cells of hands. -/
def row24 (V : Nat → Value) : Array Value := Array.ofFn fun i : Fin 24 => V i.1
theorem row24_get {V : Nat → Value} {k : Nat} (h : k < 24) : (row24 V)[k]? = some (V k) := by simp [row24, h]
theorem row24_set (V : Nat → Value) {k : Nat} (x : Value) : (row24 V).setIfInBounds k x = row24 (updA V k x) := by
  unfold row24
  apply Array.ext
  · simp
  · intro i h1 h2
    by_cases e : k = i
    · subst e; simp [updA]
    · have e' : ¬ i = k := fun h => e h.symm
      rw [Array.getElem_setIfInBounds_ne (by simpa using h2) e]
      simp [updA, e']
/-- One's machine in memory, the program's and the document's; the blocks that are its own. -/
inductive MW (w : World) (q qr u : Nat) (V : Nat → Value) : PM → List Nat → Prop
  | idle (h1 : V u = .pointer none) (h2 : V (4 + u) = .pointer none) (h3 : V (8 + u) = .pointer none) : MW w q qr u V .idle []
  | en {b rb : Nat} {e : En} (h1 : V u = ptr b) (h2 : V (4 + u) = .pointer none) (h3 : V (8 + u) = .pointer none) (h4 : V (12 + u) = ptr rb) (P : EnM w b q u e) (R : REnM w rb qr u e) : MW w q qr u V (.en e) [b, rb]
  | le {b rb : Nat} {d : Bool} (h1 : V u = .pointer none) (h2 : V (4 + u) = ptr b) (h3 : V (8 + u) = .pointer none) (h4 : V (16 + u) = ptr rb) (P : LeM w b q u d) (R : RLeM w rb qr u d) : MW w q qr u V (.le d) [b, rb]
  | ad {b rb : Nat} {a : Ad} (h1 : V u = .pointer none) (h2 : V (4 + u) = .pointer none) (h3 : V (8 + u) = ptr b) (h4 : V (20 + u) = ptr rb) (P : AdM w b q 4 a) (R : RAdM w rb qr 4 a) : MW w q qr u V (.ad a) [b, rb]
/-- It goes on. -/
def PM.live : PM → Prop
  | .idle => True
  | .en e => e.i < 2
  | .le d => d = false
  | .ad a => a.fin = false
structure Play (W w : World) (p g q pr gr qr bH B C D : Nat) (m : Nat → PM) (V : Nat → Value) (o : Nat → List Nat) (xs : List Int) (c : Int) : Prop where
  sit : Sit W w p g q 4 xs c
  rsit : RSit W w pr gr qr 4 xs c
  arr : Whole w bH 54 (row24 V)
  mw : ∀ u, u < 4 → MW w q qr u V (m u) (o u)
  lo : ∀ u, u < 4 → ∀ k ∈ o u, D ≤ k ∧ k < w.heap.size
  dj : ∀ u v, u < 4 → v < 4 → u ≠ v → ∀ k ∈ o u, k ∉ o v
  ord : (p < B ∧ g < B ∧ q < B) ∧ (B ≤ pr ∧ B ≤ gr ∧ B ≤ qr) ∧ (pr < C ∧ gr < C ∧ qr < C) ∧ C ≤ bH ∧ bH < D ∧ D ≤ w.heap.size
section
variable {W w w1 w2 w' : World} {p g q pr gr qr bH B C D u b rb : Nat} {m : Nat → PM} {V V' : Nat → Value} {o : Nat → List Nat} {xs xs' : List Int} {c c' : Int} {M : PM}
theorem MW.else {l x : List Nat} (h : MW w q qr u V M l) (U : Else x w w') (hx : ∀ k ∈ l, k ∉ x) : MW w' q qr u V M l := by
  cases h with
  | idle h1 h2 h3 => exact .idle h1 h2 h3
  | en h1 h2 h3 h4 P R => exact .en h1 h2 h3 h4 (P.else U (hx _ (by simp))) (R.else U (hx _ (by simp)))
  | le h1 h2 h3 h4 P R => exact .le h1 h2 h3 h4 (P.else U (hx _ (by simp))) (R.else U (hx _ (by simp)))
  | ad h1 h2 h3 h4 P R => exact .ad h1 h2 h3 h4 (P.else U (hx _ (by simp))) (R.else U (hx _ (by simp)))
theorem MW.congr {l : List Nat} (h : MW w q qr u V M l) (e : ∀ k, k % 4 = u → V' k = V k) (hu : u < 4) : MW w q qr u V' M l := by
  have e0 := e u (by omega)
  have e1 := e (4 + u) (by omega)
  have e2 := e (8 + u) (by omega)
  have e3 := e (12 + u) (by omega)
  have e4 := e (16 + u) (by omega)
  have e5 := e (20 + u) (by omega)
  cases h with
  | idle h1 h2 h3 => exact .idle (e0.trans h1) (e1.trans h2) (e2.trans h3)
  | en h1 h2 h3 h4 P R => exact .en (e0.trans h1) (e1.trans h2) (e2.trans h3) (e3.trans h4) P R
  | le h1 h2 h3 h4 P R => exact .le (e0.trans h1) (e1.trans h2) (e2.trans h3) (e4.trans h4) P R
  | ad h1 h2 h3 h4 P R => exact .ad (e0.trans h1) (e1.trans h2) (e2.trans h3) (e5.trans h4) P R
theorem Play.up (X : Play W w p g q pr gr qr bH B C D m V o xs c) (U : Up w w') : Play W w' p g q pr gr qr bH B C D m V o xs c :=
  ⟨X.sit.ups U, X.rsit.ups U, X.arr.up U, fun u hu => (X.mw u hu).else (x := []) (Else.of_up U) (by simp), fun u hu k hk => ⟨(X.lo u hu k hk).1, Nat.lt_of_lt_of_le (X.lo u hu k hk).2 U.size⟩, X.dj, by have := X.ord; have := U.size; omega⟩
/-- One of them has gone on: whatever has turned is his, the memories', the table's. -/
theorem Play.turn (X : Play W w p g q pr gr qr bH B C D m V o xs c) (hu : u < 4) {x : List Nat} (U : Else x w w') (hx : ∀ k ∈ x, k ∈ o u ∨ k = p ∨ k = g ∨ k = pr ∨ k = gr ∨ k = bH)
    (S : Sit W w' p g q 4 xs' c') (R : RSit W w' pr gr qr 4 xs' c') (A : Whole w' bH 54 (row24 V')) (hV : ∀ k, k % 4 ≠ u → V' k = V k) {M' : PM} {o' : List Nat} (H : MW w' q qr u V' M' o') (ho : ∀ k ∈ o', D ≤ k ∧ k < w'.heap.size ∧ (k ∈ o u ∨ w.heap.size ≤ k)) :
    Play W w' p g q pr gr qr bH B C D (updA m u M') V' (updA o u o') xs' c' := by
  have hord := X.ord
  have key : ∀ v, v < 4 → v ≠ u → ∀ k ∈ o v, k ∉ x := fun v hv hne k hk hkx => by
    have h1 := (X.lo v hv k hk).1
    rcases hx k hkx with h | h
    · exact X.dj v u hv hu hne k hk h
    · omega
  refine ⟨S, R, A, fun v hv => ?_, fun v hv k hk => ?_, fun v v' hv hv' hne k hk hk' => ?_, by have := U.size; omega⟩
  · by_cases e : v = u
    · subst e; rw [updA_same, updA_same]; exact H
    · rw [updA_ne _ _ e, updA_ne _ _ e]
      exact ((X.mw v hv).else U (key v hv e)).congr (fun k hk => hV k (by omega)) hv
  · by_cases e : v = u
    · subst e; rw [updA_same] at hk; exact ⟨(ho k hk).1, (ho k hk).2.1⟩
    · rw [updA_ne _ _ e] at hk; exact ⟨(X.lo v hv k hk).1, Nat.lt_of_lt_of_le (X.lo v hv k hk).2 U.size⟩
  · by_cases e : v = u
    · subst e
      have e2 : v' ≠ v := Ne.symm hne
      rw [updA_same] at hk
      rw [updA_ne _ _ e2] at hk'
      rcases (ho k hk).2.2 with h | h
      · exact X.dj v v' hv hv' hne k h hk'
      · have := (X.lo v' hv' k hk').2; omega
    · rw [updA_ne _ _ e] at hk
      by_cases e2 : v' = u
      · subst e2
        rw [updA_same] at hk'
        rcases (ho k hk').2.2 with h | h
        · exact X.dj v v' hv hv' hne k hk h
        · have := (X.lo v hv k hk).2; omega
      · rw [updA_ne _ _ e2] at hk'
        exact X.dj v v' hv hv' hne k hk hk'
theorem Play.off (X : Play W w p g q pr gr qr bH B C D m V o xs c) (h : D ≤ b) : Off b p g q ∧ Off b pr gr qr ∧ W.heap.size ≤ b := by
  have := X.ord
  have := X.sit.lp
  exact ⟨⟨by omega, by omega, by omega⟩, ⟨by omega, by omega, by omega⟩, by omega⟩
theorem else_pair {b rb : Nat} (h1 : Else [b, p, g] w w1) (h2 : Else [rb, pr, gr] w1 w2) : Else [b, rb, p, g, pr, gr] w w2 :=
  (h1.more (by intro k hk; simp at hk ⊢; omega)).trans (h2.more (by intro k hk; simp at hk ⊢; omega))
/-- Both of one's machines have gone on. -/
theorem Play.both (X : Play W w p g q pr gr qr bH B C D m V o xs c) (hu : u < 4) (ho : o u = [b, rb]) {MP MR : World → Prop} (G : Went W w p g q 4 b xs' c' MP w1) (R : RWent W w1 pr gr qr 4 rb xs' c' MR w2) {M' : PM} (H : MW w2 q qr u V M' [b, rb]) :
    Play W w2 p g q pr gr qr bH B C D (updA m u M') V (updA o u [b, rb]) xs' c' ∧ Else [b, rb, p, g, pr, gr] w w2 := by
  have hord := X.ord
  have lb := X.lo u hu b (by rw [ho]; simp)
  have lr := X.lo u hu rb (by rw [ho]; simp)
  have s1 := G.rest.size
  have s2 := R.rest.size
  have hW := X.sit.lp
  have U := else_pair G.rest R.rest
  have hb : ∀ k ∈ [rb, pr, gr], W.heap.size ≤ k := by intro k hk; simp at hk; omega
  refine ⟨X.turn hu U (fun k hk => ?_) (G.sit.else R.rest hb ⟨by simp; omega, by simp; omega, by simp; omega⟩) R.sit (U.whole X.arr (by simp; omega)) (fun _ _ => rfl) H (fun k hk => ?_), U⟩
  · rw [ho]; simp at hk ⊢; omega
  · refine ⟨?_, ?_, .inl (by rw [ho]; exact hk)⟩
    · simp at hk; omega
    · simp at hk; omega
/-- One's machine is struck from the table. -/
theorem Play.strike (X : Play W w p g q pr gr qr bH B C D m V o xs c) (hu : u < 4) {k : Nat} (hk : k % 4 = u) (h0 : k = u ∨ V u = .pointer none) (h1 : k = 4 + u ∨ V (4 + u) = .pointer none) (h2 : k = 8 + u ∨ V (8 + u) = .pointer none) :
    Play W (w.setCell ⟨bH, k, none⟩ (.pointer none)) p g q pr gr qr bH B C D (updA m u .idle) (updA V k (.pointer none)) (updA o u []) xs c := by
  have hord := X.ord
  have hW := X.sit.lp
  have U : Else [bH] w (w.setCell ⟨bH, k, none⟩ (.pointer none)) := (Else.refl [bH] w).set (.inl (by simp)) _
  refine X.turn hu U (fun j hj => by simp at hj; simp [hj]) (X.sit.else U (by simp; omega) ⟨by simp; omega, by simp; omega, by simp; omega⟩) (X.rsit.else U ⟨by simp; omega, by simp; omega, by simp; omega⟩) (by have := X.arr.set k (.pointer none); rw [row24_set] at this; exact this) (fun j hj => updA_ne _ _ (fun e => hj (by rw [e]; exact hk))) (.idle ?_ ?_ ?_) (by simp)
  · rcases h0 with h | h
    · rw [h, updA_same]
    · by_cases e : u = k
      · rw [e, updA_same]
      · rw [updA_ne _ _ e]; exact h
  · rcases h1 with h | h
    · rw [h, updA_same]
    · by_cases e : 4 + u = k
      · rw [e, updA_same]
      · rw [updA_ne _ _ e]; exact h
  · rcases h2 with h | h
    · rw [h, updA_same]
    · by_cases e : 8 + u = k
      · rw [e, updA_same]
      · rw [updA_ne _ _ e]; exact h
end
/-- What is left behind a call: all of them, each one going on. -/
def PlayOut (W : World) (p g q pr gr qr bH B C D : Nat) (w' : World) : Prop :=
  ∃ m V o xs c, Play W w' p g q pr gr qr bH B C D m V o xs c ∧ ∀ u, u < 4 → (m u).live
theorem live_upd {m : Nat → PM} {u : Nat} {M : PM} (h : ∀ v, v < 4 → (m v).live) (hM : M.live) : ∀ v, v < 4 → (updA m u M v).live := by
  intro v hv
  by_cases e : v = u
  · subst e; rw [updA_same]; exact hM
  · rw [updA_ne _ _ e]; exact h v hv
theorem updA_updA {α : Type} (f : Nat → α) (u : Nat) (x y : α) : updA (updA f u x) u y = updA f u y := by
  funext k
  unfold updA
  split <;> rfl
end Go.Proofs.Ytngaokhlcdlpfaa
