/-
  Texts beneath RootsPlay, part 31: RtBegin, IntCut, RtNums, RtBegins1.
-/
import Derived.Test.YtalglhgngedjoaaGreatPart30
/-
  RootsPlay: two machines more in the table; one's slots anew.
-/
namespace Go.Proofs.YtalglhgngedjoaaGreat
open Go.RowKit
open W64
set_option maxRecDepth 100000
section
variable {W w w1 w2 w3 w6 w7 w' : World} {l : Lie} {n bH D T T' u k k1 k2 b rb pb rpb : Nat} {m : Nat → PM} {V V' : Nat → Value} {o L : Nat → List Nat} {s s' : St} {M : PM} {xs : List Int}
theorem Play.idle_own (X : Play W w l n bH D T m V o L s) (hu : u < 4) (em : m u = .idle) : o u = [] ∧ V u = .pointer none ∧ V (4 + u) = .pointer none ∧ V (8 + u) = .pointer none ∧ V (12 + u) = .pointer none := by
  have hmw := X.mw u hu
  rw [em] at hmw
  generalize o u = ol at hmw
  cases hmw with
  | idle h0 h1 h2 h3 => exact ⟨rfl, h0, h1, h2, h3⟩
/-- Whoever had none has a machine. -/
theorem Play.beginG (X : Play W w l n bH D T m V o L s) (hu : u < 4) (_em : m u = .idle) (E : Else [bH] w w') (A : Whole w' bH 51 (row36 V')) (hV : ∀ k, k % 4 ≠ u → V' k = V k) (h32 : V' (32 + u) = V (32 + u)) {M' : PM} {o' : List Nat} (H : MW w' l n u V' M' o') (hn : ∀ k ∈ o', w.heap.size ≤ k ∧ k < w'.heap.size) :
    Play W w' l n bH D (T + 1) (updA m u M') V' (updA o u o') L s := by
  have hord := X.ord
  have key := X.put hu (L' := L u) E A hV H (by
    rw [h32]
    exact (X.sl u hu).else E (fun j hj he => by
      have := (X.lo u hu j (List.mem_append_right _ (by simp [he]))).1
      simp at hj; omega)) (X.ls u hu) (Nat.le_succ_of_le (X.ll u hu)) (fun j hj => by
    rw [h32] at hj
    rcases List.mem_append.1 hj with h | h
    · exact ⟨(hn j h).2, .inr (hn j h).1⟩
    · exact ⟨by have := (X.lo u hu j (List.mem_append_right _ h)).2; have := E.size; omega, .inl (List.mem_append_right _ h)⟩) (fun j hj hm => by
    rw [h32] at hj
    have := (X.lo u hu j (List.mem_append_right _ (by simp [hj]))).2
    have := (hn j hm).1
    omega)
  rw [updA_id] at key
  exact key
/-- The world behind two stores into the table. -/
abbrev st2 (w : World) (bH k1 k2 : Nat) (x y : Value) : World := (w.setCell ⟨bH, k1, none⟩ x).setCell ⟨bH, k2, none⟩ y
theorem Play.st2_ok (X : Play W w l n bH D T m V o L s) (U : Up w w2) (h1 : k1 < 36) (h2 : k2 < 36) (x y : Value) :
    (w2.cell? ⟨bH, k1, none⟩ = some (V k1) ∧ w2.frozen? ⟨bH, k1, none⟩ = false ∧ (w2.setCell ⟨bH, k1, none⟩ x).cell? ⟨bH, k2, none⟩ = some (updA V k1 x k2) ∧ (w2.setCell ⟨bH, k1, none⟩ x).frozen? ⟨bH, k2, none⟩ = false) ∧
      Else [bH] w (st2 w2 bH k1 k2 x y) ∧ Else [bH] w2 (st2 w2 bH k1 k2 x y) ∧ Whole (st2 w2 bH k1 k2 x y) bH 51 (row36 (updA (updA V k1 x) k2 y)) := by
  have A := X.arr.up U
  have A2 := A.set k1 x
  rw [row36_set] at A2
  have A3 := A2.set k2 y
  rw [row36_set] at A3
  exact ⟨⟨tab_cell A h1 rfl, A.frozen k1, tab_cell A2 h2 rfl, A2.frozen k2⟩, ((Else.of_up (s := [bH]) U).set (.inl (by simp)) _).set (.inl (by simp)) _, ((Else.refl [bH] w2).set (.inl (by simp)) _).set (.inl (by simp)) _, A3⟩
theorem Play.nbh (X : Play W w l n bH D T m V o L s) {k : Nat} (h : w.heap.size ≤ k) : k ∉ [bH] := by have := X.ord; simp; omega
/-- What is told behind the two stores: the pointer, and what is left. -/
structure Begun (W : World) (l : Lie) (n bH D T k b : Nat) (P : World → Prop) (w' : World) : Prop where
  out : PlayOut W l n bH D (T + 3) w'
  cell : w'.cell? ⟨bH, k, none⟩ = some (.pointer (some ⟨b, 0, none⟩))
  mach : P w'
theorem Play.beginCr (X : Play W w l n bH D T m V o L s) (Y : ∀ v, v < 4 → (m v).live n T) (hu : u < 4) (em : m u = .idle) (U : Up w w2) {c : Int} (P : CrM w2 b pb l.q l.qs n (.slice none 0 0) (Cr.new c)) (R : RCrM w2 rb rpb l.k l.qr n (.slice none 0 0) (Cr.new c)) (hb : w.heap.size ≤ b ∧ w.heap.size ≤ pb ∧ w.heap.size ≤ rb ∧ w.heap.size ≤ rpb) :
    (w2.cell? ⟨bH, u, none⟩ = some (V u) ∧ w2.frozen? ⟨bH, u, none⟩ = false ∧ (w2.setCell ⟨bH, u, none⟩ (ptr b)).cell? ⟨bH, 16 + u, none⟩ = some (V (16 + u)) ∧ (w2.setCell ⟨bH, u, none⟩ (ptr b)).frozen? ⟨bH, 16 + u, none⟩ = false) ∧
      Begun W l n bH D T u b (fun w' => CrM w' b pb l.q l.qs n (.slice none 0 0) (Cr.new c)) (st2 w2 bH u (16 + u) (ptr b) (ptr rb)) := by
  obtain ⟨⟨c1, c2, c3, c4⟩, E, E2, A⟩ := X.st2_ok U (k1 := u) (k2 := 16 + u) (by omega) (by omega) (ptr b) (ptr rb)
  rw [updA_ne _ _ (by omega)] at c3
  obtain ⟨_, e0, e1, e2, e3⟩ := X.idle_own hu em
  have P' : CrM (st2 w2 bH u (16 + u) (ptr b) (ptr rb)) b pb l.q l.qs n (.slice none 0 0) (Cr.new c) := P.else E2 (X.nbh hb.1) (X.nbh hb.2.1) (fun j hj he => by simp [Value.ownBlock] at he)
  have R' : RCrM (st2 w2 bH u (16 + u) (ptr b) (ptr rb)) rb rpb l.k l.qr n (.slice none 0 0) (Cr.new c) := ⟨E2.whole R.row (X.nbh hb.2.2.1), R.pop.else E2 (X.nbh hb.2.2.2) (fun j hj he => by simp [Value.ownBlock] at he), R.ok⟩
  have ev : ∀ j, j ≠ u → j ≠ 16 + u → updA (updA V u (ptr b)) (16 + u) (ptr rb) j = V j := fun j h1 h2 => by rw [updA_ne _ _ h2, updA_ne _ _ h1]
  have eu : updA (updA V u (ptr b)) (16 + u) (ptr rb) u = ptr b := by rw [updA_ne _ _ (by omega), updA_same]
  have Z := X.beginG hu em E A (fun j hj => ev j (by omega) (by omega)) (ev _ (by omega) (by omega)) (M' := .cr (Cr.new c)) (o' := (b :: pb :: (Value.slice none 0 0).ownBlock.toList) ++ (rb :: rpb :: (Value.slice none 0 0).ownBlock.toList)) (.cr eu ((ev _ (by omega) (by omega)).trans e1) ((ev _ (by omega) (by omega)).trans e2) ((ev _ (by omega) (by omega)).trans e3) (updA_same _ _ _) P' R' (fun j hj => by simp [Value.ownBlock] at hj)) (fun j hj => by
    have q1 := P'.row.lt
    have q2 := P'.pop.at_.top.lt
    have q3 := R'.row.lt
    have q4 := R'.pop.at_.top.lt
    simp [Value.ownBlock] at hj
    rcases hj with h | h | h | h <;> subst h <;> omega)
  exact ⟨⟨c1, c2, c3, c4⟩, ⟨_, _, _, _, _, Z.more (by omega), live_upd Y (by omega) ⟨rfl, Nat.zero_le _⟩⟩, tab_cell A (by omega) eu, P'⟩
theorem Play.beginEd (X : Play W w l n bH D T m V o L s) (Y : ∀ v, v < 4 → (m v).live n T) (hu : u < 4) (em : m u = .idle) (U : Up w w2) {K : Ed} (hK : K.fin = false ∧ K.slot < n ∧ K.steps ≤ T) (P : EdM w2 b l.q 4 K) (R : REdM w2 rb l.k K) (hb : w.heap.size ≤ b ∧ w.heap.size ≤ rb) :
    (w2.cell? ⟨bH, 4 + u, none⟩ = some (V (4 + u)) ∧ w2.frozen? ⟨bH, 4 + u, none⟩ = false ∧ (w2.setCell ⟨bH, 4 + u, none⟩ (ptr b)).cell? ⟨bH, 20 + u, none⟩ = some (V (20 + u)) ∧ (w2.setCell ⟨bH, 4 + u, none⟩ (ptr b)).frozen? ⟨bH, 20 + u, none⟩ = false) ∧
      Begun W l n bH D T (4 + u) b (fun w' => EdM w' b l.q 4 K) (st2 w2 bH (4 + u) (20 + u) (ptr b) (ptr rb)) := by
  obtain ⟨⟨c1, c2, c3, c4⟩, E, E2, A⟩ := X.st2_ok U (k1 := 4 + u) (k2 := 20 + u) (by omega) (by omega) (ptr b) (ptr rb)
  rw [updA_ne _ _ (by omega)] at c3
  obtain ⟨_, e0, e1, e2, e3⟩ := X.idle_own hu em
  have P' : EdM (st2 w2 bH (4 + u) (20 + u) (ptr b) (ptr rb)) b l.q 4 K := P.else E2 (X.nbh hb.1)
  have R' : REdM (st2 w2 bH (4 + u) (20 + u) (ptr b) (ptr rb)) rb l.k K := ⟨E2.whole R.row (X.nbh hb.2), R.o0, R.o1⟩
  have ev : ∀ j, j ≠ 4 + u → j ≠ 20 + u → updA (updA V (4 + u) (ptr b)) (20 + u) (ptr rb) j = V j := fun j h1 h2 => by rw [updA_ne _ _ h2, updA_ne _ _ h1]
  have eu : updA (updA V (4 + u) (ptr b)) (20 + u) (ptr rb) (4 + u) = ptr b := by rw [updA_ne _ _ (by omega), updA_same]
  have Z := X.beginG hu em E A (fun j hj => ev j (by omega) (by omega)) (ev _ (by omega) (by omega)) (M' := .ed K) (o' := [b] ++ [rb]) (.ed ((ev _ (by omega) (by omega)).trans e0) eu ((ev _ (by omega) (by omega)).trans e2) ((ev _ (by omega) (by omega)).trans e3) (updA_same _ _ _) P' R') (fun j hj => by
    have q1 := P'.row.lt
    have q3 := R'.row.lt
    simp at hj
    rcases hj with h | h <;> subst h <;> omega)
  exact ⟨⟨c1, c2, c3, c4⟩, ⟨_, _, _, _, _, Z.more (by omega), live_upd Y (by omega) ⟨hK.1, hK.2.1, by omega⟩⟩, tab_cell A (by omega) eu, P'⟩
theorem Play.beginPu (X : Play W w l n bH D T m V o L s) (Y : ∀ v, v < 4 → (m v).live n T) (hu : u < 4) (em : m u = .idle) (U : Up w w2) {K : Pu} (hK : K.fin = false) {v rv : Value} (P : PuM w2 b l.qs n v K) (R : RPuM w2 rb l.qr n rv K) (hb : w.heap.size ≤ b ∧ w.heap.size ≤ rb) (hv : Fresh w v) (hrv : Fresh w rv) (ap : Apart2 v rv) :
    (w2.cell? ⟨bH, 12 + u, none⟩ = some (V (12 + u)) ∧ w2.frozen? ⟨bH, 12 + u, none⟩ = false ∧ (w2.setCell ⟨bH, 12 + u, none⟩ (ptr b)).cell? ⟨bH, 28 + u, none⟩ = some (V (28 + u)) ∧ (w2.setCell ⟨bH, 12 + u, none⟩ (ptr b)).frozen? ⟨bH, 28 + u, none⟩ = false) ∧
      Begun W l n bH D T (12 + u) b (fun w' => PuM w' b l.qs n v K) (st2 w2 bH (12 + u) (28 + u) (ptr b) (ptr rb)) := by
  obtain ⟨⟨c1, c2, c3, c4⟩, E, E2, A⟩ := X.st2_ok U (k1 := 12 + u) (k2 := 28 + u) (by omega) (by omega) (ptr b) (ptr rb)
  rw [updA_ne _ _ (by omega)] at c3
  obtain ⟨_, e0, e1, e2, e3⟩ := X.idle_own hu em
  have P' : PuM (st2 w2 bH (12 + u) (28 + u) (ptr b) (ptr rb)) b l.qs n v K := P.else E2 (X.nbh hb.1) (fun j hj he => X.nbh (hv j he) hj)
  have R' : RPuM (st2 w2 bH (12 + u) (28 + u) (ptr b) (ptr rb)) rb l.qr n rv K := R.else E2 (X.nbh hb.2) (fun j hj he => X.nbh (hrv j he) hj)
  have ev : ∀ j, j ≠ 12 + u → j ≠ 28 + u → updA (updA V (12 + u) (ptr b)) (28 + u) (ptr rb) j = V j := fun j h1 h2 => by rw [updA_ne _ _ h2, updA_ne _ _ h1]
  have eu : updA (updA V (12 + u) (ptr b)) (28 + u) (ptr rb) (12 + u) = ptr b := by rw [updA_ne _ _ (by omega), updA_same]
  have Z := X.beginG hu em E A (fun j hj => ev j (by omega) (by omega)) (ev _ (by omega) (by omega)) (M' := .pu K) (o' := (b :: v.ownBlock.toList) ++ (rb :: rv.ownBlock.toList)) (.pu ((ev _ (by omega) (by omega)).trans e0) ((ev _ (by omega) (by omega)).trans e1) ((ev _ (by omega) (by omega)).trans e2) eu (updA_same _ _ _) P' R' ap) (fun j hj => by
    have q1 := P'.at_.top.lt
    have q3 := R'.at_.top.lt
    simp at hj
    rcases hj with h | h | h | h
    · subst h; omega
    · exact ⟨hv j h, P'.at_.row.lt h⟩
    · subst h; omega
    · exact ⟨hrv j h, R'.at_.row.lt h⟩)
  exact ⟨⟨c1, c2, c3, c4⟩, ⟨_, _, _, _, _, Z.more (by omega), live_upd Y (by omega) hK⟩, tab_cell A (by omega) eu, P'⟩
/-- One's slots, anew. -/
theorem Play.tail (X : Play W w l n bH D T m V o L s) (hu : u < 4) (U : Up w w6) {v7 : Value} {L' : List Nat} (J7 : Ints w7 v7 (I L')) (G7 : w6.grownBy w7 (Value.slice none 0 0).ownBlock) (A7 : v7.ownBlock = (Value.slice none 0 0).ownBlock ∨ v7.ownBlock = some w6.heap.size) (hl1 : ∀ x ∈ L', x < n) (hl2 : L'.length ≤ T + 1) :
    (w7.cell? ⟨bH, 32 + u, none⟩ = some (V (32 + u)) ∧ w7.frozen? ⟨bH, 32 + u, none⟩ = false) ∧ Play W (w7.setCell ⟨bH, 32 + u, none⟩ v7) l n bH D (T + 1) m (updA V (32 + u) v7) o (updA L u L') s := by
  have hord := X.ord
  have E7 : Else [] w w7 := (Else.of_up U).trans ((Else.of_grow G7).more (fun k hk => by simp [Value.ownBlock] at hk))
  have A : Whole w7 bH 51 (row36 V) := E7.whole X.arr (by simp)
  have E8 : Else [bH] w (w7.setCell ⟨bH, 32 + u, none⟩ v7) := (E7.more (by simp)).set (.inl (by simp)) _
  have B := A.set (32 + u) v7
  rw [row36_set] at B
  have z6 := U.size
  have z7 := E7.size
  have hz : (w7.setCell ⟨bH, 32 + u, none⟩ v7).heap.size = w7.heap.size := by simp
  have e32 : updA V (32 + u) v7 (32 + u) = v7 := updA_same _ _ _
  have nb := J7.nb A (by decide)
  have new : ∀ k, v7.ownBlock = some k → w.heap.size ≤ k := fun k hk => by
    rcases A7 with a | a
    · rw [a] at hk; simp [Value.ownBlock] at hk
    · rw [a] at hk; injection hk with hk; omega
  refine ⟨⟨tab_cell A (by omega) rfl, A.frozen _⟩, ?_⟩
  have key := X.put hu (V' := updA V (32 + u) v7) (M' := m u) (o' := o u) (L' := L') E8 B (fun k hk => updA_ne _ _ (by omega)) (((X.mw u hu).else E8 (fun k hk hm => by have := (X.hi hu hk).1; simp at hm; omega)).congr32 (fun k hk => updA_ne _ _ (by omega)) hu) (by
    rw [e32]
    exact J7.else (l := [bH]) ((Else.refl [bH] w7).set (p := ⟨bH, 32 + u, none⟩) (.inl (by simp)) v7) (fun j hj he => by simp at hj; exact nb (hj ▸ he))) hl1 hl2 (fun k hk => by
    rw [e32] at hk
    rcases List.mem_append.1 hk with h | h
    · exact ⟨by have := (X.hi hu h).2; omega, .inl (List.mem_append_left _ h)⟩
    · have h' : v7.ownBlock = some k := by simpa using h
      exact ⟨by have := J7.lt h'; omega, .inr (new k h')⟩) (fun k hk hko => by
    rw [e32] at hk
    have := new k hk
    have := (X.hi hu hko).2
    omega)
  rw [updA_id, updA_id] at key
  exact key
/-! ### The document's root, whatever it tells -/
theorem Play.root (X : Play W w l n bH D T m V o L s) {sl : Nat} (hs : sl < n) :
    Calls Tryz.prog 89 #[.pointer (some ⟨l.k, 0, none⟩), .int .i64 (sl : Int)] w fun e w' => ∃ g mm cc oo : Int, e = .returned (.agg #[.int .i64 g, .int .i64 mm, .int .i64 cc, .int .i64 oo]) ∧ Up w w' := by
  refine (rrootW X.rw_ hs).mono ?_
  rintro e w' ⟨rfl, U⟩
  exact ⟨_, _, _, _, rfl, U⟩
end
end Go.Proofs.YtalglhgngedjoaaGreat

/-
  s[:c], s[c:], s[:c:c] of ints. (Layers without a stack; the stack's texts have the first two in Cuts.)
-/
namespace Go.Proofs.YtalglhgngedjoaaGreat
open Go.RowKit
set_option maxRecDepth 100000
section
variable {w w1 w' : World} {v v2 : Value} {xs ys : List Int}
def cutLo (A : Option Addr) (c len cap : Nat) : Value := sliced A c len cap 1
theorem elem_ints : Tryz.prog.elem 22 = 3 := by kernel_rfl
theorem size_int (w : World) : (sizeOf 3).run Tryz.prog w = .ok 1 w := by
  obtain ⟨i9, hi, hz0, hz1, hz2⟩ := info_parts info_int
  simp [sizeOf, typeInfo, hi, hz1]
theorem sliced_zero (A : Option Addr) (c m : Nat) : sliced A 0 c m 1 = .slice A c m := by
  unfold sliced
  cases A <;> simp [Addr.add]
theorem run_cutHi (A : Option Addr) (len cap c : Nat) (h : c ≤ cap) (w : World) : (Instr.slice 22 (.slice A len cap) none (some (.int .i64 (c : Int))) none).run Tryz.prog w = .ok (.slice A c cap) w := by
  rw [run_slice_h w 22 A len cap (by rw [elem_ints]; exact Tryz.underlying22) .i64 c (by omega) (by omega), elem_ints, size_int, ← sliced_zero A c cap]
  rfl
theorem run_cutHiM (A : Option Addr) (len cap c : Nat) (h : c ≤ cap) (w : World) : (Instr.slice 22 (.slice A len cap) none (some (.int .i64 (c : Int))) (some (.int .i64 (c : Int)))).run Tryz.prog w = .ok (.slice A c c) w := by
  rw [run_slice_hm w 22 A len cap (by rw [elem_ints]; exact Tryz.underlying22) .i64 .i64 c c (by omega) (by omega) (by omega), elem_ints, size_int, ← sliced_zero A c c]
  rfl
theorem run_cutLo (A : Option Addr) (len cap c : Nat) (h : c ≤ len) (w : World) : (Instr.slice 22 (.slice A len cap) (some (.int .i64 (c : Int))) none none).run Tryz.prog w = .ok (cutLo A c len cap) w := by
  rw [run_slice_l w 22 A len cap (by rw [elem_ints]; exact Tryz.underlying22) .i64 c (by omega) (by omega), elem_ints, size_int]
  rfl
theorem add_at (g off c : Nat) : (⟨g, off, none⟩ : Addr).add c = ⟨g, off + c, none⟩ := by
  unfold Addr.add; split
  · subst_vars; rfl
  · rfl
theorem cutHi_rd {A : Option Addr} {n cap c cap2 : Nat} (R : Rd w (.slice A n cap) xs) (h : c ≤ xs.length) : Rd w (.slice A c cap2) (xs.take c) := by
  have hl : (xs.take c).length = c := by simp; omega
  refine ⟨A, cap2, ?_, ?_, fun j hj => ?_⟩
  · rw [hl]
  · have := R.len; omega
  · rw [hl] at hj
    obtain ⟨g, off, rfl, hc⟩ := R.cell (j := j) (by omega)
    refine ⟨g, off, rfl, ?_⟩
    rw [hc]; simp [List.getD, hj]
theorem cutHi_ints {A : Option Addr} {n cap c : Nat} (J : Ints w (.slice A n cap) xs) (h : c ≤ xs.length) : Ints w (.slice A c cap) (xs.take c) := by
  have hl : (xs.take c).length = c := by simp; omega
  have hmap : (xs.take c).map (Value.int .i64) = (xs.map (Value.int .i64)).take c := by simp
  refine ⟨by simp, ?_⟩
  rcases J.2 with ⟨e, h0⟩ | ⟨g, cp, cur, e, hb, hh, hn, hm, hs, ht⟩
  · injection e with e1 e2 e3
    subst e1 e3
    left
    have : c = 0 := by omega
    subst this
    exact ⟨rfl, hl⟩
  · injection e with e1 e2 e3
    subst e1 e3
    right
    refine ⟨g, cap, cur, by rw [hl], hb, hh, by rw [hl]; omega, hm, hs, ?_⟩
    rw [hl, hmap, ← ht, List.take_take]
    congr 1
    omega
theorem cutLo_rd {A : Option Addr} {n cap c : Nat} (R : Rd w (.slice A n cap) xs) (h : c ≤ xs.length) (hcap : n ≤ cap) : Rd w (cutLo A c n cap) (xs.drop c) := by
  obtain ⟨A', cap', e, hm, _⟩ := id R
  injection e with e1 e2 e3
  subst e1 e2 e3
  have hl : (xs.drop c).length = xs.length - c := by simp
  refine ⟨if cap = c then A else A.map (·.add (c * 1)), cap - c, ?_, ?_, fun j hj => ?_⟩
  · rw [hl]; rfl
  · rw [hl]; omega
  · rw [hl] at hj
    obtain ⟨g, off, rfl, hc⟩ := R.cell (j := c + j) (by omega)
    refine ⟨g, off + c, ?_, ?_⟩
    · rw [if_neg (by omega), Nat.mul_one, Option.map_some, add_at]
    · rw [Nat.add_assoc, hc]; simp [List.getD]
theorem cutHi_own (A : Option Addr) (c c2 len cap : Nat) : (Value.slice A c c2).ownBlock = (Value.slice A len cap).ownBlock := by cases A <;> rfl
theorem cutLo_own (A : Option Addr) (c len cap : Nat) : (cutLo A c len cap).ownBlock = (Value.slice A len cap).ownBlock := by
  unfold cutLo sliced
  by_cases h : cap = c
  · rw [if_pos h]; cases A <;> rfl
  · rw [if_neg h]
    cases A with
    | none => rfl
    | some a =>
      simp only [Option.map_some, Value.ownBlock, Option.some.injEq]
      unfold Addr.add; split <;> rfl
theorem cutLo_is (A : Option Addr) (c len cap : Nat) : ∃ A', cutLo A c len cap = .slice A' (len - c) (cap - c) := ⟨_, rfl⟩
theorem Ints.cap {A : Option Addr} {n cap : Nat} (h : Ints w (.slice A n cap) xs) : n ≤ cap := by
  rcases h.2 with ⟨e, _⟩ | ⟨g, c, cur, e, _, _, hn, _⟩
  · injection e with e1 e2 e3; omega
  · injection e with e1 e2 e3; omega
end
end Go.Proofs.YtalglhgngedjoaaGreat

/-
  RootsPlay: what a number says of the machine to begin; a Look in the table.
-/
namespace Go.Proofs.YtalglhgngedjoaaGreat
open Go.RowKit
open W64
set_option maxRecDepth 100000
theorem run_rfield (a m c o : Int) (w : World) : (Instr.field 96 (.agg #[.int .i64 a, .int .i64 m, .int .i64 c, .int .i64 o]) 0).run Tryz.prog w = .ok (.int .i64 a) w := by rfl
def slotZ (z : Int) : Nat := (z.tdiv 5 % 4).toNat
theorem nums (z : Int) (h0 : 0 ≤ z) (h1 : z < 240) : ∃ a c g6 r e : Int, z.tdiv 5 = a ∧ a.tmod 4 = (slotZ z : Int) ∧ z.tdiv 20 = c ∧ c.tmod 6 = g6 ∧ z.tmod 5 = r ∧ z.tmod 2 = e ∧ (0 ≤ a ∧ a < 48 ∧ 0 ≤ c ∧ c < 12 ∧ 0 ≤ g6 ∧ g6 < 6 ∧ 0 ≤ r ∧ r < 5 ∧ 0 ≤ e ∧ e < 2) := by
  have e5 : z.tdiv 5 = z / 5 := Int.tdiv_eq_ediv_of_nonneg h0
  have e20 : z.tdiv 20 = z / 20 := Int.tdiv_eq_ediv_of_nonneg h0
  have m6 : (z.tdiv 20).tmod 6 = z / 20 % 6 := by rw [e20]; exact Int.tmod_eq_emod_of_nonneg (by omega)
  have m4 : (z.tdiv 5).tmod 4 = z / 5 % 4 := by rw [e5]; exact Int.tmod_eq_emod_of_nonneg (by omega)
  have m5 : z.tmod 5 = z % 5 := Int.tmod_eq_emod_of_nonneg h0
  have m2 : z.tmod 2 = z % 2 := Int.tmod_eq_emod_of_nonneg h0
  refine ⟨_, _, _, _, _, rfl, ?_, rfl, rfl, rfl, rfl, ?_⟩
  · rw [m4]; unfold slotZ; rw [e5]; omega
  · rw [e5, m6, m5, m2, e20]; omega
theorem wr64 (x : Int) (h : -9223372036854775808 ≤ x ∧ x < 9223372036854775808) : IntKind.i64.wrap x = x ∧ wrap64 x = x := ⟨IntWalk.i64_in _ (by omega), wrap64_in h.1 h.2⟩
section
variable {W w w1 w2 w' : World} {l : Lie} {n bH D T T' u k k1 k2 b rb : Nat} {m : Nat → PM} {V V' : Nat → Value} {o L : Nat → List Nat} {s s' : St}
theorem PlayOut.more (H : PlayOut W l n bH D T w) (h : T ≤ T') : PlayOut W l n bH D T' w := by
  obtain ⟨m, V, o, L, s, X, Y⟩ := H
  exact ⟨m, V, o, L, s, X.more h, fun u hu => (Y u hu).mono h⟩
theorem PlayOut.of (X : Play W w l n bH D T m V o L s) (Y : ∀ v, v < 4 → (m v).live n T) (h : T ≤ T') : PlayOut W l n bH D T' w := ⟨m, V, o, L, s, X.more h, fun u hu => (Y u hu).mono h⟩
theorem Play.slots_cell (X : Play W w l n bH D T m V o L s) : w.cell? ⟨l.k, 3, none⟩ = some (.int .i64 (n : Int)) := X.rw_.obj.cell (i := 3) (v := .int .i64 (n : Int)) rfl
theorem Play.n_lt (X : Play W w l n bH D T m V o L s) : (n : Int) < 1000000000 := by
  obtain ⟨_, _, _, p4, _⟩ := mayB_iff.1 X.roo.may
  have : (n : Int) ≤ 4096 := p4.2
  omega
theorem Ints.first {A : Option Addr} {N c0 x : Nat} {tl : List Nat} (h : Ints w (.slice A N c0) (I (x :: tl))) : ∃ g, A = some ⟨g, 0, none⟩ ∧ w.cell? ⟨g, 0, none⟩ = some (.int .i64 (x : Int)) := by
  obtain ⟨A', c', e⟩ := h.slice
  injection e with e1 e2 e3
  subst e1 e2 e3
  obtain ⟨g, h1, h2⟩ := own_cell (j := 0) h (by simp [I])
  exact ⟨g, h1, by simpa [I] using h2⟩
/-- The world behind the two stores, and a box that the document's machine lies in. -/
abbrev two (w1 : World) (bH k1 k2 : Nat) (x y : Value) (O : Obj) : World := (((w1.setCell ⟨bH, k1, none⟩ x).setCell ⟨bH, k2, none⟩ y).alloc O).drew
abbrev lkObj (k sl : Nat) (gen : Int) : Obj := .cells #[.pointer (some ⟨k, 0, none⟩), .int .i64 (sl : Int), .int .i64 gen, .int .i64 0, .int .i64 0, .bool false] 102
theorem Play.beginLk (X : Play W w l n bH D T m V o L s) (Y : ∀ v, v < 4 → (m v).live n T) (hu : u < 4) (em : m u = .idle) (U : Up w w2) {sl : Nat} (hs : sl < n) {gen : Int} (P : LkM w2 b l.q 4 (Lk.new sl gen)) (hb : w.heap.size ≤ b) :
    ((w2.cell? ⟨bH, 8 + u, none⟩ = some (V (8 + u)) ∧ w2.frozen? ⟨bH, 8 + u, none⟩ = false ∧ (w2.setCell ⟨bH, 8 + u, none⟩ (.pointer (some ⟨b, 0, none⟩))).cell? ⟨bH, 24 + u, none⟩ = some (V (24 + u)) ∧ (w2.setCell ⟨bH, 8 + u, none⟩ (.pointer (some ⟨b, 0, none⟩))).frozen? ⟨bH, 24 + u, none⟩ = false) ∧
      ((w2.alloc (lkObj l.k sl gen)).drew.cell? ⟨bH, 8 + u, none⟩ = some (V (8 + u)) ∧ (w2.alloc (lkObj l.k sl gen)).drew.frozen? ⟨bH, 8 + u, none⟩ = false ∧ ((w2.setCell ⟨bH, 8 + u, none⟩ (.pointer (some ⟨b, 0, none⟩))).alloc (lkObj l.k sl gen)).drew.cell? ⟨bH, 24 + u, none⟩ = some (V (24 + u)) ∧ ((w2.setCell ⟨bH, 8 + u, none⟩ (.pointer (some ⟨b, 0, none⟩))).alloc (lkObj l.k sl gen)).drew.frozen? ⟨bH, 24 + u, none⟩ = false)) ∧
      Begun W l n bH D T (8 + u) b (fun w' => LkM w' b l.q 4 (Lk.new sl gen)) (two w2 bH (8 + u) (24 + u) (ptr b) (ptr w2.heap.size) (lkObj l.k sl gen)) := by
  have A0 := X.arr.up U
  have A2 := A0.set (8 + u) (ptr b)
  rw [row36_set] at A2
  have A3 := A2.set (24 + u) (ptr w2.heap.size)
  rw [row36_set] at A3
  have e24 : updA V (8 + u) (ptr b) (24 + u) = V (24 + u) := updA_ne _ _ (by omega)
  have B0 := (A0.alloc (lkObj l.k sl gen)).up (up_drew _)
  have B2 := (A2.alloc (lkObj l.k sl gen)).up (up_drew _)
  have B3 := (A3.alloc (lkObj l.k sl gen)).up (up_drew _)
  have hz : ((w2.setCell ⟨bH, 8 + u, none⟩ (ptr b)).setCell ⟨bH, 24 + u, none⟩ (ptr w2.heap.size)).heap.size = w2.heap.size := by simp
  have E : Else [bH] w (two w2 bH (8 + u) (24 + u) (ptr b) (ptr w2.heap.size) (lkObj l.k sl gen)) := (((((Else.of_up (s := [bH]) U).set (.inl (by simp)) _).set (.inl (by simp)) _).alloc _).drew)
  have E2 : Else [bH] w2 (two w2 bH (8 + u) (24 + u) (ptr b) (ptr w2.heap.size) (lkObj l.k sl gen)) := (((((Else.refl [bH] w2).set (.inl (by simp)) _).set (.inl (by simp)) _).alloc _).drew)
  obtain ⟨_, e0, e1, e2, e3⟩ := X.idle_own hu em
  have P' : LkM (two w2 bH (8 + u) (24 + u) (ptr b) (ptr w2.heap.size) (lkObj l.k sl gen)) b l.q 4 (Lk.new sl gen) := P.else E2 (X.nbh hb)
  have R' : RLkM (two w2 bH (8 + u) (24 + u) (ptr b) (ptr w2.heap.size) (lkObj l.k sl gen)) w2.heap.size l.k (Lk.new sl gen) := by
    have h := Whole.new ((w2.setCell ⟨bH, 8 + u, none⟩ (ptr b)).setCell ⟨bH, 24 + u, none⟩ (ptr w2.heap.size)) 102 #[.pointer (some ⟨l.k, 0, none⟩), .int .i64 (sl : Int), .int .i64 gen, .int .i64 0, .int .i64 0, .bool false]
    rw [hz] at h
    exact ⟨h.up (up_drew _)⟩
  have ev : ∀ j, j ≠ 8 + u → j ≠ 24 + u → updA (updA V (8 + u) (ptr b)) (24 + u) (ptr w2.heap.size) j = V j := fun j h1 h2 => by rw [updA_ne _ _ h2, updA_ne _ _ h1]
  have eu : updA (updA V (8 + u) (ptr b)) (24 + u) (ptr w2.heap.size) (8 + u) = ptr b := by rw [updA_ne _ _ (by omega), updA_same]
  have Z := X.beginG hu em E B3 (fun j hj => ev j (by omega) (by omega)) (ev _ (by omega) (by omega)) (M' := .lk (Lk.new sl gen)) (o' := [b] ++ [w2.heap.size]) (.lk ((ev _ (by omega) (by omega)).trans e0) ((ev _ (by omega) (by omega)).trans e1) eu ((ev _ (by omega) (by omega)).trans e3) (updA_same _ _ _) P' R') (fun j hj => by
    have q1 := P'.row.lt
    have q3 := R'.row.lt
    have := U.size
    simp at hj
    rcases hj with h | h <;> subst h <;> omega)
  refine ⟨⟨⟨tab_cell A0 (by omega) rfl, A0.frozen _, tab_cell A2 (by omega) e24, A2.frozen _⟩, ⟨tab_cell B0 (by omega) rfl, B0.frozen _, tab_cell B2 (by omega) e24, B2.frozen _⟩⟩, ⟨_, _, _, _, _, Z.more (by omega), live_upd Y (by omega) ⟨rfl, hs⟩⟩, tab_cell B3 (by omega) eu, P'⟩
end
end Go.Proofs.YtalglhgngedjoaaGreat

/-
  RootsPlay: a machine more (hands.begins): a Create.
-/
namespace Go.Proofs.YtalglhgngedjoaaGreat
open Go.RowKit
open W64
set_option maxRecDepth 100000
section
variable {W w w' : World} {l : Lie} {n bH D T u : Nat} {m : Nat → PM} {V : Nat → Value} {o L : Nat → List Nat} {s : St}
set_option maxHeartbeats 4000000 in
theorem begins_cr_root (X : Play W w l n bH D T m V o L s) (Y : ∀ u, u < 4 → (m u).live n T) (_hT : T ≤ 1000) (hu : u < 4) (em : m u = .idle) {z : Int} (z0 : 0 ≤ z) (z1 : z < 240) (pS : slotZ z < n) (pE : z.tmod 2 = 0) (hr : z.tmod 5 < 2) :
    Calls Tryz.prog 49 #[.pointer (some ⟨bH, 0, none⟩), .pointer (some ⟨l.q, 0, none⟩), .pointer (some ⟨l.k, 0, none⟩), .int .i64 (u : Int), .int .i64 z] w fun e w' => e = .returned (.bool true) ∧ PlayOut W l n bH D (T + 6) w' := by
  obtain ⟨a, c, g6, r, e2, ha, hsl, hc, hg6, hr5, he, bd⟩ := nums z z0 z1
  obtain ⟨sl, hsz⟩ : ∃ sl, slotZ z = sl := ⟨_, rfl⟩
  rw [hsz] at hsl pS
  rw [hr5] at hr
  rw [he] at pE
  clear hsz
  obtain ⟨gg, hgg⟩ : ∃ gg, 1 + g6 = gg := ⟨_, rfl⟩
  obtain ⟨wa1, wa2⟩ := wr64 a (by omega)
  obtain ⟨wc1, wc2⟩ := wr64 c (by omega)
  obtain ⟨wg1, wg2⟩ := wr64 gg (by omega)
  have HPS := Lib.hid pS
  have hn4 : (n : Int) < 1000000000 := X.n_lt
  have pS1 : (sl : Int) < (n : Int) := by omega
  have pS2 : ¬ (n : Int) ≤ (sl : Int) := by omega
  subst pE
  have j0 : (0 : Int) ≤ (u : Int) := Int.natCast_nonneg _
  have j1 : (u : Int) < 4 := by omega
  have k3 := X.slots_cell
  have HX := Lib.hid X
  have HY := Lib.hid Y
  have HEM := Lib.hid em
  have hr2 := hr
  clear X Y em z0 z1 pS bd hn4
  go_enter Tryz.func49, Tryz.ntmps49
  have hrf := run_rfield
  go_upto_region 4 with (go_at_call 89; (with_reducible refine (HX.out.root HPS.out).mono ?_); rintro ee w1 ⟨g9, mm, cc, oo, rfl, U1⟩; have HX1 := Lib.hid (HX.out.ups U1); clear U1)
  have k3b := HX1.out.slots_cell
  clear k3 hrf
  go_upto_region 5 with fail
  go_region_held3 (fun _ => True) (exact trivial)
    (first
      | (go_at_call 28; refine (crNew (HX1.out.ups (up_drew _)).roo _).mono ?_; rintro ee w2 ⟨b, pb, rfl, P2, b2, pb2, U2⟩)
      | (go_at_call 90; refine (rcrNew ((HX1.out.ups (up_drew _)).ups U2).rw_ _).mono ?_; rintro ee w3 ⟨rb, rpb, rfl, R3, rb3, rpb3, U3⟩; have QB := (HX1.out.ups (up_drew _)).beginCr HY.out hu HEM.out (U2.trans U3) (P2.up U3) R3 ⟨b2, pb2, Nat.le_trans U2.size rb3, Nat.le_trans U2.size rpb3⟩; have HQB := Lib.hid QB.2; obtain ⟨y1, g1, y2, g2⟩ := QB.1; clear QB))
  all_goals
    have yc := HQB.out.cell
    clear y1 g1 y2 g2 P2 R3
    go_wp2_with (go_at_call 31; refine (crDone HQB.out.mach (y := false) rfl).mono ?_; rintro ee w9 ⟨rfl, rfl⟩)
    go_ret
    exact ⟨rfl, HQB.out.out.more (by omega)⟩
set_option maxHeartbeats 4000000 in
theorem begins_cr_odd (X : Play W w l n bH D T m V o L s) (Y : ∀ u, u < 4 → (m u).live n T) (_hT : T ≤ 1000) (hu : u < 4) (em : m u = .idle) {z : Int} (z0 : 0 ≤ z) (z1 : z < 240) (pS : slotZ z < n) (pE : ¬ z.tmod 2 = 0) (hr : z.tmod 5 < 2) :
    Calls Tryz.prog 49 #[.pointer (some ⟨bH, 0, none⟩), .pointer (some ⟨l.q, 0, none⟩), .pointer (some ⟨l.k, 0, none⟩), .int .i64 (u : Int), .int .i64 z] w fun e w' => e = .returned (.bool true) ∧ PlayOut W l n bH D (T + 6) w' := by
  obtain ⟨a, c, g6, r, e2, ha, hsl, hc, hg6, hr5, he, bd⟩ := nums z z0 z1
  obtain ⟨sl, hsz⟩ : ∃ sl, slotZ z = sl := ⟨_, rfl⟩
  rw [hsz] at hsl pS
  rw [hr5] at hr
  rw [he] at pE
  clear hsz
  obtain ⟨gg, hgg⟩ : ∃ gg, 1 + g6 = gg := ⟨_, rfl⟩
  obtain ⟨wa1, wa2⟩ := wr64 a (by omega)
  obtain ⟨wc1, wc2⟩ := wr64 c (by omega)
  obtain ⟨wg1, wg2⟩ := wr64 gg (by omega)
  have HPS := Lib.hid pS
  have hn4 : (n : Int) < 1000000000 := X.n_lt
  have pS1 : (sl : Int) < (n : Int) := by omega
  have pS2 : ¬ (n : Int) ≤ (sl : Int) := by omega
  have pE1 : (e2 == 0) = false := by simp [pE]
  have j0 : (0 : Int) ≤ (u : Int) := Int.natCast_nonneg _
  have j1 : (u : Int) < 4 := by omega
  have k3 := X.slots_cell
  have HX := Lib.hid X
  have HY := Lib.hid Y
  have HEM := Lib.hid em
  have hr2 := hr
  clear X Y em z0 z1 pS bd hn4
  go_enter Tryz.func49, Tryz.ntmps49
  have HX1 := HX
  go_upto_region 4 with fail
  have k3b := k3
  go_upto_region 5 with fail
  go_region_held3 (fun _ => True) (exact trivial)
    (first
      | (go_at_call 28; refine (crNew (HX1.out.ups (up_drew _)).roo _).mono ?_; rintro ee w2 ⟨b, pb, rfl, P2, b2, pb2, U2⟩)
      | (go_at_call 90; refine (rcrNew ((HX1.out.ups (up_drew _)).ups U2).rw_ _).mono ?_; rintro ee w3 ⟨rb, rpb, rfl, R3, rb3, rpb3, U3⟩; have QB := (HX1.out.ups (up_drew _)).beginCr HY.out hu HEM.out (U2.trans U3) (P2.up U3) R3 ⟨b2, pb2, Nat.le_trans U2.size rb3, Nat.le_trans U2.size rpb3⟩; have HQB := Lib.hid QB.2; obtain ⟨y1, g1, y2, g2⟩ := QB.1; clear QB))
  all_goals
    have yc := HQB.out.cell
    clear y1 g1 y2 g2 P2 R3
    go_wp2_with (go_at_call 31; refine (crDone HQB.out.mach (y := false) rfl).mono ?_; rintro ee w9 ⟨rfl, rfl⟩)
    go_ret
    exact ⟨rfl, HQB.out.out.more (by omega)⟩
set_option maxHeartbeats 4000000 in
theorem begins_cr_far (X : Play W w l n bH D T m V o L s) (Y : ∀ u, u < 4 → (m u).live n T) (_hT : T ≤ 1000) (hu : u < 4) (em : m u = .idle) {z : Int} (z0 : 0 ≤ z) (z1 : z < 240) (pS : ¬ slotZ z < n) (hr : z.tmod 5 < 2) :
    Calls Tryz.prog 49 #[.pointer (some ⟨bH, 0, none⟩), .pointer (some ⟨l.q, 0, none⟩), .pointer (some ⟨l.k, 0, none⟩), .int .i64 (u : Int), .int .i64 z] w fun e w' => e = .returned (.bool true) ∧ PlayOut W l n bH D (T + 6) w' := by
  obtain ⟨a, c, g6, r, e2, ha, hsl, hc, hg6, hr5, he, bd⟩ := nums z z0 z1
  obtain ⟨sl, hsz⟩ : ∃ sl, slotZ z = sl := ⟨_, rfl⟩
  rw [hsz] at hsl pS
  rw [hr5] at hr
  clear hsz
  obtain ⟨gg, hgg⟩ : ∃ gg, 1 + g6 = gg := ⟨_, rfl⟩
  obtain ⟨wa1, wa2⟩ := wr64 a (by omega)
  obtain ⟨wc1, wc2⟩ := wr64 c (by omega)
  obtain ⟨wg1, wg2⟩ := wr64 gg (by omega)
  have HPS := Lib.hid pS
  have hn4 : (n : Int) < 1000000000 := X.n_lt
  have pS1 : ¬ (sl : Int) < (n : Int) := by omega
  have pS2 : (n : Int) ≤ (sl : Int) := by omega
  have j0 : (0 : Int) ≤ (u : Int) := Int.natCast_nonneg _
  have j1 : (u : Int) < 4 := by omega
  have k3 := X.slots_cell
  have HX := Lib.hid X
  have HY := Lib.hid Y
  have HEM := Lib.hid em
  have hr2 := hr
  clear X Y em z0 z1 pS bd hn4
  go_enter Tryz.func49, Tryz.ntmps49
  have HX1 := HX
  go_upto_region 4 with fail
  have k3b := k3
  go_upto_region 5 with fail
  go_region_held3 (fun _ => True) (exact trivial)
    (first
      | (go_at_call 28; refine (crNew (HX1.out.ups (up_drew _)).roo _).mono ?_; rintro ee w2 ⟨b, pb, rfl, P2, b2, pb2, U2⟩)
      | (go_at_call 90; refine (rcrNew ((HX1.out.ups (up_drew _)).ups U2).rw_ _).mono ?_; rintro ee w3 ⟨rb, rpb, rfl, R3, rb3, rpb3, U3⟩; have QB := (HX1.out.ups (up_drew _)).beginCr HY.out hu HEM.out (U2.trans U3) (P2.up U3) R3 ⟨b2, pb2, Nat.le_trans U2.size rb3, Nat.le_trans U2.size rpb3⟩; have HQB := Lib.hid QB.2; obtain ⟨y1, g1, y2, g2⟩ := QB.1; clear QB))
  all_goals
    have yc := HQB.out.cell
    clear y1 g1 y2 g2 P2 R3
    go_wp2_with (go_at_call 31; refine (crDone HQB.out.mach (y := false) rfl).mono ?_; rintro ee w9 ⟨rfl, rfl⟩)
    go_ret
    exact ⟨rfl, HQB.out.out.more (by omega)⟩
end
end Go.Proofs.YtalglhgngedjoaaGreat
