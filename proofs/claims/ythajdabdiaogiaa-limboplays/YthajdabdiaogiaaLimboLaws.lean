/-
  The contracts of package limbo as the statements use them; first of layer 7.
-/
import Derived.Test.YthajdabdiaogiaaLimbo8
namespace Go.Proofs.Ythajdabdiaogiaa
open Go.RowKit
set_option maxRecDepth 100000
section
variable {W w w1 w2 w3 w4 wr w' : World} {q n k : Nat} {F F1 F3 : List Nat} {S S' : Lb} {v o : Value} {now tag a : Int} {xs items : List Int}
/-- A limbo all of whose blocks are newer than W, of which nothing has turned. -/
structure Mine (W w : World) (q : Nat) (F : List Nat) (S : Lb) : Prop where
  lim : Lim w q F S
  up : Up W w
  new : ∀ b, b ∈ F → W.heap.size ≤ b
theorem Mine.then (M : Mine W w q F S) (u : Up w w') : Mine W w' q F S := ⟨M.lim.up u, M.up.trans u, M.new⟩
theorem Mine.else (M : Mine W w q F S) {l : List Nat} (u : Else l w w') (h : ∀ b, b ∈ F → b ∉ l) (hl : ∀ b, b ∈ l → W.heap.size ≤ b) : Mine W w' q F S := ⟨M.lim.else u h, Else.up_new M.up u hl, M.new⟩
theorem Mine.took (M : Mine W w q F S) (T : Took w w' q F S' xs o) : ∃ F', Mine W w' q F' S' ∧ Ints w' o xs ∧ Away o F' ∧ Fresh W o ∧ Next w F F' ∧ Else F w w' := by
  obtain ⟨F', L, J, A, N, O, E⟩ := T
  have h := M.up.size
  refine ⟨F', ⟨L, Else.up_new M.up E M.new, fun b hb => ?_⟩, J, A, fun b hb => ?_, N, E⟩
  · rcases N b hb with h' | h'
    · exact M.new b h'
    · omega
  · rcases O b hb with h' | h'
    · exact M.new b h'
    · omega
theorem Took.shape (T : Took w w' q F S' xs o) (h : xs.length = n) : ∃ A c, o = .slice A n c := by
  obtain ⟨F', L, J, _⟩ := T
  obtain ⟨A, c, e⟩ := J.slice
  exact ⟨A, c, h ▸ e⟩
theorem Took.up (T : Took w1 w' q F S' xs o) (u : Up w w1) : Took w w' q F S' xs o := by
  obtain ⟨F', L, J, A, N, O, E⟩ := T
  have h := u.size
  exact ⟨F', L, J, A, fun b hb => (N b hb).imp id (fun h' => Nat.le_trans h h'), fun b hb => (O b hb).imp id (fun h' => Nat.le_trans h h'), (Else.of_up u).trans E⟩
theorem lnew_mine (w : World) : Calls Try.prog 8 #[] w fun e w' => e = .returned (.pointer (some ⟨w.heap.size, 0, none⟩)) ∧ Mine w w' w.heap.size [w.heap.size] Lb.zero :=
  (lnew_any w).mono fun _ _ ⟨he, L, U⟩ => ⟨he, L, U, fun b hb => by simp at hb; omega⟩
theorem rd_new_away (L : Lim w q F S) : Away (.slice (some ⟨w.heap.size, 0, none⟩) 1 1) F := fun b hb e => by
  simp [Value.ownBlock] at e; have := L.lt b hb; omega
/-- Retire of one item, its list just made. -/
theorem lretire1 (E : Lim w q F S) (h1 : S.last ≤ tag) (h2 : tag ≤ 4611686018427387903) (hk : tag % 3 = k) (hl : S.size + 1 ≤ 8192) (hS : S.retire k tag [a] = S') (hx : S.taken k tag = xs) (hn : xs.length = n) :
    Calls Try.prog 13 #[.pointer (some ⟨q, 0, none⟩), .int .i64 tag, .slice (some ⟨w.heap.size, 0, none⟩) 1 1] (w.alloc (.cells #[.int .i64 a] 3)) fun e w' => ∃ A c, e = .returned (.tuple #[.slice A n c, .int .i64 0]) ∧ Took w w' q F S' xs (.slice A n c) := by
  subst hS hx
  refine (lretire_yes (items := [a]) (E.up (Up.alloc _ _)) (rd_one w a) (rd_new_away E) (by simp) h1 h2 hk (by simpa using hl)).mono ?_
  rintro e w' ⟨o, rfl, T⟩
  obtain ⟨A, c, rfl⟩ := T.shape hn
  exact ⟨A, c, rfl, T.up (Up.alloc _ _)⟩
theorem lretire_to (E : Lim w q F S) (R : Rd w v items) (Aw : Away v F) (h0 : items ≠ []) (h1 : S.last ≤ tag) (h2 : tag ≤ 4611686018427387903) (hk : tag % 3 = k) (hl : S.size + items.length ≤ 8192) (hS : S.retire k tag items = S') (hx : S.taken k tag = xs) (hn : xs.length = n) :
    Calls Try.prog 13 #[.pointer (some ⟨q, 0, none⟩), .int .i64 tag, v] w fun e w' => ∃ A c, e = .returned (.tuple #[.slice A n c, .int .i64 0]) ∧ Took w w' q F S' xs (.slice A n c) := by
  subst hS hx
  refine (lretire_yes E R Aw h0 h1 h2 hk hl).mono ?_
  rintro e w' ⟨o, rfl, T⟩
  obtain ⟨A, c, rfl⟩ := T.shape hn
  exact ⟨A, c, rfl, T⟩
theorem away_next {F' : List Nat} (A : Away v F) (N : Next w F F') (J : Ints w v xs) : Away v F' := fun b hb e => by
  rcases N b hb with h | h
  · exact A b h e
  · have := J.lt e; omega
theorem away_new (L : Lim w q F S) (Fr : Fresh w v) : Away v F := fun b hb e => by
  have := L.lt b hb; have := Fr b e; omega
theorem lready_to (E : Lim w q F S) (hs : S.size ≤ 8192) (hS : S.rest now = S') (hx : S.outs now = xs) (hn : xs.length = n) :
    Calls Try.prog 16 #[.pointer (some ⟨q, 0, none⟩), .int .i64 now] w fun e w' => ∃ A c, e = .returned (.slice A n c) ∧ Took w w' q F S' xs (.slice A n c) := by
  subst hS hx
  refine (lready_any E now hs).mono ?_
  rintro e w' ⟨o, rfl, T⟩
  obtain ⟨A, c, rfl⟩ := T.shape hn
  exact ⟨A, c, rfl, T⟩
theorem Ints.one {c : Nat} {A : Option Addr} (J : Ints w (.slice A n c) [a]) : ∃ g, A = some ⟨g, 0, none⟩ ∧ w.cell? ⟨g, 0, none⟩ = some (.int .i64 a) := by
  obtain ⟨A', c', e⟩ := J.slice
  injection e with e1 e2 e3
  subst e1 e2 e3
  obtain ⟨g, h1, h2⟩ := own_cell (j := 0) J (by simp)
  exact ⟨g, h1, by simpa using h2⟩
theorem first_s0 : Lb.zero.retire 1 4 [7] = ⟨put (fun _ => 0) 1 4, put (fun _ => []) 1 [7], 4⟩ := by
  unfold Lb.retire Lb.zero Lb.clear Lb.add
  dsimp only
  congr 1 <;> · funext j; unfold put; dsimp only; split <;> simp_all
def S7 : Lb := ⟨put (fun _ => 0) 1 4, put (fun _ => []) 1 [7], 4⟩
set_option maxHeartbeats 2000000 in
theorem first_any (w : World) : Calls Try.prog 7 #[] w fun e w' => e = .returned (.bool true) ∧ Up w w' := by
  have e1 : Lb.zero.taken 1 4 = [] := by decide
  have e2 : S7.outs 5 = [] := by decide
  have e3 : S7.rest 5 = S7 := (Lb.outs_none (by decide)).2
  have e4 : S7.outs 6 = [7] := by decide
  have H1 := Lib.hid e1
  have H2 := Lib.hid e2
  have H3 := Lib.hid e3
  have H4 := Lib.hid e4
  have H0 := Lib.hid first_s0
  clear e1 e2 e3 e4
  go_enter Try.func7, Try.ntmps7
  go_wp2_with (first
    | (go_at_call 8; refine (lnew_mine _).mono ?_; rintro e w1 ⟨rfl, M1⟩; have HM1 := Lib.hid M1; clear M1)
    | (go_at_call 13; refine (lretire1 (k := 1) (S' := S7) (n := 0) HM1.out.lim (by decide) (by decide) (by decide) (by decide) H0.out H1.out rfl).mono ?_; rintro e w2 ⟨A2, c2, rfl, T2⟩; obtain ⟨F2, M2, J2, -⟩ := HM1.out.took T2; have HM2 := Lib.hid M2; clear M2 T2 J2)
    | (go_at_call 16; (with_reducible refine (lready_to (now := 5) (S' := S7) (n := 0) HM2.out.lim (by decide) H3.out H2.out rfl).mono ?_); rintro e w3 ⟨A3, c3, rfl, T3⟩; obtain ⟨F3, M3, J3, -⟩ := HM2.out.took T3; have HM3 := Lib.hid M3; clear M3 T3 J3)
    | (go_at_call 16; (with_reducible refine (lready_to (now := 6) (n := 1) HM3.out.lim (by decide) rfl H4.out rfl).mono ?_); rintro e w4 ⟨A4, c4, rfl, T4⟩; obtain ⟨F4, M4, J4, -⟩ := HM3.out.took T4; have HM4 := Lib.hid M4; obtain ⟨g4, rfl, hc4⟩ := J4.one; clear M4 T4 J4))
  go_ret
  exact ⟨rfl, HM4.out.up⟩
/-- Refused: one item, its list just made. -/
theorem refuse1 (M : Mine W w q F S) {t : Int} (hl : S.last = t) (h : tag < t ∨ 4611686018427387903 < tag) :
    Calls Try.prog 13 #[.pointer (some ⟨q, 0, none⟩), .int .i64 tag, .slice (some ⟨w.heap.size, 0, none⟩) 1 1] (w.alloc (.cells #[.int .i64 a] 3)) fun e w' => e = .returned (.tuple #[.slice none 0 0, .int .i64 1]) ∧ Mine W w' q F S :=
  (lretire_no (M.lim.up (Up.alloc _ _)) (rd_one w a) (fun ⟨_, h1, h2⟩ => by omega)).mono fun _ _ ⟨he, hw⟩ => ⟨he, hw ▸ M.then (Up.alloc _ _)⟩
theorem refuse0 (M : Mine W w q F S) :
    Calls Try.prog 13 #[.pointer (some ⟨q, 0, none⟩), .int .i64 tag, .slice none 0 0] w fun e w' => e = .returned (.tuple #[.slice none 0 0, .int .i64 1]) ∧ Mine W w' q F S :=
  (lretire_no M.lim (Rd.nil w) (fun ⟨h, _⟩ => h rfl)).mono fun _ _ ⟨he, hw⟩ => ⟨he, hw ▸ M⟩
/-- One bucket with items. -/
def Lb.one (k : Nat) (t : Int) (xs : List Int) : Lb := ⟨put (fun _ => 0) k t, put (fun _ => []) k xs, t⟩
theorem one_retire (k : Nat) (t : Int) (xs : List Int) : Lb.zero.retire k t xs = Lb.one k t xs := by
  unfold Lb.retire Lb.zero Lb.one Lb.clear Lb.add
  split
  · dsimp only
    congr 1 <;> · funext j; unfold put; dsimp only; split <;> simp_all
  · dsimp only
    congr 1 <;> · funext j; unfold put; dsimp only; split <;> simp_all
theorem zero_taken (k : Nat) (t : Int) : Lb.zero.taken k t = [] := by unfold Lb.taken; split <;> rfl
theorem one_T (k : Nat) (t : Int) (xs : List Int) : (Lb.one k t xs).T k = t := put_same (fun _ => (0 : Int)) k t
theorem one_L (k : Nat) (t : Int) (xs : List Int) : (Lb.one k t xs).L k = xs := put_same (fun _ => ([] : List Int)) k xs
theorem one_size {k : Nat} (hk : k < 3) (t : Int) (xs : List Int) : (Lb.one k t xs).size = xs.length := by
  have : k = 0 ∨ k = 1 ∨ k = 2 := by omega
  unfold Lb.size Lb.one put
  rcases this with rfl | rfl | rfl <;> simp
theorem bucket_to (E : Lim w q F S) {i : Int} (hi : i = (k : Int)) (hk : k < 3) (hT : S.T k = tag) (hL : S.L k = xs) (hl : xs.length ≤ 8192) (hn : xs.length = n) :
    Calls Try.prog 18 #[.pointer (some ⟨q, 0, none⟩), .int .i64 i] w fun e w' => ∃ A c, e = .returned (.tuple #[.int .i64 tag, .slice A n c]) ∧ Ints w' (.slice A n c) xs ∧ Fresh w (.slice A n c) ∧ Up w w' := by
  subst hi hT hL
  refine (bucket_in E hk hl).mono ?_
  rintro e w' ⟨v, rfl, J, Fr, U⟩
  obtain ⟨A, c, e⟩ := J.slice
  rw [hn] at e
  subst e
  exact ⟨A, c, rfl, J, Fr, U⟩
theorem llen_to (E : Lim w q F S) (hs : S.size = n) (hn : n ≤ 8192) : Calls Try.prog 20 #[.pointer (some ⟨q, 0, none⟩)] w fun e w' => e = .returned (.int .i64 (n : Nat)) ∧ Up w w' := by
  subst hs
  exact llen_any E (by omega)
end
end Go.Proofs.Ythajdabdiaogiaa
