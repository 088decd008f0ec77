/-
  Texts beneath SupplyAll, part 6: StashLaws, StashTwo, RefStash, RowsIn, RecsIn.
-/
import Derived.Test.YtkopplnjomkleaaGreatPart5
import Derived.Lib.SmallJoins
/-
  The contracts of package stash as the statements use them (SMine: all blocks newer than W); first of layer 8.
-/
namespace Go.Proofs.YtkopplnjomkleaaGreat
open Go.RowKit
set_option maxRecDepth 100000
section
variable {t : TypeId} {W w w1 w2 w' : World} {q n : Nat} {F F1 : List Nat} {m a : Int} {xs ys zs : List Int} {v v' o : Value}
/-- A stash all of whose blocks are newer than W, of which nothing has turned. -/
structure SMine (t : TypeId) (W w : World) (q : Nat) (m : Int) (xs : List Int) (F : List Nat) : Prop where
  sta : Sta t w q F m xs
  up : Up W w
  new : ∀ b, b ∈ F → W.heap.size ≤ b
theorem SMine.then (M : SMine t W w q m xs F) (u : Up w w') : SMine t W w' q m xs F := ⟨M.sta.up u, M.up.trans u, M.new⟩
theorem SMine.else (M : SMine t W w q m xs F) {l : List Nat} (u : Else l w w') (h : ∀ b, b ∈ F → b ∉ l) (hl : ∀ b, b ∈ l → W.heap.size ≤ b) : SMine t W w' q m xs F := ⟨M.sta.else u h, Else.up_new M.up u hl, M.new⟩
theorem SMine.gave (M : SMine t W w q m xs F) (G : SGave t w w' q F m ys) : ∃ F', SMine t W w' q m ys F' ∧ Next w F F' ∧ Else F w w' := by
  obtain ⟨F', S, N, E⟩ := G
  have h := M.up.size
  refine ⟨F', ⟨S, Else.up_new M.up E M.new, fun b hb => ?_⟩, N, E⟩
  rcases N b hb with h' | h'
  · exact M.new b h'
  · omega
theorem SMine.took (M : SMine t W w q m xs F) (T : STook t w w' q F m ys o zs) : ∃ F', SMine t W w' q m ys F' ∧ Rd w' o zs ∧ Away o F' ∧ Fresh W o ∧ Next w F F' ∧ Else F w w' := by
  obtain ⟨F', S, J, A, N, O, E⟩ := T
  have h := M.up.size
  refine ⟨F', ⟨S, Else.up_new M.up E M.new, fun b hb => ?_⟩, J, A, fun b hb => ?_, N, E⟩
  · rcases N b hb with h' | h'
    · exact M.new b h'
    · omega
  · rcases O b hb with h' | h'
    · exact M.new b h'
    · omega
theorem STook.shape (T : STook t w w' q F m ys o zs) (h : zs.length = n) : ∃ A c, o = .slice A n c := by
  obtain ⟨F', L, J, _⟩ := T
  obtain ⟨A, c, e⟩ := J.slice
  exact ⟨A, c, h ▸ e⟩
theorem snew_q (w : World) (a : Int) {m : Int} (h : cutM a = m) : Calls Tryz.prog 63 #[.int .i64 a] w fun e w' => ∃ q, e = .returned (.pointer (some ⟨q, 0, none⟩)) ∧ SMine 167 w w' q m [] [q] ∧ w.heap.size ≤ q :=
  (snew_any w a).mono fun _ _ ⟨q, he, S, hq, U⟩ => ⟨q, he, ⟨h ▸ S, U, fun b hb => by simp at hb; omega⟩, hq⟩
/-- Give of one item, its list just made. -/
theorem sgive1 (E : Sta 167 w q F m xs) (hl : xs.length + 1 ≤ 8192) (hx : xs ++ [a] = ys) :
    Calls Tryz.prog 59 #[.pointer (some ⟨q, 0, none⟩), .slice (some ⟨w.heap.size, 0, none⟩) 1 1] (w.alloc (.cells #[.int .i64 a] 3)) fun e w' => e = .returned (.tuple #[]) ∧ SGave 167 w w' q F m ys := by
  subst hx
  exact (sgive_any (E.up (Up.alloc _ _)) (rd_one w a) (by simpa using hl)).mono fun _ _ ⟨he, G⟩ => ⟨he, G.up (Up.alloc _ _)⟩
theorem rd_three (w : World) (a b c : Int) : Rd (w.alloc (.cells #[.int .i64 a, .int .i64 b, .int .i64 c] 3)) (.slice (some ⟨w.heap.size, 0, none⟩) 3 3) [a, b, c] := by
  refine ⟨_, _, rfl, by unfold maxLen; simp, fun j hj => ⟨_, _, rfl, ?_⟩⟩
  have : j = 0 ∨ j = 1 ∨ j = 2 := by simp at hj; omega
  rcases this with rfl | rfl | rfl
  · exact cell_new rfl rfl
  · exact cell_new rfl rfl
  · exact cell_new rfl rfl
theorem sgive3 (E : Sta 167 w q F m []) :
    Calls Tryz.prog 59 #[.pointer (some ⟨q, 0, none⟩), .slice (some ⟨w.heap.size, 0, none⟩) 3 3] (w.alloc (.cells #[.int .i64 1, .int .i64 2, .int .i64 3] 3)) fun e w' => e = .returned (.tuple #[]) ∧ SGave 167 w w' q F m [1, 2, 3] :=
  (sgive_any (E.up (Up.alloc _ _)) (rd_three w 1 2 3) (by simp)).mono fun _ _ ⟨he, G⟩ => ⟨he, G.up (Up.alloc _ _)⟩
theorem sall_to (E : Sta 167 w q F m xs) (hn : xs.length = n) : Calls Tryz.prog 62 #[.pointer (some ⟨q, 0, none⟩)] w fun e w' => ∃ A c, e = .returned (.slice A n c) ∧ STook 167 w w' q F m [] (.slice A n c) xs := by
  refine (sall_in E).mono ?_
  rintro e w' ⟨o, rfl, T, J⟩
  obtain ⟨A, c, rfl⟩ := T.shape hn
  exact ⟨A, c, rfl, T⟩
theorem slen_to (E : Sta 167 w q F m xs) (hn : xs.length = n) : Calls Tryz.prog 65 #[.pointer (some ⟨q, 0, none⟩)] w fun e w' => e = .returned (.int .i64 (n : Nat)) ∧ w = w' := hn ▸ slen_any E
theorem slist_to (E : Sta 167 w q F m xs) (hl : xs.length ≤ 8192) (hn : xs.length = n) : Calls Tryz.prog 58 #[.pointer (some ⟨q, 0, none⟩)] w fun e w' => ∃ A c, e = .returned (.slice A n c) ∧ Ints w' (.slice A n c) xs ∧ Fresh w (.slice A n c) ∧ Up w w' := by
  refine (slist_any E hl).mono ?_
  rintro e w' ⟨o, rfl, J, Fr, U⟩
  obtain ⟨A, c, e⟩ := J.slice
  rw [hn] at e
  subst e
  exact ⟨A, c, rfl, J, Fr, U⟩
theorem sover_to (E : Sta 167 w q F m xs) {K : Nat} (hK : (xs.length : Int) - m = K) (h0 : 0 < K) (hm0 : 0 ≤ m) (hl : xs.length ≤ 8192) (hd : xs.drop K = ys) (ht : xs.take K = zs) :
    Calls Tryz.prog 61 #[.pointer (some ⟨q, 0, none⟩)] w fun e w' => ∃ A, e = .returned (.slice A K K) ∧ STook 167 w w' q F m ys (.slice A K K) zs := by
  subst hd ht
  exact sover_many E hK h0 hm0 hl
theorem stake_to (E : Sta 167 w q F m xs) (h : xs = ys ++ [a]) : Calls Tryz.prog 111 #[.pointer (some ⟨q, 0, none⟩)] w fun e w' => e = .returned (.tuple #[.int .i64 a, .bool true]) ∧ SGave 167 w w' q F m ys := by
  subst h; exact stake_some E
theorem Rd.one {c : Nat} {A : Option Addr} (J : Rd w (.slice A n c) [a]) : ∃ g off, A = some ⟨g, off, none⟩ ∧ w.cell? ⟨g, off, none⟩ = some (.int .i64 a) := by
  obtain ⟨g, off, h1, h2⟩ := J.cell (j := 0) (by simp)
  exact ⟨g, off, h1, by simpa using h2⟩
end
end Go.Proofs.YtkopplnjomkleaaGreat

/-
  Two stashes beside each other, each with blocks of its own (Pair); the numbers 0, 1, .. as a list.
-/
namespace Go.Proofs.YtkopplnjomkleaaGreat
open Go.RowKit
set_option maxRecDepth 100000
section
variable {t t' : TypeId} {W w w1 w2 w' : World} {q p n : Nat} {F G F1 : List Nat} {m m' a : Int} {xs ys zs xs' ys' : List Int} {v v' o : Value}
/-- The two, all their blocks newer than W, of which nothing has turned. -/
structure Pair (t t' : TypeId) (W w : World) (q p : Nat) (m m' : Int) (xs ys : List Int) (F G : List Nat) : Prop where
  a : Sta t w q F m xs
  b : Sta t' w p G m' ys
  dis : ∀ b, b ∈ F → b ∉ G
  nF : ∀ b, b ∈ F → W.heap.size ≤ b
  nG : ∀ b, b ∈ G → W.heap.size ≤ b
  up : Up W w
theorem Pair.then (D : Pair t t' W w q p m m' xs ys F G) (u : Up w w') : Pair t t' W w' q p m m' xs ys F G := ⟨D.a.up u, D.b.up u, D.dis, D.nF, D.nG, D.up.trans u⟩
theorem Pair.swap (D : Pair t t' W w q p m m' xs ys F G) : Pair t' t W w p q m' m ys xs G F := ⟨D.b, D.a, fun b hb h => D.dis b h hb, D.nG, D.nF, D.up⟩
theorem Pair.gaveA (D : Pair t t' W w q p m m' xs ys F G) (T : SGave t w w' q F m xs') : ∃ F', Pair t t' W w' q p m m' xs' ys F' G ∧ Next w F F' ∧ Else F w w' := by
  obtain ⟨F', L, N, E⟩ := T
  have hs := D.up.size
  refine ⟨F', ⟨L, D.b.else E (fun b hb h => D.dis b h hb), fun b hb h => ?_, fun b hb => ?_, D.nG, Else.up_new D.up E D.nF⟩, N, E⟩
  · rcases N b hb with h' | h'
    · exact D.dis b h' h
    · have := D.b.lt b h; omega
  · rcases N b hb with h' | h'
    · exact D.nF b h'
    · omega
theorem Pair.gaveB (D : Pair t t' W w q p m m' xs ys F G) (T : SGave t' w w' p G m' ys') : ∃ G', Pair t t' W w' q p m m' xs ys' F G' ∧ Next w G G' ∧ Else G w w' := by
  obtain ⟨G', P, r⟩ := D.swap.gaveA T
  exact ⟨G', P.swap, r⟩
theorem Pair.tookA (D : Pair t t' W w q p m m' xs ys F G) (T : STook t w w' q F m xs' o zs) : ∃ F', Pair t t' W w' q p m m' xs' ys F' G ∧ Rd w' o zs ∧ Away o F' ∧ Away o G ∧ Fresh W o ∧ Next w F F' ∧ Else F w w' := by
  obtain ⟨F', L, J, A, N, O, E⟩ := T
  have hs := D.up.size
  obtain ⟨F'', P, -, -⟩ := D.gaveA ⟨F', L, N, E⟩
  refine ⟨F', ⟨L, P.b, fun b hb h => ?_, fun b hb => ?_, D.nG, P.up⟩, J, A, fun b hb e => ?_, fun b hb => ?_, N, E⟩
  · rcases N b hb with h' | h'
    · exact D.dis b h' h
    · have := D.b.lt b h; omega
  · rcases N b hb with h' | h'
    · exact D.nF b h'
    · omega
  · rcases O b e with h' | h'
    · exact D.dis b h' hb
    · have := D.b.lt b hb; omega
  · rcases O b hb with h' | h'
    · exact D.nF b h'
    · omega
theorem Pair.tookB (D : Pair t t' W w q p m m' xs ys F G) (T : STook t' w w' p G m' ys' o zs) : ∃ G', Pair t t' W w' q p m m' xs ys' F G' ∧ Rd w' o zs ∧ Away o G' ∧ Away o F ∧ Fresh W o ∧ Next w G G' ∧ Else G w w' := by
  obtain ⟨G', P, r⟩ := D.swap.tookA T
  exact ⟨G', P.swap, r⟩
theorem pair_new (M : SMine t W w q m xs F) (S : Sta t' w' p G m' ys) (u : Up w w') (hG : ∀ b, b ∈ G → w.heap.size ≤ b) : Pair t t' W w' q p m m' xs ys F G :=
  ⟨M.sta.up u, S, fun b hb h => by have := M.sta.lt b hb; have := hG b h; omega, M.new, fun b hb => Nat.le_trans M.up.size (hG b hb), M.up.trans u⟩
def upto (k : Nat) : List Int := (List.range k).map (fun j : Nat => (j : Int))
theorem upto_succ (k : Nat) : upto k ++ [(k : Int)] = upto (k + 1) := by unfold upto; rw [List.range_succ]; simp
theorem upto_len (k : Nat) : (upto k).length = k := by simp [upto]
theorem upto_get {k j : Nat} (h : j < k) : (upto k).getD j 0 = (j : Int) := by simp [upto, List.getD, h]
end
end Go.Proofs.YtkopplnjomkleaaGreat

/-
  The reference's stash: the contracts of NewStash, Give, Take, Over, All.
-/
namespace Go.Proofs.YtkopplnjomkleaaGreat
open Go.RowKit
set_option maxRecDepth 100000
section
variable {t : TypeId} {w w1 w2 w' : World} {q n : Nat} {F F1 : List Nat} {m a : Int} {xs ys zs : List Int} {v v' o : Value}
set_option maxHeartbeats 1000000 in
theorem rsnew_any (w : World) (a : Int) : Calls Tryz.prog 81 #[.int .i64 a] w fun e w' => ∃ q, e = .returned (.pointer (some ⟨q, 0, none⟩)) ∧ Sta 104 w' q [q] (cutM a) [] ∧ w.heap.size ≤ q ∧ Up w w' := by
  unfold cutM
  by_cases h0 : a < 0
  · rw [if_pos h0]
    have h1 : ¬ (0 : Int) ≤ a := by omega
    go_enter Tryz.func81, Tryz.ntmps81
    go_wp2
    go_ret
    exact ⟨_, rfl, sta_new _ _ _, Nat.le_refl _, Up.alloc _ _⟩
  · rw [if_neg h0]
    by_cases h1 : 64 < a
    · rw [if_pos h1]
      go_enter Tryz.func81, Tryz.ntmps81
      go_wp2
      go_ret
      exact ⟨_, rfl, sta_new _ _ _, Nat.le_refl _, Up.alloc _ _⟩
    · rw [if_neg h1]
      go_enter Tryz.func81, Tryz.ntmps81
      go_wp2
      go_ret
      exact ⟨_, rfl, sta_new _ _ _, Nat.le_refl _, Up.alloc _ _⟩
set_option maxHeartbeats 1000000 in
theorem rsgive_any (E : Sta 104 w q F m xs) (R : Rd w v ys) (hl : xs.length + ys.length ≤ 8192) :
    Calls Tryz.prog 44 #[.pointer (some ⟨q, 0, none⟩), v] w fun e w' => e = .returned (.tuple #[]) ∧ SGave 104 w w' q F m (xs ++ ys) := by
  obtain ⟨u, E⟩ := E
  obtain ⟨A, N, c, rfl⟩ := shapeI E.ints
  obtain ⟨c0, c1⟩ := E.cells
  obtain ⟨A2, cap2, rfl⟩ := R.slice
  have HE := Lib.hid E
  have HR := Lib.hid R
  have HL1 := Lib.hid (show ([] : List Int).length + xs.length ≤ 8192 by simp; omega)
  have HL2 := Lib.hid (show ([] ++ xs).length + ys.length ≤ 8192 by simpa using hl)
  clear E R hl
  go_enter Tryz.func44, Tryz.ntmps44
  go_wp2_with (first
    | (at_builtin; refine wpList_app (v := .slice none 0 0) rfl _ _ rfl rfl rfl (Ints.nil _) HE.out.ints.rd HL1.out ?_; intro v5 w5 J5 G5 A5; obtain ⟨B5, M5, k5, rfl⟩ := shapeI J5; have HJ5 := Lib.hid J5; have HU5 := Lib.hid (up_app (Up.refl w) G5 (fresh_nil _)); have HF5 := Lib.hid (fresh_app (fresh_nil w) (Nat.le_refl _) A5); clear J5 G5 A5)
    | (at_builtin; refine wpList_app (v := .slice B5 M5 k5) rfl _ _ rfl rfl rfl HJ5.out (HR.out.up HU5.out) HL2.out ?_; intro v6 w6 J6 G6 A6; obtain ⟨B6, M6, k6, rfl⟩ := shapeI J6; have HJ6 := Lib.hid J6; have HU6 := Lib.hid (up_app HU5.out G6 HF5.out); have HF6 := Lib.hid (fresh_app HF5.out HU5.out.size A6); have c5 := HU6.out.kept c1; have f5 := (HE.out.top.up HU6.out).frozen 1; clear J6 G6 A6))
  go_end0
  exact ⟨rfl, HE.out.renew HU6.out (by simpa using HJ6.out) HF6.out⟩
set_option maxHeartbeats 1000000 in
theorem rsall_any (E : Sta 104 w q F m xs) : Calls Tryz.prog 97 #[.pointer (some ⟨q, 0, none⟩)] w fun e w' => ∃ o, e = .returned o ∧ STook 104 w w' q F m [] o xs := by
  obtain ⟨u, E⟩ := E
  obtain ⟨c0, c1⟩ := E.cells
  have f1 := E.top.frozen 1
  have HE := Lib.hid E
  clear E
  go_enter Tryz.func97, Tryz.ntmps97
  go_wp2_with fail
  go_ret
  exact ⟨_, rfl, HE.out.handed.1⟩
set_option maxHeartbeats 1000000 in
theorem rstake_none (E : Sta 104 w q F m []) : Calls Tryz.prog 122 #[.pointer (some ⟨q, 0, none⟩)] w fun e w' => e = .returned (.tuple #[.int .i64 0, .bool false]) ∧ w = w' := by
  obtain ⟨u, E⟩ := E
  obtain ⟨A, c, rfl⟩ := E.ints.slice
  obtain ⟨c0, c1⟩ := E.cells
  clear E
  go_enter Tryz.func122, Tryz.ntmps122
  go_wp2_with fail
  go_ret2
  exact ⟨rfl, rfl⟩
set_option maxHeartbeats 1000000 in
theorem rstake_some (E : Sta 104 w q F m (ys ++ [a])) (hl : ys.length ≤ 8000) : Calls Tryz.prog 122 #[.pointer (some ⟨q, 0, none⟩)] w fun e w' => e = .returned (.tuple #[.int .i64 a, .bool true]) ∧ SGave 104 w w' q F m ys := by
  obtain ⟨u, E⟩ := E
  obtain ⟨A, N, c, rfl⟩ := shapeI E.ints
  obtain ⟨c0, c1⟩ := E.cells
  have hN : N = ys.length + 1 := by have := E.ints.nOf; simpa [nOf] using this
  have hcap := E.ints.cap
  obtain ⟨g, off, rfl, hc⟩ := E.ints.rd.cell (j := ys.length) (by simp)
  obtain ⟨K, hK⟩ : ∃ K, ys.length = K := ⟨_, rfl⟩
  rw [show (ys ++ [a]).getD ys.length 0 = a by simp [List.getD]] at hc
  have HRT := Lib.hid (show Rd w (.slice (some ⟨g, off, none⟩) K c) ys by
    have := cutHi_rd (c := K) (cap2 := c) E.ints.rd (by simp; omega)
    rwa [show (ys ++ [a]).take K = ys by rw [← hK]; simp] at this)
  have HL1 := Lib.hid (show ([] : List Int).length + ys.length ≤ 8192 by simp; omega)
  rw [hK] at hc hN hl
  have HE := Lib.hid E
  have k0 : (0 : Int) ≤ (K : Int) := Int.natCast_nonneg _
  have k1 : (K : Int) < (N : Int) := by omega
  have n0 : ((N : Int) == 0) = false := by simp; omega
  have rs := run_cutHi (some ⟨g, off, none⟩) N c K (by omega)
  have a1 : wrap64 ((N : Int) - 1) = (K : Int) := by rw [wrap64_in (by omega) (by omega)]; omega
  clear E hN hcap hK
  go_enter Tryz.func122, Tryz.ntmps122
  go_wp2_with (first
    | (at_builtin; refine wpList_app (v := .slice none 0 0) rfl _ _ rfl rfl rfl (Ints.nil _) HRT.out HL1.out ?_; intro v5 w5 J5 G5 A5; obtain ⟨B5, M5, k5, rfl⟩ := shapeI J5; have HJ5 := Lib.hid J5; have HU5 := Lib.hid (up_app (Up.refl w) G5 (fresh_nil _)); have HF5 := Lib.hid (fresh_app (fresh_nil w) (Nat.le_refl _) A5); have c5 := HU5.out.kept c1; have f5 := (HE.out.top.up HU5.out).frozen 1; clear J5 G5 A5))
  go_ret2
  exact ⟨rfl, HE.out.renew HU5.out (by simpa using HJ5.out) HF5.out⟩
/-- Behind a list that was made (o) and another one that was made and stored: the first one is nobody's. -/
theorem split_took (E : StaV t w q F m xs v) (U1 : Up w w1) (J1 : Ints w1 o ys) (F1 : Fresh w o) (U2 : Up w1 w2) (J2 : Ints w2 v' zs) (F2 : Fresh w1 v') : STook t w (w2.setCell ⟨q, 1, none⟩ v') q F m zs o ys := by
  obtain ⟨F', S, N, X⟩ := (E.up U1).renew U2 J2 F2
  have hq := E.lt q E.mem
  have s1 := U1.size
  have a0 : Away o F := fun b hb e => by have := E.lt b hb; have := F1 b e; omega
  refine ⟨F', S, (J1.rd.else X a0), fun b hb e => ?_, fun b hb => (N b hb).imp id (fun h => Nat.le_trans s1 h), fun b hb => .inr (F1 b hb), (Else.of_up U1).trans X⟩
  rcases N b hb with h | h
  · exact a0 b h e
  · have := J1.lt e; omega
set_option maxHeartbeats 2000000 in
theorem rsover_few (E : Sta 104 w q F m xs) (hK : (xs.length : Int) < m) (hm0 : 0 ≤ m ∧ m ≤ 64) (hl : xs.length ≤ 8000) :
    Calls Tryz.prog 96 #[.pointer (some ⟨q, 0, none⟩)] w fun e w' => ∃ o, e = .returned o ∧ STook 104 w w' q F m (xs.drop 0) o (xs.take 0) := by
  obtain ⟨u, E⟩ := E
  obtain ⟨A, c, rfl⟩ := E.ints.slice
  obtain ⟨c0, c1⟩ := E.cells
  have hcap := E.ints.cap
  obtain ⟨N, hN⟩ : ∃ N, xs.length = N := ⟨_, rfl⟩
  have HE := Lib.hid E
  clear E
  have HN := Lib.hid hN
  rw [hN] at hK c1 hl HE hcap
  clear hN
  have HLT := Lib.hid (show ([] : List Int).length + (xs.take 0).length ≤ 8192 by simp)
  have HLD := Lib.hid (show ([] : List Int).length + (xs.drop 0).length ≤ 8192 by simp; have := HN.out; omega)
  have k2 : (N : Int) - m < 0 := by omega
  have rs1 : ∀ w, (Instr.slice 22 (.slice A N c) none (some (.int .i64 0)) none).run Tryz.prog w = .ok (.slice A 0 c) w := run_cutHi A N c 0 (Nat.zero_le _)
  have rs2 : ∀ w, (Instr.slice 22 (.slice A N c) (some (.int .i64 0)) none none).run Tryz.prog w = .ok (cutLo A 0 N c) w := run_cutLo A N c 0 (Nat.zero_le _)
  have a1 : IntKind.i64.wrap ((N : Int) - m) = (N : Int) - m := IntWalk.i64_in _ (by omega)
  go_enter Tryz.func96, Tryz.ntmps96
  go_upto_region 1 with fail
  go_quiet (fail)
  have HE1 := Lib.hid (HE.out.up (Up.drewN w nq))
  go_wp2_with (first
    | (at_builtin; refine wpList_app (v := .slice none 0 0) rfl _ _ rfl rfl rfl (Ints.nil _) (cutHi_rd (c := 0) (cap2 := c) HE1.out.ints.rd (by rw [HN.out]; omega)) HLT.out ?_; intro v5 w5 J5 G5 A5; obtain ⟨B5, M5, k5, rfl⟩ := shapeI J5; have HJ5 := Lib.hid J5; have HU5 := Lib.hid (up_app (Up.refl _) G5 (fresh_nil _)); have HF5 := Lib.hid (fresh_app (fresh_nil _) (Nat.le_refl _) A5); have c5 := HU5.out.kept (show (w.drewN nq).cell? _ = _ from c1); clear J5 G5 A5)
    | (at_builtin; refine wpList_app (v := .slice none 0 0) rfl _ _ rfl rfl rfl (Ints.nil _) (cutLo_rd (c := 0) (HE1.out.ints.rd.up HU5.out) (by rw [HN.out]; omega) hcap) HLD.out ?_; intro v6 w6 J6 G6 A6; obtain ⟨B6, M6, k6, rfl⟩ := shapeI J6; have HJ6 := Lib.hid J6; have HU6 := Lib.hid (up_app (Up.refl _) G6 (fresh_nil _)); have HF6 := Lib.hid (fresh_app (fresh_nil _) (Nat.le_refl _) A6); have c6 := HU6.out.kept c5; have f6 := ((HE1.out.top.up HU5.out).up HU6.out).frozen 1; clear J6 G6 A6))
  go_ret
  exact ⟨_, rfl, (split_took HE1.out HU5.out (by simpa using HJ5.out) HF5.out HU6.out (by simpa using HJ6.out) HF6.out).up (Up.drewN _ _)⟩
set_option maxHeartbeats 2000000 in
theorem rsover_many (E : Sta 104 w q F m xs) {K : Nat} (hK : (xs.length : Int) - m = K) (hm0 : 0 ≤ m) (hl : xs.length ≤ 8000) :
    Calls Tryz.prog 96 #[.pointer (some ⟨q, 0, none⟩)] w fun e w' => ∃ o, e = .returned o ∧ STook 104 w w' q F m (xs.drop K) o (xs.take K) := by
  obtain ⟨u, E⟩ := E
  obtain ⟨A, c, rfl⟩ := E.ints.slice
  obtain ⟨c0, c1⟩ := E.cells
  have hcap := E.ints.cap
  obtain ⟨N, hN⟩ : ∃ N, xs.length = N := ⟨_, rfl⟩
  have HE := Lib.hid E
  clear E
  have HN := Lib.hid hN
  rw [hN] at hK c1 hl HE hcap
  clear hN
  have HLT := Lib.hid (show ([] : List Int).length + (xs.take K).length ≤ 8192 by simp; have := HN.out; omega)
  have HLD := Lib.hid (show ([] : List Int).length + (xs.drop K).length ≤ 8192 by simp; have := HN.out; omega)
  have hKN : K ≤ N := by omega
  have k2 : ¬ (K : Int) < 0 := by omega
  have rs1 := run_cutHi A N c K (by omega)
  have rs2 := run_cutLo A N c K hKN
  have a1 : IntKind.i64.wrap ((N : Int) - m) = (K : Int) := by rw [IntWalk.i64_in _ (by omega)]; omega
  clear hK
  go_enter Tryz.func96, Tryz.ntmps96
  go_upto_region 1 with fail
  go_quiet (fail)
  have HE1 := Lib.hid (HE.out.up (Up.drewN w nq))
  go_wp2_with (first
    | (at_builtin; refine wpList_app (v := .slice none 0 0) rfl _ _ rfl rfl rfl (Ints.nil _) (cutHi_rd (c := K) (cap2 := c) HE1.out.ints.rd (by rw [HN.out]; omega)) HLT.out ?_; intro v5 w5 J5 G5 A5; obtain ⟨B5, M5, k5, rfl⟩ := shapeI J5; have HJ5 := Lib.hid J5; have HU5 := Lib.hid (up_app (Up.refl _) G5 (fresh_nil _)); have HF5 := Lib.hid (fresh_app (fresh_nil _) (Nat.le_refl _) A5); have c5 := HU5.out.kept (show (w.drewN nq).cell? _ = _ from c1); clear J5 G5 A5)
    | (at_builtin; refine wpList_app (v := .slice none 0 0) rfl _ _ rfl rfl rfl (Ints.nil _) (cutLo_rd (c := K) (HE1.out.ints.rd.up HU5.out) (by rw [HN.out]; omega) hcap) HLD.out ?_; intro v6 w6 J6 G6 A6; obtain ⟨B6, M6, k6, rfl⟩ := shapeI J6; have HJ6 := Lib.hid J6; have HU6 := Lib.hid (up_app (Up.refl _) G6 (fresh_nil _)); have HF6 := Lib.hid (fresh_app (fresh_nil _) (Nat.le_refl _) A6); have c6 := HU6.out.kept c5; have f6 := ((HE1.out.top.up HU5.out).up HU6.out).frozen 1; clear J6 G6 A6))
  go_ret
  exact ⟨_, rfl, (split_took HE1.out HU5.out (by simpa using HJ5.out) HF5.out HU6.out (by simpa using HJ6.out) HF6.out).up (Up.drewN _ _)⟩
end
end Go.Proofs.YtkopplnjomkleaaGreat

/-
  A slice of structs of numbers that came in, opened. No program is named here.
-/
namespace Go.Proofs.YtkopplnjomkleaaGreat
open Go.ChangeShapes Go.WideShapes Go.RowKit Go.Deep Go.Joins

/-- A slice of structs of numbers (of the kinds ks) that came in: nil; or 'len' elements, number i of which holds z i 0, z i 1, .. -/
def IsRows (ks : List IntKind) (w : World) (a : Option Addr) (len cap : Nat) (z : Nat → Nat → Int) : Prop :=
  len ≤ maxLen ∧ ((a = none ∧ len = 0 ∧ cap = 0) ∨
  ∃ x, a = some x ∧ len ≤ cap ∧ cap ≤ maxLen ∧ ∀ i, i < len → ∀ j k, ks[j]? = some k → w.cell? (x.add (i * ks.length + j)) = some (.int k (z i j)) ∧ (Lit.int k (z i j)).wf = true)
theorem IsRows.len_le {ks : List IntKind} {w : World} {a : Option Addr} {len cap : Nat} {z : Nat → Nat → Int} (h : IsRows ks w a len cap z) : len ≤ maxLen := h.1
theorem IsRows.at {ks : List IntKind} {w : World} {a : Option Addr} {len cap : Nat} {z : Nat → Nat → Int} (h : IsRows ks w a len cap z) (h0 : ks ≠ []) (hl : 0 < len) :
    ∃ b off, a = some ⟨b, off, none⟩ ∧ b < w.heap.size ∧ ∀ i, i < len → ∀ j k, ks[j]? = some k → w.cell? ⟨b, off + (i * ks.length + j), none⟩ = some (.int k (z i j)) ∧ (Lit.int k (z i j)).wf = true := by
  rcases h.2 with ⟨_, rfl, _⟩ | ⟨x, rfl, hlc, hm, hc⟩
  · omega
  · obtain ⟨b, off, spot⟩ := x
    obtain ⟨k, ks', rfl⟩ : ∃ k ks', ks = k :: ks' := by cases ks with | nil => exact absurd rfl h0 | cons k ks' => exact ⟨k, ks', rfl⟩
    have hc0 := (hc 0 hl 0 k rfl).1
    have hs : spot = none := by simpa [Addr.add] using World.cell?_spot hc0
    subst hs
    have e : ∀ n, (⟨b, off, none⟩ : Addr).add n = ⟨b, off + n, none⟩ := fun n => by
      unfold Addr.add; split
      · subst_vars; rfl
      · rfl
    refine ⟨b, off, rfl, ?_, fun i hi j k hk => ?_⟩
    · rw [e] at hc0; exact World.block_lt_of_cell? w _ hc0
    · have := hc i hi j k hk
      rwa [e] at this
theorem IsRows.four {k0 k1 k2 k3 : IntKind} {w : World} {a : Option Addr} {len cap : Nat} {z : Nat → Nat → Int} (h : IsRows [k0, k1, k2, k3] w a len cap z) {i : Nat} (hi : i < len) :
    ∃ b off, a = some ⟨b, off, none⟩ ∧ b < w.heap.size ∧ w.cell? ⟨b, off + i * 4, none⟩ = some (.int k0 (z i 0)) ∧ w.cell? ⟨b, off + i * 4 + 1, none⟩ = some (.int k1 (z i 1)) ∧
      w.cell? ⟨b, off + i * 4 + 2, none⟩ = some (.int k2 (z i 2)) ∧ w.cell? ⟨b, off + i * 4 + 3, none⟩ = some (.int k3 (z i 3)) := by
  obtain ⟨b, off, ha, hb, hc⟩ := h.at (by simp) (by omega)
  exact ⟨b, off, ha, hb, (hc i hi 0 k0 rfl).1, (hc i hi 1 k1 rfl).1, (hc i hi 2 k2 rfl).1, (hc i hi 3 k3 rfl).1⟩

section
variable {H : Type} {enc : TypeId × Value → H} {P : Program} {w : World} {base : Nat} {spare : Nat → Bool} {held : Bool}
theorem choose_rows {len : Nat} {R : Nat → (Nat → Int) → Prop} (h : ∀ i, i < len → ∃ z, R i z) : ∃ z : Nat → Nat → Int, ∀ i, i < len → R i (z i) := by
  have h' : ∀ i, ∃ z, i < len → R i z := fun i => by
    by_cases hi : i < len
    · obtain ⟨z, hz⟩ := h i hi; exact ⟨z, fun _ => hz⟩
    · exact ⟨fun _ => 0, fun hi' => absurd hi' hi⟩
  exact ⟨fun i => (h' i).choose, fun i hi => (h' i).choose_spec hi⟩
theorem choose_nums {ks : List IntKind} {R : Nat → IntKind → Int → Prop} (h : ∀ j k, ks[j]? = some k → ∃ z, R j k z) : ∃ z : Nat → Int, ∀ j k, ks[j]? = some k → R j k (z j) := by
  have h' : ∀ j, ∃ z, ∀ k, ks[j]? = some k → R j k z := fun j => by
    cases hk : ks[j]? with
    | none => exact ⟨0, fun k e => by cases e⟩
    | some k => obtain ⟨z, hz⟩ := h j k hk; exact ⟨z, fun k' e => by cases e; exact hz⟩
  exact ⟨fun j => (h' j).choose, fun j k hk => (h' j).choose_spec k hk⟩

theorem open_rows {r : Reach} {b0 : Nat} {t e : TypeId} {fs : Array Field} {ks : List IntKind} {v : Value} {d : DataW H} {p : List MemPlace} (ht : P.underlying t = some (.slice e)) (he : P.underlying e = some (.struct fs))
    (hone : oneCellFields P fs = true) (ce : P.cellsOf e = ks.length) (hn : fs.size = ks.length) (hk : ∀ (j : Nat) (f : Field) (k : IntKind), fs[j]? = some f → ks[j]? = some k → P.underlying f.type = some (.int k))
    (hv : Value.okWide P w r b0 t v) (h : DataW.Trod enc P w base spare held t v d p) :
    ∃ a len cap z, v = .slice a len cap ∧ IsRows ks w a len cap z := by
  obtain ⟨a, len, cap, rfl⟩ := okWide_slice ht hv
  refine ⟨a, len, cap, ?_⟩
  obtain ⟨fuel, hf⟩ := h
  rcases open_slice ht hf with ⟨hcs, _⟩ | ⟨x, l, c, m, n, D, Pl, hcs, _, hl, hm, hmm, _, hx⟩
  · simp [Value.cells] at hcs
    obtain ⟨rfl, rfl, rfl⟩ := hcs
    exact ⟨fun _ _ => 0, rfl, Nat.zero_le _, .inl ⟨rfl, rfl, rfl⟩⟩
  · simp [Value.cells] at hcs
    obtain ⟨rfl, rfl, rfl⟩ := hcs
    have hlm : len ≤ m := by rw [hmm]; split <;> omega
    obtain ⟨z, hz⟩ := choose_rows (len := len) (R := fun i z => ∀ j k, ks[j]? = some k → w.cell? (x.add (i * ks.length + j)) = some (.int k (z j)) ∧ (Lit.int k (z j)).wf = true) (fun i hi => by
      refine choose_nums (R := fun j k z => w.cell? (x.add (i * ks.length + j)) = some (.int k z) ∧ (Lit.int k z).wf = true) (fun j k hjk => ?_)
      obtain ⟨cs', h1, h2⟩ := hx i (by omega)
      rw [ce] at h1
      obtain ⟨_, hlen, hcell⟩ := World.cells?_some h1
      obtain ⟨xs, q, _, _, _, hxl, hg⟩ := DataW.trod_struct he h2
      have hj : j < ks.length := (List.getElem?_eq_some_iff.1 hjk).1
      obtain ⟨f, hfj⟩ : ∃ f, fs[j]? = some f := ⟨fs[j], Array.getElem?_eq_getElem (by omega)⟩
      obtain ⟨o, c1⟩ := hone_of hone j f hfj
      have g := hg j f hfj
      rw [o, c1] at g
      have ej := hcell j hj
      rw [add_add] at ej
      have hjc : j < cs'.length := by omega
      have ed : (cs'.drop j).take 1 = [cs'[j]] := by
        rw [List.drop_eq_getElem_cons hjc]; rfl
      rw [ed, List.getElem?_eq_getElem (by omega)] at g
      obtain ⟨u, e1, _, hw⟩ := DataW.trod_int (hk j f k hfj hjk) g
      rw [List.getElem?_eq_getElem hjc] at ej
      simp at e1
      exact ⟨u, by rw [ej, e1], hw⟩)
    exact ⟨z, rfl, by omega, .inr ⟨x, rfl, hl, hm, hz⟩⟩
end
end Go.Proofs.YtkopplnjomkleaaGreat

/-
  A slice of structs that came in, whose fields are numbers and slices of ints, opened. No function of the program is named here.
-/
namespace Go.Proofs.YtkopplnjomkleaaGreat
open Go.ChangeShapes Go.WideShapes Go.RowKit Go.Deep Go.Joins

/-- A field: a number, or a slice of ints. -/
inductive FK
  | i (k : IntKind)
  | s
def FK.type (P : Program) (t : TypeId) : FK → Prop
  | .i k => P.underlying t = some (.int k)
  | .s => ∃ e, P.underlying t = some (.slice e) ∧ P.underlying e = some (.int .i64) ∧ P.cellsOf e = 1
def FK.ok (w : World) (v : Value) : FK → Prop
  | .i k => ∃ n, v = .int k n ∧ (Lit.int k n).wf = true
  | .s => ∃ xs, Rd w v xs
/-- 'len' elements, number i of which holds z i 0, z i 1, .. -/
def IsRecs (ks : List FK) (w : World) (a : Option Addr) (len cap : Nat) (z : Nat → Nat → Value) : Prop :=
  len ≤ maxLen ∧ ((a = none ∧ len = 0 ∧ cap = 0) ∨
  ∃ x, a = some x ∧ len ≤ cap ∧ cap ≤ maxLen ∧ ∀ i, i < len → ∀ j k, ks[j]? = some k → w.cell? (x.add (i * ks.length + j)) = some (z i j) ∧ k.ok w (z i j))
theorem IsRecs.len_le {ks : List FK} {w : World} {a : Option Addr} {len cap : Nat} {z : Nat → Nat → Value} (h : IsRecs ks w a len cap z) : len ≤ maxLen := h.1
theorem IsRecs.at {ks : List FK} {w : World} {a : Option Addr} {len cap : Nat} {z : Nat → Nat → Value} (h : IsRecs ks w a len cap z) (h0 : ks ≠ []) (hl : 0 < len) :
    ∃ b off, a = some ⟨b, off, none⟩ ∧ b < w.heap.size ∧ ∀ i, i < len → ∀ j k, ks[j]? = some k → w.cell? ⟨b, off + (i * ks.length + j), none⟩ = some (z i j) ∧ k.ok w (z i j) := by
  rcases h.2 with ⟨_, rfl, _⟩ | ⟨x, rfl, hlc, hm, hc⟩
  · omega
  · obtain ⟨b, off, spot⟩ := x
    obtain ⟨k, ks', rfl⟩ : ∃ k ks', ks = k :: ks' := by cases ks with | nil => exact absurd rfl h0 | cons k ks' => exact ⟨k, ks', rfl⟩
    have hc0 := (hc 0 hl 0 k rfl).1
    have hs : spot = none := by simpa [Addr.add] using World.cell?_spot hc0
    subst hs
    have e : ∀ n, (⟨b, off, none⟩ : Addr).add n = ⟨b, off + n, none⟩ := fun n => by
      unfold Addr.add; split
      · subst_vars; rfl
      · rfl
    refine ⟨b, off, rfl, ?_, fun i hi j k hk => ?_⟩
    · rw [e] at hc0; exact World.block_lt_of_cell? w _ hc0
    · have := hc i hi j k hk
      rwa [e] at this
section
variable {H : Type} {enc : TypeId × Value → H} {P : Program} {w : World} {base : Nat} {spare : Nat → Bool} {held : Bool}
theorem choose_recs {len : Nat} {R : Nat → (Nat → Value) → Prop} (h : ∀ i, i < len → ∃ z, R i z) : ∃ z : Nat → Nat → Value, ∀ i, i < len → R i (z i) := by
  have h' : ∀ i, ∃ z, i < len → R i z := fun i => by
    by_cases hi : i < len
    · obtain ⟨z, hz⟩ := h i hi; exact ⟨z, fun _ => hz⟩
    · exact ⟨fun _ => undef, fun hi' => absurd hi' hi⟩
  exact ⟨fun i => (h' i).choose, fun i hi => (h' i).choose_spec hi⟩
theorem choose_vals {ks : List FK} {R : Nat → FK → Value → Prop} (h : ∀ j k, ks[j]? = some k → ∃ z, R j k z) : ∃ z : Nat → Value, ∀ j k, ks[j]? = some k → R j k (z j) := by
  have h' : ∀ j, ∃ z, ∀ k, ks[j]? = some k → R j k z := fun j => by
    cases hk : ks[j]? with
    | none => exact ⟨undef, fun k e => by cases e⟩
    | some k => obtain ⟨z, hz⟩ := h j k hk; exact ⟨z, fun k' e => by cases e; exact hz⟩
  exact ⟨fun j => (h' j).choose, fun j k hk => (h' j).choose_spec k hk⟩
theorem field_ok {k : FK} {t : TypeId} {fuel : Nat} {u : Value} {x : DataW H × List MemPlace} (ht : k.type P t) (g : DataW.trod enc P w base spare held fuel t [u] = some x) : k.ok w u := by
  cases k with
  | i k =>
    obtain ⟨n, e1, _, hw⟩ := DataW.trod_int ht g
    simp at e1; exact ⟨n, e1, hw⟩
  | s =>
    obtain ⟨e, h1, h2, h3⟩ := ht
    rcases open_ints h1 h2 h3 g with ⟨hcs, _⟩ | ⟨y, l, c, zs, hcs, _, hl, hm, hz, _, hcell, _⟩
    · simp at hcs; subst hcs; exact ⟨[], Rd.nil w⟩
    · simp at hcs; subst hcs
      have hlz : l ≤ zs.length := by rw [hz]; split <;> omega
      have hlen : (zs.take l).length = l := by simp; omega
      refine ⟨zs.take l, some y, c, by rw [hlen], by omega, fun j hj => ?_⟩
      rw [hlen] at hj
      obtain ⟨b, off, spot⟩ := y
      have c0 := hcell 0 (by omega)
      have hs : spot = none := by simpa [Addr.add] using World.cell?_spot c0
      subst hs
      have e : ∀ n, (⟨b, off, none⟩ : Addr).add n = ⟨b, off + n, none⟩ := fun n => by
        unfold Addr.add; split
        · subst_vars; rfl
        · rfl
      have cj := hcell j (by omega)
      rw [e] at cj
      refine ⟨b, off, rfl, ?_⟩
      rw [cj]
      simp [List.getD, hj]
theorem open_recs {r : Reach} {b0 : Nat} {t e : TypeId} {fs : Array Field} {ks : List FK} {v : Value} {d : DataW H} {p : List MemPlace} (ht : P.underlying t = some (.slice e)) (he : P.underlying e = some (.struct fs))
    (hone : oneCellFields P fs = true) (ce : P.cellsOf e = ks.length) (hn : fs.size = ks.length) (hk : ∀ (j : Nat) (f : Field) (k : FK), fs[j]? = some f → ks[j]? = some k → k.type P f.type)
    (hv : Value.okWide P w r b0 t v) (h : DataW.Trod enc P w base spare held t v d p) :
    ∃ a len cap z, v = .slice a len cap ∧ IsRecs ks w a len cap z := by
  obtain ⟨a, len, cap, rfl⟩ := okWide_slice ht hv
  refine ⟨a, len, cap, ?_⟩
  obtain ⟨fuel, hf⟩ := h
  rcases open_slice ht hf with ⟨hcs, _⟩ | ⟨x, l, c, m, n, D, Pl, hcs, _, hl, hm, hmm, _, hx⟩
  · simp [Value.cells] at hcs
    obtain ⟨rfl, rfl, rfl⟩ := hcs
    exact ⟨fun _ _ => undef, rfl, Nat.zero_le _, .inl ⟨rfl, rfl, rfl⟩⟩
  · simp [Value.cells] at hcs
    obtain ⟨rfl, rfl, rfl⟩ := hcs
    have hlm : len ≤ m := by rw [hmm]; split <;> omega
    obtain ⟨z, hz⟩ := choose_recs (len := len) (R := fun i z => ∀ j k, ks[j]? = some k → w.cell? (x.add (i * ks.length + j)) = some (z j) ∧ k.ok w (z j)) (fun i hi => by
      refine choose_vals (R := fun j k z => w.cell? (x.add (i * ks.length + j)) = some z ∧ k.ok w z) (fun j k hjk => ?_)
      obtain ⟨cs', h1, h2⟩ := hx i (by omega)
      rw [ce] at h1
      obtain ⟨_, hlen, hcell⟩ := World.cells?_some h1
      obtain ⟨xs, q, _, _, _, hxl, hg⟩ := DataW.trod_struct he h2
      have hj : j < ks.length := (List.getElem?_eq_some_iff.1 hjk).1
      obtain ⟨f, hfj⟩ : ∃ f, fs[j]? = some f := ⟨fs[j], Array.getElem?_eq_getElem (by omega)⟩
      obtain ⟨o, c1⟩ := hone_of hone j f hfj
      have g := hg j f hfj
      rw [o, c1] at g
      have ej := hcell j hj
      rw [add_add] at ej
      have hjc : j < cs'.length := by omega
      have ed : (cs'.drop j).take 1 = [cs'[j]] := by
        rw [List.drop_eq_getElem_cons hjc]; rfl
      rw [ed, List.getElem?_eq_getElem (by omega)] at g
      rw [List.getElem?_eq_getElem hjc] at ej
      exact ⟨cs'[j], ej, field_ok (hk j f k hfj hjk) g⟩)
    exact ⟨z, rfl, by omega, .inr ⟨x, rfl, hl, hm, hz⟩⟩
end
end Go.Proofs.YtkopplnjomkleaaGreat
