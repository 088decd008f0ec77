/-
  The contracts of package stash as the statements use them (Mine: all blocks newer than W); first of layer 8.
-/
import Derived.Test.YthmaibbminnplaaStash2
namespace Go.Proofs.Ythmaibbminnplaa
open Go.RowKit
set_option maxRecDepth 100000
section
variable {t : TypeId} {W w w1 w2 w' : World} {q n : Nat} {F F1 : List Nat} {m a : Int} {xs ys zs : List Int} {v v' o : Value}
/-- A stash all of whose blocks are newer than W, of which nothing has turned. -/
structure Mine (t : TypeId) (W w : World) (q : Nat) (m : Int) (xs : List Int) (F : List Nat) : Prop where
  sta : Sta t w q F m xs
  up : Up W w
  new : ∀ b, b ∈ F → W.heap.size ≤ b
theorem Mine.then (M : Mine t W w q m xs F) (u : Up w w') : Mine t W w' q m xs F := ⟨M.sta.up u, M.up.trans u, M.new⟩
theorem Mine.else (M : Mine t W w q m xs F) {l : List Nat} (u : Else l w w') (h : ∀ b, b ∈ F → b ∉ l) (hl : ∀ b, b ∈ l → W.heap.size ≤ b) : Mine t W w' q m xs F := ⟨M.sta.else u h, Else.up_new M.up u hl, M.new⟩
theorem Mine.gave (M : Mine t W w q m xs F) (G : Gave t w w' q F m ys) : ∃ F', Mine t W w' q m ys F' ∧ Next w F F' ∧ Else F w w' := by
  obtain ⟨F', S, N, E⟩ := G
  have h := M.up.size
  refine ⟨F', ⟨S, Else.up_new M.up E M.new, fun b hb => ?_⟩, N, E⟩
  rcases N b hb with h' | h'
  · exact M.new b h'
  · omega
theorem Mine.took (M : Mine t W w q m xs F) (T : Took t w w' q F m ys o zs) : ∃ F', Mine t W w' q m ys F' ∧ Rd w' o zs ∧ Away o F' ∧ Fresh W o ∧ Next w F F' ∧ Else F w w' := by
  obtain ⟨F', S, J, A, N, O, E⟩ := T
  have h := M.up.size
  refine ⟨F', ⟨S, Else.up_new M.up E M.new, fun b hb => ?_⟩, J, A, fun b hb => ?_, N, E⟩
  · rcases N b hb with h' | h'
    · exact M.new b h'
    · omega
  · rcases O b hb with h' | h'
    · exact M.new b h'
    · omega
theorem Took.shape (T : Took t w w' q F m ys o zs) (h : zs.length = n) : ∃ A c, o = .slice A n c := by
  obtain ⟨F', L, J, _⟩ := T
  obtain ⟨A, c, e⟩ := J.slice
  exact ⟨A, c, h ▸ e⟩
theorem snew_q (w : World) (a : Int) {m : Int} (h : cutM a = m) : Calls Try.prog 8 #[.int .i64 a] w fun e w' => ∃ q, e = .returned (.pointer (some ⟨q, 0, none⟩)) ∧ Mine 47 w w' q m [] [q] ∧ w.heap.size ≤ q :=
  (snew_any w a).mono fun _ _ ⟨q, he, S, hq, U⟩ => ⟨q, he, ⟨h ▸ S, U, fun b hb => by simp at hb; omega⟩, hq⟩
/-- Give of one item, its list just made. -/
theorem sgive1 (E : Sta 47 w q F m xs) (hl : xs.length + 1 ≤ 8192) (hx : xs ++ [a] = ys) :
    Calls Try.prog 11 #[.pointer (some ⟨q, 0, none⟩), .slice (some ⟨w.heap.size, 0, none⟩) 1 1] (w.alloc (.cells #[.int .i64 a] 3)) fun e w' => e = .returned (.tuple #[]) ∧ Gave 47 w w' q F m ys := by
  subst hx
  exact (sgive_any (E.up (Up.alloc _ _)) (rd_one w a) (by simpa using hl)).mono fun _ _ ⟨he, G⟩ => ⟨he, G.up (Up.alloc _ _)⟩
theorem rd_three (w : World) (a b c : Int) : Rd (w.alloc (.cells #[.int .i64 a, .int .i64 b, .int .i64 c] 3)) (.slice (some ⟨w.heap.size, 0, none⟩) 3 3) [a, b, c] := by
  refine ⟨_, _, rfl, by unfold maxLen; simp, fun j hj => ⟨_, _, rfl, ?_⟩⟩
  have : j = 0 ∨ j = 1 ∨ j = 2 := by simp at hj; omega
  rcases this with rfl | rfl | rfl
  · exact cell_new rfl rfl
  · exact cell_new rfl rfl
  · exact cell_new rfl rfl
theorem sgive3 (E : Sta 47 w q F m []) :
    Calls Try.prog 11 #[.pointer (some ⟨q, 0, none⟩), .slice (some ⟨w.heap.size, 0, none⟩) 3 3] (w.alloc (.cells #[.int .i64 1, .int .i64 2, .int .i64 3] 3)) fun e w' => e = .returned (.tuple #[]) ∧ Gave 47 w w' q F m [1, 2, 3] :=
  (sgive_any (E.up (Up.alloc _ _)) (rd_three w 1 2 3) (by simp)).mono fun _ _ ⟨he, G⟩ => ⟨he, G.up (Up.alloc _ _)⟩
theorem sall_to (E : Sta 47 w q F m xs) (hn : xs.length = n) : Calls Try.prog 18 #[.pointer (some ⟨q, 0, none⟩)] w fun e w' => ∃ A c, e = .returned (.slice A n c) ∧ Took 47 w w' q F m [] (.slice A n c) xs := by
  refine (sall_in E).mono ?_
  rintro e w' ⟨o, rfl, T, J⟩
  obtain ⟨A, c, rfl⟩ := T.shape hn
  exact ⟨A, c, rfl, T⟩
theorem slen_to (E : Sta 47 w q F m xs) (hn : xs.length = n) : Calls Try.prog 21 #[.pointer (some ⟨q, 0, none⟩)] w fun e w' => e = .returned (.int .i64 (n : Nat)) ∧ w = w' := hn ▸ slen_any E
theorem slist_to (E : Sta 47 w q F m xs) (hl : xs.length ≤ 8192) (hn : xs.length = n) : Calls Try.prog 20 #[.pointer (some ⟨q, 0, none⟩)] w fun e w' => ∃ A c, e = .returned (.slice A n c) ∧ Ints w' (.slice A n c) xs ∧ Fresh w (.slice A n c) ∧ Up w w' := by
  refine (slist_any E hl).mono ?_
  rintro e w' ⟨o, rfl, J, Fr, U⟩
  obtain ⟨A, c, e⟩ := J.slice
  rw [hn] at e
  subst e
  exact ⟨A, c, rfl, J, Fr, U⟩
theorem sover_to (E : Sta 47 w q F m xs) {K : Nat} (hK : (xs.length : Int) - m = K) (h0 : 0 < K) (hm0 : 0 ≤ m) (hl : xs.length ≤ 8192) (hd : xs.drop K = ys) (ht : xs.take K = zs) :
    Calls Try.prog 16 #[.pointer (some ⟨q, 0, none⟩)] w fun e w' => ∃ A, e = .returned (.slice A K K) ∧ Took 47 w w' q F m ys (.slice A K K) zs := by
  subst hd ht
  exact sover_many E hK h0 hm0 hl
theorem stake_to (E : Sta 47 w q F m xs) (h : xs = ys ++ [a]) : Calls Try.prog 13 #[.pointer (some ⟨q, 0, none⟩)] w fun e w' => e = .returned (.tuple #[.int .i64 a, .bool true]) ∧ Gave 47 w w' q F m ys := by
  subst h; exact stake_some E
theorem Rd.one {c : Nat} {A : Option Addr} (J : Rd w (.slice A n c) [a]) : ∃ g off, A = some ⟨g, off, none⟩ ∧ w.cell? ⟨g, off, none⟩ = some (.int .i64 a) := by
  obtain ⟨g, off, h1, h2⟩ := J.cell (j := 0) (by simp)
  exact ⟨g, off, h1, by simpa using h2⟩
set_option maxHeartbeats 2000000 in
theorem first_any (w : World) : Calls Try.prog 7 #[] w fun e w' => e = .returned (.bool true) ∧ Up w w' := by
  have H0 := Lib.hid (show cutM 2 = 2 by decide)
  have H1 := Lib.hid (show (([1, 2, 3] : List Int).length : Int) - 2 = (1 : Nat) by decide)
  have H2 := Lib.hid (show ([1, 2, 3] : List Int).drop 1 = [2, 3] by decide)
  have H3 := Lib.hid (show ([1, 2, 3] : List Int).take 1 = [1] by decide)
  have H4 := Lib.hid (show ([2, 3] : List Int) = [2] ++ [3] by decide)
  have H5 := Lib.hid (show ([2] : List Int).length = 1 by decide)
  have H6 := Lib.hid (show ([1, 2, 3] : List Int).length ≤ 8192 by decide)
  go_enter Try.func7, Try.ntmps7
  go_wp2_with (first
    | (go_at_call 8; refine (snew_q _ 2 H0.out).mono ?_; rintro e w1 ⟨q, rfl, M1, -⟩; have HM1 := Lib.hid M1; clear M1)
    | (go_at_call 11; refine (sgive3 HM1.out.sta).mono ?_; rintro e w2 ⟨rfl, G2⟩; obtain ⟨F2, M2, -⟩ := HM1.out.gave G2; have HM2 := Lib.hid M2; clear M2 G2)
    | (go_at_call 16; (with_reducible refine (sover_to HM2.out.sta H1.out (by decide) (by decide) H6.out H2.out H3.out).mono ?_); rintro e w3 ⟨A3, rfl, T3⟩; obtain ⟨F3, M3, J3, A3', -, -, -⟩ := HM2.out.took T3; have HM3 := Lib.hid M3; obtain ⟨g3, o3, rfl, hc3⟩ := J3.one; have HC3 := Lib.hid hc3; have HA3 := Lib.hid A3'; clear M3 T3 J3 hc3 A3')
    | (go_at_call 13; (with_reducible refine (stake_to HM3.out.sta H4.out).mono ?_); rintro e w4 ⟨rfl, G4⟩; obtain ⟨F4, M4, N4, E4⟩ := HM3.out.gave G4; have HM4 := Lib.hid M4; have c4 := E4.kept HC3.out (fun h => HA3.out _ h rfl); clear M4 G4 N4 E4)
    | (go_at_call 21; (with_reducible refine (slen_to HM4.out.sta H5.out).mono ?_); rintro e w5 ⟨rfl, rfl⟩))
  go_ret
  exact ⟨rfl, HM4.out.up⟩
end
end Go.Proofs.Ythmaibbminnplaa
