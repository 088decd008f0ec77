/-
  Package stash: the contracts of Take and Over.
-/
import Derived.Test.YthmaibbminnplaaStash
namespace Go.Proofs.Ythmaibbminnplaa
open Go.RowKit
set_option maxRecDepth 100000
section
variable {t : TypeId} {w w1 w2 w' : World} {q n : Nat} {F F1 : List Nat} {m a : Int} {xs ys : List Int} {v v' o : Value}
set_option maxHeartbeats 1000000 in
theorem stake_none (E : Sta 47 w q F m []) : Calls Try.prog 13 #[.pointer (some ⟨q, 0, none⟩)] w fun e w' => e = .returned (.tuple #[.int .i64 0, .bool false]) ∧ w = w' := by
  obtain ⟨u, E⟩ := E
  obtain ⟨A, c, rfl⟩ := E.ints.slice
  obtain ⟨c0, c1⟩ := E.cells
  clear E
  go_enter Try.func13, Try.ntmps13
  go_wp2_with fail
  go_ret2
  exact ⟨rfl, rfl⟩
theorem StaV.back {c : Nat} {A : Option Addr} (E : StaV t w q F m xs (.slice A n c)) {k : Nat} (hk : k ≤ xs.length) : Gave t w (w.setCell ⟨q, 1, none⟩ (.slice A k c)) q F m (xs.take k) := by
  have e := cutHi_own A k c n c
  exact E.gave ⟨rfl, rfl, rfl, Nat.le_refl _, fun _ _ _ => rfl⟩ (cutHi_ints E.ints hk) (.inl e)
set_option maxHeartbeats 1000000 in
theorem stake_some (E : Sta 47 w q F m (ys ++ [a])) : Calls Try.prog 13 #[.pointer (some ⟨q, 0, none⟩)] w fun e w' => e = .returned (.tuple #[.int .i64 a, .bool true]) ∧ Gave 47 w w' q F m ys := by
  obtain ⟨u, E⟩ := E
  obtain ⟨A, N, c, rfl⟩ := shapeI E.ints
  obtain ⟨c0, c1⟩ := E.cells
  have f1 := E.top.frozen 1
  have hN : N = ys.length + 1 := by have := E.ints.nOf; simpa [nOf] using this
  have hm := E.ints.rd.len
  unfold maxLen at hm
  have hcap := E.ints.cap
  obtain ⟨g, off, rfl, hc⟩ := E.ints.rd.cell (j := ys.length) (by simp)
  · obtain ⟨K, hK⟩ : ∃ K, ys.length = K := ⟨_, rfl⟩
    rw [show (ys ++ [a]).getD ys.length 0 = a by simp [List.getD]] at hc
    have HP := Lib.hid (show Gave 47 w (w.setCell ⟨q, 1, none⟩ (.slice (some ⟨g, off, none⟩) K c)) q F m ys by
      have := E.back (k := K) (by simp; omega)
      rwa [show (ys ++ [a]).take K = ys by rw [← hK]; simp] at this)
    rw [hK] at hc hN
    simp only [List.length_append, hK, List.length_cons, List.length_nil] at hm
    have k0 : (0 : Int) ≤ (K : Int) := Int.natCast_nonneg _
    have k1 : (K : Int) < (N : Int) := by omega
    have a1 : wrap64 ((N : Int) - 1) = (K : Int) := by rw [wrap64_in (by omega) (by omega)]; omega
    have rs := run_cutHi (some ⟨g, off, none⟩) N c K (by omega)
    clear E hN hm hcap hK
    go_enter Try.func13, Try.ntmps13
    go_wp2_with fail
    go_ret2
    exact ⟨rfl, HP.out⟩
theorem Sta.len (E : Sta t w q F m xs) : xs.length ≤ maxLen := by obtain ⟨v, E⟩ := E; exact E.ints.rd.len
theorem Took.up (T : Took t w1 w' q F m ys o xs) (u : Up w w1) : Took t w w' q F m ys o xs := by
  obtain ⟨F', L, J, A, N, O, E⟩ := T
  have h := u.size
  exact ⟨F', L, J, A, fun b hb => (N b hb).imp id (fun h' => Nat.le_trans h h'), fun b hb => (O b hb).imp id (fun h' => Nat.le_trans h h'), (Else.of_up u).trans E⟩
theorem Gave.up (T : Gave t w1 w' q F m ys) (u : Up w w1) : Gave t w w' q F m ys := by
  obtain ⟨F', L, N, E⟩ := T
  have h := u.size
  exact ⟨F', L, fun b hb => (N b hb).imp id (fun h' => Nat.le_trans h h'), (Else.of_up u).trans E⟩
set_option maxHeartbeats 1000000 in
theorem sover_few (E : Sta 47 w q F m xs) (h : (xs.length : Int) ≤ m) (hm : m ≤ 64) : Calls Try.prog 16 #[.pointer (some ⟨q, 0, none⟩)] w fun e w' => e = .returned (.slice none 0 0) ∧ Up w w' := by
  obtain ⟨u, E⟩ := E
  obtain ⟨A, c, rfl⟩ := E.ints.slice
  obtain ⟨c0, c1⟩ := E.cells
  clear E
  obtain ⟨N, hN⟩ : ∃ N, xs.length = N := ⟨_, rfl⟩
  rw [hN] at h c1
  clear hN
  have a1 : IntKind.i64.wrap ((N : Int) - m) = (N : Int) - m := IntWalk.i64_in _ (by omega)
  have a2 : (N : Int) - m ≤ 0 := by omega
  go_enter Try.func16, Try.ntmps16
  go_upto_region 1 with fail
  go_quiet (fail)
  go_wp2_with fail
  go_ret
  exact ⟨rfl, Up.drewN _ _⟩
theorem Gave.after (E1 : Else F w w1) (X1 : Next w F F1) (G : Gave t w1 w2 q F1 m ys) : Gave t w w2 q F m ys := by
  obtain ⟨F2, S2, X2, E2⟩ := G
  have h := E1.size
  refine ⟨F2, S2, X1.trans X2 h, ⟨E2.os.trans E1.os, E2.tape.trans E1.tape, E2.output.trans E1.output, Nat.le_trans h E2.size, fun k hk hs => ?_⟩⟩
  refine (E2.block k (Nat.lt_of_lt_of_le hk h) (fun h1 => ?_)).trans (E1.block k hk hs)
  rcases X1 k h1 with h' | h'
  · exact hs h'
  · omega
/-- What was taken out is still there when something else has been put in. -/
theorem took_of {zs : List Int} (R1 : Rd w1 o ys) (A1 : Away o F1) (X1 : Next w F F1) (O1 : ∀ b, o.ownBlock = some b → b ∈ F ∨ w.heap.size ≤ b) (E1 : Else F w w1) (J : Ints w1 o ys) (G : Gave t w1 w2 q F1 m zs) : Took t w w2 q F m zs o ys := by
  obtain ⟨F2, S2, X2, E2⟩ := G
  have h := E1.size
  refine ⟨F2, S2, R1.else E2 A1, fun b hb e => ?_, X1.trans X2 h, O1, ⟨E2.os.trans E1.os, E2.tape.trans E1.tape, E2.output.trans E1.output, Nat.le_trans h E2.size, fun k hk hs => ?_⟩⟩
  · rcases X2 b hb with h' | h'
    · exact A1 b h' e
    · have := J.lt e; omega
  · refine (E2.block k (Nat.lt_of_lt_of_le hk h) (fun h1 => ?_)).trans (E1.block k hk hs)
    rcases X1 k h1 with h' | h'
    · exact hs h'
    · omega
theorem Took.cut {A : Option Addr} {c c2 K : Nat} (T : Took t w w' q F m xs (.slice A n c) ys) (h : K ≤ ys.length) : Took t w w' q F m xs (.slice A K c2) (ys.take K) := by
  obtain ⟨F1, S1, R1, A1, X1, O1, E1⟩ := T
  have e := cutHi_own A K c2 n c
  exact ⟨F1, S1, cutHi_rd R1 h, fun b hb h' => A1 b hb (e ▸ h'), X1, fun b hb => O1 b (e ▸ hb), E1⟩
set_option maxHeartbeats 2000000 in
theorem sover_many (E : Sta 47 w q F m xs) {K : Nat} (hK : (xs.length : Int) - m = K) (h0 : 0 < K) (hm0 : 0 ≤ m) (hl : xs.length ≤ 8192) :
    Calls Try.prog 16 #[.pointer (some ⟨q, 0, none⟩)] w fun e w' => ∃ A, e = .returned (.slice A K K) ∧ Took 47 w w' q F m (xs.drop K) (.slice A K K) (xs.take K) := by
  have HS := Lib.hid E
  obtain ⟨u, E⟩ := E
  obtain ⟨A, c, rfl⟩ := E.ints.slice
  obtain ⟨c0, c1⟩ := E.cells
  clear E
  obtain ⟨N, hN⟩ : ∃ N, xs.length = N := ⟨_, rfl⟩
  have HN := Lib.hid hN
  rw [hN] at hK c1 hl
  clear hN
  have a1 : IntKind.i64.wrap ((N : Int) - m) = (K : Int) := by rw [IntWalk.i64_in _ (by omega)]; omega
  have a2 : ¬ (K : Int) ≤ 0 := by omega
  have hKN : K ≤ N := by omega
  clear hK
  go_enter Try.func16, Try.ntmps16
  go_upto_region 1 with fail
  go_quiet (fail)
  have HS1 := Lib.hid (HS.out.up (Up.drewN w nq))
  go_wp2_with (first
    | (go_at_call 18; refine (sall_in HS1.out).mono ?_; rintro e w1 ⟨o, rfl, T1, J1⟩; obtain ⟨B, N1, k, rfl⟩ := shapeI J1; have e1 : N1 = N := by { have h1 := J1.nOf; have h2 := HN.out; simp [nOf] at h1; omega }; subst e1; have hck := J1.cap; have rs := run_cutLo B N1 k K hKN; have rs2 := run_cutHiM B N1 k K (Nat.le_trans hKN hck); have HT1 := Lib.hid T1; have HJ1 := Lib.hid J1; clear T1 J1)
    | (go_at_call 11; obtain ⟨F1, S1, R1, A1, X1, O1, E1⟩ := HT1.out; refine (sgive_any S1 (cutLo_rd R1 (by rw [HN.out]; exact hKN) hck) (by simp; have := HN.out; omega)).mono ?_; rintro e w2 ⟨rfl, G2⟩; have HG2 := Lib.hid (show Took 47 (w.drewN nq) w2 q F m (xs.drop K) (.slice B N1 k) xs from took_of R1 A1 X1 O1 E1 HJ1.out G2); clear S1 R1 A1 X1 O1 E1 G2))
  go_ret
  exact ⟨_, rfl, (HG2.out.cut (by rw [HN.out]; exact hKN)).up (Up.drewN _ _)⟩
end
end Go.Proofs.Ythmaibbminnplaa
