/-
  Package grip: the contracts of New, Pin, Unpin, Depth, Len; of the reference's Pin, Unpin.
-/
import Derived.Test.YtkfmnaocdfoigaaGrip
namespace Go.Proofs.Ytkfmnaocdfoigaa
open Go.RowKit
set_option maxRecDepth 100000
section
variable {t e : TypeId} {w w1 w2 w' : World} {q n : Nat} {F F1 l : List Nat} {d d' : Nat} {L M : List (Int × Int)} {v v' o : Value}
set_option maxHeartbeats 1000000 in
theorem gnew_any (w : World) : Calls Try.prog 8 #[] w fun e w' => ∃ q, e = .returned (.pointer (some ⟨q, 0, none⟩)) ∧ Gri 44 46 w' q [q] 0 [] ∧ w.heap.size ≤ q ∧ Up w w' := by
  go_enter Try.func8, Try.ntmps8
  go_wp2
  go_ret
  exact ⟨_, rfl, gri_new _ _ _, Nat.le_refl _, Up.alloc _ _⟩
set_option maxHeartbeats 1000000 in
theorem gdepth_any (E : Gri 44 46 w q F d L) : Calls Try.prog 16 #[.pointer (some ⟨q, 0, none⟩)] w fun e w' => e = .returned (.int .i64 (d : Int)) ∧ w = w' := by
  obtain ⟨u, E⟩ := E
  obtain ⟨c0, c1⟩ := E.cells
  clear E
  go_enter Try.func16, Try.ntmps16
  go_wp2_with fail
  go_ret
  exact ⟨rfl, rfl⟩
set_option maxHeartbeats 1000000 in
theorem glen_any (E : Gri 44 46 w q F d L) : Calls Try.prog 17 #[.pointer (some ⟨q, 0, none⟩)] w fun e w' => e = .returned (.int .i64 (L.length : Nat)) ∧ w = w' := by
  obtain ⟨u, E⟩ := E
  obtain ⟨A, c, rfl⟩ := E.prs.slice
  obtain ⟨c0, c1⟩ := E.cells
  clear E
  go_enter Try.func17, Try.ntmps17
  go_wp2_with fail
  go_ret
  exact ⟨rfl, rfl⟩
set_option maxHeartbeats 2000000 in
theorem gpin_any (E : Gri 44 46 w q F d L) : Calls Try.prog 10 #[.pointer (some ⟨q, 0, none⟩)] w fun e w' => e = .returned (.tuple #[.bool (pinB d), .int .i64 (pinE d)]) ∧ Turn 44 46 w w' q F (pinD d) L := by
  obtain ⟨u, E⟩ := E
  obtain ⟨c0, c1⟩ := E.cells
  have f0 := E.top.frozen 0
  have hd := E.dle
  by_cases h15 : d = 15
  · subst h15
    have HE := Lib.hid E.same
    clear E
    go_enter Try.func10, Try.ntmps10
    go_wp2_with fail
    go_ret2
    exact ⟨rfl, HE.out⟩
  · by_cases h0 : d = 0
    · subst h0
      have HE := Lib.hid (E.turnD (d' := 1) (by omega))
      clear E
      go_enter Try.func10, Try.ntmps10
      go_wp2_with fail
      go_ret2
      exact ⟨rfl, HE.out⟩
    · have HE := Lib.hid (show Turn 44 46 w (w.setCell ⟨q, 0, none⟩ (.int .i64 ((d : Int) + 1))) q F (d + 1) L from E.turnD (d' := d + 1) (by omega))
      have HB := Lib.hid (show pinB d = false by simp [pinB, h0])
      have HC := Lib.hid (show pinE d = 0 by simp [pinE, h15])
      have HD := Lib.hid (show pinD d = d + 1 by simp [pinD, h15])
      have n15 : ((d : Int) == 15) = false := by simp; omega
      have n1 : ((d : Int) + 1 == 1) = false := by simp; omega
      clear E
      go_enter Try.func10, Try.ntmps10
      go_wp2_with fail
      go_ret2
      rw [HB.out, HC.out, HD.out]
      exact ⟨by rw [← n1]; rfl, HE.out⟩
set_option maxHeartbeats 2000000 in
theorem gunpin_any (E : Gri 44 46 w q F d L) : Calls Try.prog 12 #[.pointer (some ⟨q, 0, none⟩)] w fun e w' => e = .returned (.tuple #[.bool (unB d), .int .i64 (unE d)]) ∧ Turn 44 46 w w' q F (d - 1) (unL d L) := by
  obtain ⟨u, E⟩ := E
  obtain ⟨c0, c1⟩ := E.cells
  have f0 := E.top.frozen 0
  have f1 := E.top.frozen 1
  have hd := E.dle
  by_cases h0 : d = 0
  · subst h0
    have HE := Lib.hid E.same
    clear E
    go_enter Try.func12, Try.ntmps12
    go_wp2_with fail
    go_ret2
    exact ⟨rfl, HE.out⟩
  · by_cases h1 : d = 1
    · subst h1
      have HE := Lib.hid (show Turn 44 46 w ((w.setCell ⟨q, 0, none⟩ (.int .i64 0)).setCell ⟨q, 1, none⟩ (.slice none 0 0)) q F 0 [] from
        Turn.after ((Else.refl _ _).set (.inl E.mem) _) (Next.refl _ _) (E.putD (d' := 0) (by omega)).drop)
      clear E
      go_enter Try.func12, Try.ntmps12
      go_wp2_with fail
      go_ret2
      exact ⟨rfl, HE.out⟩
    · have HE := Lib.hid (show Turn 44 46 w (w.setCell ⟨q, 0, none⟩ (.int .i64 ((d : Int) - 1))) q F (d - 1) L by
        have := E.turnD (d' := d - 1) (by omega)
        rwa [show ((d - 1 : Nat) : Int) = (d : Int) - 1 by omega] at this)
      have HB := Lib.hid (show unB d = false by simp [unB, h1])
      have HC := Lib.hid (show unE d = 0 by simp [unE, h0])
      have HD := Lib.hid (show unL d L = L by simp [unL, h1])
      have n0 : ((d : Int) == 0) = false := by simp; omega
      have a1 : 0 < (d : Int) - 1 := by omega
      have a2 : 0 < (d : Int) := by omega
      clear E
      go_enter Try.func12, Try.ntmps12
      go_wp2_with fail
      go_ret2
      rw [HB.out, HC.out, HD.out]
      exact ⟨rfl, HE.out⟩
set_option maxHeartbeats 2000000 in
theorem rgpin_any (E : Gri 29 48 w q F d L) : Calls Try.prog 11 #[.pointer (some ⟨q, 0, none⟩)] w fun e w' => e = .returned (.tuple #[.bool (pinB d), .int .i64 (pinE d)]) ∧ Turn 29 48 w w' q F (pinD d) L := by
  obtain ⟨u, E⟩ := E
  obtain ⟨c0, c1⟩ := E.cells
  have f0 := E.top.frozen 0
  have hd := E.dle
  by_cases h15 : d = 15
  · subst h15
    have HE := Lib.hid E.same
    clear E
    go_enter Try.func11, Try.ntmps11
    go_wp2_with fail
    go_ret2
    exact ⟨rfl, HE.out⟩
  · by_cases h0 : d = 0
    · subst h0
      have HE := Lib.hid (E.turnD (d' := 1) (by omega))
      clear E
      go_enter Try.func11, Try.ntmps11
      go_wp2_with fail
      go_ret2
      exact ⟨rfl, HE.out⟩
    · have HE := Lib.hid (show Turn 29 48 w (w.setCell ⟨q, 0, none⟩ (.int .i64 ((d : Int) + 1))) q F (d + 1) L from E.turnD (d' := d + 1) (by omega))
      have HB := Lib.hid (show pinB d = false by simp [pinB, h0])
      have HC := Lib.hid (show pinE d = 0 by simp [pinE, h15])
      have HD := Lib.hid (show pinD d = d + 1 by simp [pinD, h15])
      have n15 : ((d : Int) == 15) = false := by simp; omega
      have n1 : ((d : Int) + 1 == 1) = false := by simp; omega
      clear E
      go_enter Try.func11, Try.ntmps11
      go_wp2_with fail
      go_ret2
      rw [HB.out, HC.out, HD.out]
      exact ⟨by rw [← n1]; rfl, HE.out⟩
set_option maxHeartbeats 2000000 in
theorem rgunpin_any (E : Gri 29 48 w q F d L) : Calls Try.prog 13 #[.pointer (some ⟨q, 0, none⟩)] w fun e w' => e = .returned (.tuple #[.bool (unB d), .int .i64 (unE d)]) ∧ Turn 29 48 w w' q F (d - 1) (unL d L) := by
  obtain ⟨u, E⟩ := E
  obtain ⟨c0, c1⟩ := E.cells
  have f0 := E.top.frozen 0
  have f1 := E.top.frozen 1
  have hd := E.dle
  by_cases h0 : d = 0
  · subst h0
    have HE := Lib.hid E.same
    clear E
    go_enter Try.func13, Try.ntmps13
    go_wp2_with fail
    go_ret2
    exact ⟨rfl, HE.out⟩
  · by_cases h1 : d = 1
    · subst h1
      have HE := Lib.hid (show Turn 29 48 w ((w.setCell ⟨q, 0, none⟩ (.int .i64 0)).setCell ⟨q, 1, none⟩ (.slice none 0 0)) q F 0 [] from
        Turn.after ((Else.refl _ _).set (.inl E.mem) _) (Next.refl _ _) (E.putD (d' := 0) (by omega)).drop)
      clear E
      go_enter Try.func13, Try.ntmps13
      go_wp2_with fail
      go_ret2
      exact ⟨rfl, HE.out⟩
    · have HE := Lib.hid (show Turn 29 48 w (w.setCell ⟨q, 0, none⟩ (.int .i64 ((d : Int) - 1))) q F (d - 1) L by
        have := E.turnD (d' := d - 1) (by omega)
        rwa [show ((d - 1 : Nat) : Int) = (d : Int) - 1 by omega] at this)
      have HB := Lib.hid (show unB d = false by simp [unB, h1])
      have HC := Lib.hid (show unE d = 0 by simp [unE, h0])
      have HD := Lib.hid (show unL d L = L by simp [unL, h1])
      have n0 : ((d : Int) == 0) = false := by simp; omega
      have a1 : ((d : Int) - 1 == 0) = false := by simp; omega
      have a2 : 0 < (d : Int) := by omega
      clear E
      go_enter Try.func13, Try.ntmps13
      go_wp2_with fail
      go_ret2
      rw [HB.out, HC.out, HD.out]
      exact ⟨by rw [← a1]; rfl, HE.out⟩
end
end Go.Proofs.Ytkfmnaocdfoigaa
