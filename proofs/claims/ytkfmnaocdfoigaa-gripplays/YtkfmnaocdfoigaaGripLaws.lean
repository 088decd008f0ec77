/-
  The contracts of package grip as the statements use them (all blocks newer than W; answers and what is left told by equations); first of layer 10.
-/
import Derived.Test.YtkfmnaocdfoigaaGripHold
namespace Go.Proofs.Ytkfmnaocdfoigaa
open Go.RowKit
set_option maxRecDepth 100000
/-- A grip all of whose blocks are newer than W, of which nothing has turned. -/
structure GMine (t e : TypeId) (W w : World) (q : Nat) (d : Nat) (L : List (Int × Int)) (F : List Nat) : Prop where
  gri : Gri t e w q F d L
  up : Up W w
  new : ∀ b, b ∈ F → W.heap.size ≤ b
section
variable {t e : TypeId} {W w w1 w2 w' : World} {q n : Nat} {F F1 l : List Nat} {d d' : Nat} {L L' M : List (Int × Int)} {k : Int × Int} {v v' o : Value} {b : Bool} {c k0 k1 : Int}
theorem GMine.then (M : GMine t e W w q d L F) (u : Up w w') : GMine t e W w' q d L F := ⟨M.gri.up u, M.up.trans u, M.new⟩
theorem GMine.turn (M : GMine t e W w q d L F) (G : Turn t e w w' q F d' L') : ∃ F', GMine t e W w' q d' L' F' := by
  obtain ⟨F', S, N, E⟩ := G
  have h := M.up.size
  refine ⟨F', ⟨S, Else.up_new M.up E M.new, fun b hb => ?_⟩⟩
  rcases N b hb with h' | h'
  · exact M.new b h'
  · omega
theorem gnew_to (w : World) : Calls Try.prog 8 #[] w fun e w' => ∃ q, e = .returned (.pointer (some ⟨q, 0, none⟩)) ∧ GMine 44 46 w w' q 0 [] [q] :=
  (gnew_any w).mono fun _ _ ⟨q, he, S, hq, U⟩ => ⟨q, he, ⟨S, U, fun b hb => by simp at hb; omega⟩⟩
theorem gpin_to (M : GMine 44 46 W w q d L F) (hb : pinB d = b) (hc : pinE d = c) (hd : pinD d = d') :
    Calls Try.prog 10 #[.pointer (some ⟨q, 0, none⟩)] w fun e w' => e = .returned (.tuple #[.bool b, .int .i64 c]) ∧ ∃ F', GMine 44 46 W w' q d' L F' := by
  subst hb hc hd
  exact (gpin_any M.gri).mono fun _ _ ⟨he, G⟩ => ⟨he, M.turn G⟩
theorem gunpin_to (M : GMine 44 46 W w q d L F) (hb : unB d = b) (hc : unE d = c) (hd : d - 1 = d') (hL : unL d L = L') :
    Calls Try.prog 12 #[.pointer (some ⟨q, 0, none⟩)] w fun e w' => e = .returned (.tuple #[.bool b, .int .i64 c]) ∧ ∃ F', GMine 44 46 W w' q d' L' F' := by
  subst hb hc hd hL
  exact (gunpin_any M.gri).mono fun _ _ ⟨he, G⟩ => ⟨he, M.turn G⟩
theorem ghold_to (M : GMine 44 46 W w q d L F) (hc : holdE d L (k0, k1) = c) (hL : holdL d L (k0, k1) = L') :
    Calls Try.prog 14 #[.pointer (some ⟨q, 0, none⟩), .int .i64 k0, .int .i64 k1] w fun e w' => e = .returned (.int .i64 c) ∧ ∃ F', GMine 44 46 W w' q d L' F' := by
  subst hc hL
  exact (ghold_any M.gri k0 k1).mono fun _ _ ⟨he, G⟩ => ⟨he, M.turn G⟩
theorem gholds_to (M : GMine 44 46 W w q d L F) (hb : decide ((k0, k1) ∈ L) = b) :
    Calls Try.prog 18 #[.pointer (some ⟨q, 0, none⟩), .int .i64 k0, .int .i64 k1] w fun e w' => e = .returned (.bool b) ∧ GMine 44 46 W w' q d L F := by
  subst hb
  exact (gholds_any M.gri k0 k1).mono fun _ _ ⟨he, U⟩ => ⟨he, M.then U⟩
theorem gdepth_to (M : GMine 44 46 W w q d L F) :
    Calls Try.prog 16 #[.pointer (some ⟨q, 0, none⟩)] w fun e w' => e = .returned (.int .i64 (d : Nat)) ∧ w = w' := gdepth_any M.gri
theorem glen_to (M : GMine 44 46 W w q d L F) (hn : L.length = n) :
    Calls Try.prog 17 #[.pointer (some ⟨q, 0, none⟩)] w fun e w' => e = .returned (.int .i64 (n : Nat)) ∧ w = w' := hn ▸ glen_any M.gri
set_option maxHeartbeats 2000000 in
theorem first_any (w : World) : Calls Try.prog 7 #[] w fun e w' => e = .returned (.bool true) ∧ Up w w' := by
  have A0 := Lib.hid (show pinB 0 = true by decide)
  have A1 := Lib.hid (show pinE 0 = 0 by decide)
  have A2 := Lib.hid (show pinD 0 = 1 by decide)
  have B0 := Lib.hid (show holdE 1 [] (1, 1) = 0 by decide)
  have B1 := Lib.hid (show holdL 1 [] (1, 1) = [(1, 1)] by decide)
  have C0 := Lib.hid (show decide (((1 : Int), (1 : Int)) ∈ [((1 : Int), (1 : Int))]) = true by decide)
  have C1 := Lib.hid (show decide (((1 : Int), (1 : Int)) ∈ ([] : List (Int × Int))) = false by decide)
  have D0 := Lib.hid (show unB 1 = true by decide)
  have D1 := Lib.hid (show unE 1 = 0 by decide)
  have D3 := Lib.hid (show unL 1 [(1, 1)] = [] by decide)
  go_enter Try.func7, Try.ntmps7
  go_wp2_with (first
    | (go_at_call 8; refine (gnew_to _).mono ?_; rintro e w1 ⟨q, rfl, M1⟩; have HM1 := Lib.hid M1; clear M1)
    | (go_at_call 10; refine (gpin_to HM1.out A0.out A1.out A2.out).mono ?_; rintro e w2 ⟨rfl, F2, M2⟩; have HM2 := Lib.hid M2; clear M2)
    | (go_at_call 14; refine (ghold_to HM2.out B0.out B1.out).mono ?_; rintro e w3 ⟨rfl, F3, M3⟩; have HM3 := Lib.hid M3; clear M3)
    | (go_at_call 18; (with_reducible refine (gholds_to HM5.out C1.out).mono ?_); rintro e w6 ⟨rfl, M6⟩; have HM6 := Lib.hid M6; clear M6)
    | (go_at_call 18; (with_reducible refine (gholds_to HM3.out C0.out).mono ?_); rintro e w4 ⟨rfl, M4⟩; have HM4 := Lib.hid M4; clear M4)
    | (go_at_call 12; refine (gunpin_to (d' := 0) HM4.out D0.out D1.out (by decide) D3.out).mono ?_; rintro e w5 ⟨rfl, F5, M5⟩; have HM5 := Lib.hid M5; clear M5)
    | (go_at_call 16; refine (gdepth_to HM6.out).mono ?_; rintro e w7 ⟨rfl, rfl⟩))
  go_ret
  exact ⟨rfl, HM6.out.up⟩
end
end Go.Proofs.Ytkfmnaocdfoigaa
