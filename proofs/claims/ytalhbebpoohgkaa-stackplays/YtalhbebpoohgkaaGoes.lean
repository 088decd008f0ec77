/-
  The statement's own goes, whatever comes.
-/
import Derived.Test.YtalhbebpoohgkaaGoesNew2
namespace Go.Proofs.Ytalhbebpoohgkaa
open Go.RowKit
set_option maxRecDepth 100000
section
variable {wB w w' : World} {p g q pr gr qr n t u bH : Nat}
theorem goes_in (H : PSt wB p g q pr gr qr n bH t w) (O : XOrd wB p g q pr gr qr bH) (hu : u < 4) (hn : n ≤ 400) (ht : t < 4294967295) {z : Int} (z0 : 0 ≤ z) (z1 : z < 64) :
    Calls Try.prog 15 #[.pointer (some ⟨bH, 0, none⟩), .pointer (some ⟨q, 0, none⟩), .pointer (some ⟨qr, 0, none⟩), .int .i64 (u : Int), .int .i64 z] w fun e w' => e = .returned (.bool true) ∧ ∃ t', t' ≤ t + 1 ∧ PSt wB p g q pr gr qr n bH t' w' := by
  obtain ⟨S, m, has, vP, vO, vX, vY, vL, oM, D, AW, E0⟩ := H
  rcases (D.hm u hu).ways with ⟨em, ea, ec, eo⟩ | ⟨b, r, k, cap, rb, rv, l, i, old, em, ea, ec, ex, eo, P, R⟩ | ⟨b, rb, v, rv, l, most, i, deep, old, em, ea, ec, ey, eo, P, R⟩
  · by_cases hnew : z % 2 = 1 ∧ 0 < (has u).length
    · exact goes_pushnew D AW E0 O hu em ea ec hn z0 z1 hnew
    · exact goes_popnew D AW E0 O hu em ea ec z0 z1 hnew
  · exact goes_push D AW E0 O hu em ea ec ex eo P R ht z
  · exact goes_pop D AW E0 O hu em ea ec ey eo P R ht hn z
theorem PSt.up (H : PSt wB p g q pr gr qr n bH t w) (E : Up w w') : PSt wB p g q pr gr qr n bH t w' := by
  obtain ⟨S, m, has, vP, vO, vX, vY, vL, oM, D, AW, E0⟩ := H
  exact ⟨S, m, has, vP, vO, vX, vY, vL, oM, D.up E, AW.up E, E0.up E⟩
theorem rnew_is {n : Nat} {i : Int} (hi : i = n) (h1 : n ≤ 8388608) (w : World) :
    Calls Try.prog 13 #[.int .i64 i] w fun e w' => e = .returned (.pointer (some ⟨w.heap.size + 1, 0, none⟩)) ∧ Ref w' (w.heap.size + 1) w.heap.size (List.replicate n 0) 0 ∧ Up w w' := by subst hi; exact rnew_in n h1 w
end
end Go.Proofs.Ytalhbebpoohgkaa
