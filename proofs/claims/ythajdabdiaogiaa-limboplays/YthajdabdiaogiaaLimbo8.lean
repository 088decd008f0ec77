/-
  Package limbo: the contract of Ready.
-/
import Derived.Test.YthajdabdiaogiaaLimbo7
namespace Go.Proofs.Ythajdabdiaogiaa
open Go.RowKit
set_option maxRecDepth 100000
section
variable {w w1 w2 w3 w4 wr w' : World} {q : Nat} {F F1 F3 : List Nat} {S S1 : Lb} {V : Nat → Value} {v : Value} {now : Int}
def nOf : Value → Nat
  | .slice _ n _ => n
  | _ => 0
theorem Ints.nOf {xs : List Int} (h : Ints w v xs) : nOf v = xs.length := by obtain ⟨A, c, rfl⟩ := h.slice; rfl
/-- How far Ready is. -/
structure RdyAt (w : World) (q : Nat) (F : List Nat) (S : Lb) (now : Int) (v : Value) (wr : World) (o : List Int) (S1 : Lb) (F1 : List Nat) : Prop where
  lim : Lim wr q F1 S1
  ints : Ints wr v o
  away : Away v F1
  next : Next w F F1
  fresh : Fresh w v
  els : Else F w wr
  outs : o ++ S1.outs now = S.outs now
  rest : S1.rest now = S.rest now
  size : S1.size + o.length = S.size
  mem : q ∈ F
def RdyRel (w : World) (q : Nat) (F : List Nat) (S : Lb) (now : Int) (v : Value) (wr : World) : Prop := ∃ o S1 F1, RdyAt w q F S now v wr o S1 F1
theorem open_to (E : Lim w q F S) {now : Int} {b : Bool} (h : S.isOpen now = b) : Calls Try.prog 10 #[.pointer (some ⟨q, 0, none⟩), .int .i64 now] w fun e w' => e = .returned (.bool b) ∧ Up w w' := h ▸ open_any E now
theorem away_q (L : Lim w q F S) (A : Away v F) : Away v [q] := fun b hb e => by simp at hb; subst hb; exact A _ L.mem e
theorem RdyAt.step {o : List Int} {k : Nat} {v5 : Value} {w5 : World} (H : RdyAt w q F S now v wr o S1 F1) (hop : S1.opn now = some k) (U : Up wr w2) (L3 : Lim w3 q F3 (S1.clear k)) (N3 : ∀ b, b ∈ F3 → b ∈ F1) (X3 : Else [q] w2 w3)
    (J5 : Ints w5 v5 (o ++ S1.L k)) (G5 : w3.grownBy w5 v.ownBlock) (A5 : v5.ownBlock = v.ownBlock ∨ v5.ownBlock = some w3.heap.size) : RdyAt w q F S now v5 w5 (o ++ S1.L k) (S1.clear k) F3 := by
  obtain ⟨_, hk, hl, _⟩ := Lb.opn_some hop
  obtain ⟨e1, e2⟩ := Lb.outs_some hop
  have hs := S1.size_clear hk
  have u3 : Else F w w3 := (H.els.up U).trans (X3.more (fun b hb => by simp at hb; subst hb; exact H.mem))
  have u5 : Else v.ownBlock.toList w3 w5 := (Else.refl _ _).grown G5 (fun b hb => .inl (by simp [hb]))
  refine ⟨L3.else u5 (fun b hb hv => ?_), J5, fun b hb e => ?_, fun b hb => H.next b (N3 b hb), fun b hb => ?_, u3.grown G5 (fun b hb => .inr (H.fresh b hb)), ?_, ?_, ?_, H.mem⟩
  · simp at hv; exact H.away b (N3 b hb) hv
  · rcases A5 with h | h
    · exact H.away b (N3 b hb) (h ▸ e)
    · rw [e] at h; injection h with h
      have := L3.lt b hb; omega
  · rcases A5 with h | h
    · exact H.fresh b (h ▸ hb)
    · rw [hb] at h; injection h with h
      have := u3.size; omega
  · rw [List.append_assoc, ← e1]; exact H.outs
  · rw [← e2]; exact H.rest
  · have := H.size; rw [List.length_append]; omega
set_option maxHeartbeats 4000000 in
theorem lready_any (E : Lim w q F S) (now : Int) (hs : S.size ≤ 8192) : Calls Try.prog 16 #[.pointer (some ⟨q, 0, none⟩), .int .i64 now] w fun e w' => ∃ o, e = .returned o ∧ Took w w' q F (S.rest now) (S.outs now) o := by
  have HE := Lib.hid E
  clear E
  go_enter Try.func16, Try.ntmps16
  go_wp2_with fail
  go_loopw [5] (fun v wr => RdyRel w q F S now v wr) (fun v _ => S.size - nOf v)
  case atStart => exact ⟨[], S, F, HE.out, Ints.nil _, fun b _ e => by simp [Value.ownBlock] at e, Next.refl _ _, fresh_nil _, Else.refl _ _, rfl, rfl, by simp, HE.out.mem⟩
  case round =>
    obtain ⟨o, S1, F1, H⟩ := hrel
    have HH := Lib.hid H
    obtain ⟨A, N, c, rfl⟩ := shapeI H.ints
    clear H
    rcases hop : S1.opn now with _ | k
    · have HO := Lib.hid (show S1.isOpen now = false by unfold Lb.isOpen; rw [hop]; rfl)
      have HOP := Lib.hid hop
      clear hop
      go_wp2_with (go_at_call 10; refine (open_to HH.out.lim HO.out).mono ?_; rintro e w1 ⟨rfl, U1⟩; have HU1 := Lib.hid U1; clear U1)
      go_ret
      obtain ⟨e1, e2⟩ := Lb.outs_none HOP.out
      have h1 := HH.out.outs
      have h2 := HH.out.rest
      rw [e1, List.append_nil] at h1
      rw [e2] at h2
      rw [← h1, ← h2]
      exact ⟨_, rfl, F1, HH.out.lim.up HU1.out, HH.out.ints.up HU1.out, HH.out.away, HH.out.next, fun b hb => .inr (HH.out.fresh b hb), HH.out.els.up HU1.out⟩
    · have HO := Lib.hid (show S1.isOpen now = true by unfold Lb.isOpen; rw [hop]; rfl)
      have HOP := Lib.hid hop
      obtain ⟨hold, hk, hl, _⟩ := Lb.opn_some hop
      have HOLD := Lib.hid hold
      have hsz := HH.out.size
      have hlk : (S1.L k).length ≤ S1.size := Lb.len_le hk
      have HL := Lib.hid hl
      have hn := HH.out.ints.nOf
      have HN := Lib.hid hn
      have HLEN := Lib.hid (show o.length + (S1.L k).length ≤ 8192 by omega)
      clear hop hold hl hn
      go_wp2_with (first
        | (go_at_call 10; refine (open_to HH.out.lim HO.out).mono ?_; rintro e w1 ⟨rfl, U1⟩; have HU1 := Lib.hid U1; clear U1)
        | (go_at_call 22; refine (oldest_to (HH.out.lim.up HU1.out) HOLD.out).mono ?_; rintro e w2 ⟨rfl, U2⟩; have HU2 := Lib.hid (HU1.out.trans U2); clear U2; unfold bptr)
        | (go_at_call 24; refine (empty_in (HH.out.lim.up HU2.out) hk).mono ?_; rintro e w3 ⟨v3, F3, rfl, J3, A3, L3, N3, O3, X3⟩; obtain ⟨B3, M3, k3, rfl⟩ := shapeI J3; have HJ3 := Lib.hid J3; have HL3 := Lib.hid L3; have HN3 := Lib.hid N3; have HX3 := Lib.hid X3; clear J3 A3 L3 N3 O3 X3)
        | (at_builtin; refine wpList_app rfl _ _ rfl rfl rfl ((HH.out.ints.up HU2.out).else HX3.out (away_q HH.out.lim HH.out.away)) HJ3.out.rd HLEN.out ?_; intro v5 w5 J5 G5 A5; obtain ⟨B5, N5, k5, rfl⟩ := shapeI J5; have HJ5 := Lib.hid J5; have HS := Lib.hid (RdyAt.step HH.out HOP.out HU2.out HL3.out HN3.out HX3.out J5 G5 A5); clear J5 G5 A5))
      go_roundw
      case rel => exact ⟨_, _, _, HS.out⟩
      case measure =>
        have h5 := HJ5.out.nOf
        have h6 := HN.out
        have h7 := List.length_pos_iff.2 HL.out
        rw [List.length_append] at h5
        simp only [nOf] at h5 h6 ⊢
        omega
end
end Go.Proofs.Ythajdabdiaogiaa
