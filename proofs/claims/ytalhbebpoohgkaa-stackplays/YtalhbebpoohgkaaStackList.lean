/-
  Package stack: List.
-/
import Derived.Test.YtalhbebpoohgkaaStack1
import Derived.Test.YtalhbebpoohgkaaStackMem
namespace Go.Proofs.Ytalhbebpoohgkaa
open Go.RowKit
open W64
set_option maxRecDepth 100000

/-- The cells hold the stack S, from its top. -/
structure Holds (s : St) (hd ln n : Nat) (S : List Nat) : Prop where
  top : topN n (s.get hd) = Stk.linkOf S - 1
  link : ∀ j, j < S.length → belowN n (s.get (ln + (S.getD j 0 : Nat))) = Stk.linkOf (S.drop (j + 1)) - 1
  small : ∀ x ∈ S, x < n
  len : S.length ≤ n
theorem I_take {S : List Nat} {k : Nat} (h : k < S.length) : I (S.take (k + 1)) = I (S.take k) ++ [((S.getD k 0 : Nat) : Int)] := by
  rw [← Stk.take_more h]; simp [I]
section
variable {w : World} {p g q hd ln n : Nat} {s : St} {S : List Nat}
/-- A slice in a new block, or nil. -/
def Fresh (w : World) (v : Value) : Prop := ∀ k, v.ownBlock = some k → w.heap.size ≤ k
def ListRel (w : World) (S : List Nat) (v i : Value) (wr : World) : Prop := ∃ k : Nat, k ≤ S.length ∧ i = .int .i64 (Stk.linkOf (S.drop k) - 1) ∧ wr.ownsRow w.heap.size 3 1 v k ((I (S.take k)).map (Value.int .i64)) ∧ Up w wr
def nOf : Value → Nat
  | .slice _ n _ => n
  | _ => 0
theorem list_step {wr wD : World} {v : Value} {k gg cap : Nat} (hk : k < S.length) (hown : wr.ownsRow w.heap.size 3 1 v k ((I (S.take k)).map (Value.int .i64))) (hu : Up w wr) {o : Obj}
    (hD : wD.ownsRow w.heap.size 3 1 (.slice (some ⟨gg, 0, none⟩) (k + 1) cap) (k + 1) ((I (S.take k)).map (Value.int .i64) ++ [.int .i64 ((S.getD k 0 : Nat) : Int)])) (hg : (wr.alloc o).grownBy wD v.ownBlock) :
    wD.ownsRow w.heap.size 3 1 (.slice (some ⟨gg, 0, none⟩) (k + 1) cap) (k + 1) ((I (S.take (k + 1))).map (Value.int .i64)) ∧ Up w wD := by
  refine ⟨by rw [I_take hk]; simpa using hD, (hu.then_alloc o).grown hg (own_ge hown)⟩
set_option maxHeartbeats 4000000 in
theorem list_in (E : Env w p g q hd ln n s) (H : Holds s hd ln n S) :
    Calls Try.prog 18 #[.pointer (some ⟨q, 0, none⟩)] w fun e w' => ∃ v, e = .returned v ∧ Ints w' v (I S) ∧ Fresh w v ∧ Up w w' := by
  obtain ⟨c0, c1, c2, c3⟩ := E.cells
  have n0 := E.n0
  have n1 := E.n1
  have hl := E.hl
  have ht := E.top
  have hk := E.ok hd
  have HE := Lib.hid E
  have HT := Lib.hid H.top
  have HHD := Lib.hid E.hasH
  have HH := Lib.hid H
  have hlen := H.len
  clear E H
  go_enter Try.func18, Try.ntmps18
  go_upto_region 2 with fail
  go_region_held3 (fun w' => w'.cell? ⟨q, 0, none⟩ = some (.pointer (some ⟨p, 0, none⟩)) ∧ w'.cell? ⟨q, 1, none⟩ = some (.int .i64 hd)) ((first | exact ⟨c0, c1⟩ | exact ⟨U1.kept c0, U1.kept c1⟩))
    (first
      | (go_at_call 30; refine (peek_in (HE.out.mem.up (up_drew w)) HHD.out).mono ?_; rintro e w9 ⟨rfl, rfl⟩)
      | (go_at_call 45; refine (ofHead_to (HE.out.up (up_drew w)) hk.1 hk.2 HT.out).mono ?_; rintro e w1 ⟨rfl, U1⟩))
  have HU := Lib.hid ((up_drew w).trans U1)
  clear U1 c0 c1 c2 c3
  go_wp2_with fail
  go_loopw [3, 4] (fun v i wr => ListRel w S v i wr) (fun v _ _ => S.length - nOf v)
  case atStart => exact ⟨0, Nat.zero_le _, rfl, World.ownsRow_nil _ _ _ _, HU.out⟩
  case round =>
    obtain ⟨k, hks, rfl, hown, hup⟩ := hrel
    obtain ⟨A, cp, rfl⟩ := own_slice hown
    have HEr := Lib.hid (HE.out.up hup)
    obtain ⟨c0, c1, c2, c3⟩ := HEr.out.cells
    have HO := Lib.hid hown
    have HUP := Lib.hid hup
    clear hown hup
    by_cases hlt : k < S.length
    · rw [Stk.linkOf_drop hlt, show (((S.getD k 0 : Nat) : Int) + 1 - 1) = ((S.getD k 0 : Nat) : Int) by omega]
      have hx := HH.out.small _ (Stk.getD_mem hlt)
      have hb := HH.out.link k hlt
      obtain ⟨x, ex⟩ : ∃ x, S.getD k 0 = x := ⟨_, rfl⟩
      rw [ex] at hx hb ⊢
      have HX := Lib.hid ex
      have HB := Lib.hid hb
      have hz := HE.out.ok (ln + x)
      have hh := Lib.hid (HE.out.hasL (i := x) (by omega) (by omega))
      clear ex hb
      have g1 : ((x : Int) == -1) = false := by simp
      have g2 : (k : Int) < (n : Int) := by omega
      have s3 : IntKind.i64.wrap ((ln : Int) + x) = ln + x := IntWalk.i64_in _ (by omega)
      obtain ⟨i9, hi, hz0, hz1, hz2⟩ := info_parts info_int
      have g63 : k + 1 ≤ maxLen := by unfold maxLen; omega
      have gby : (k + 1) * 8 ≤ 140737488355328 := by omega
      have gba : w.heap.size ≤ (wr.alloc (.cells #[.int .i64 (x : Int)] 3)).heap.size := by have := HUP.out.le; simp; omega
      go_upto_region 5 with (at_builtin; refine wpList_append_lies _ rfl _ _ 22 rfl w.heap.size 3 i9 (.int .i64 0) 1 8 Try.underlying22 hi hz0 hz1 hz2 rfl (by decide) (.slice A k cp) k ((I (S.take k)).map (Value.int .i64)) rfl (own_up HO.out (Up.alloc _ _)) ⟨wr.heap.size, 0, none⟩ 1 1 [.int .i64 (x : Int)] rfl rfl (one_new _ _ _) (by simp [Value.oneCell']) (by decide) g63 gby gba _ rfl ?_; intro gg cap2 wD hownD hgrow hat hltD)
      have HS := Lib.hid (list_step hlt HO.out HUP.out (by rw [HX.out]; exact hownD) hgrow)
      clear hownD hgrow c0 c1 c2 c3
      have HED := Lib.hid (HE.out.up HS.out.2)
      obtain ⟨c0, c1, c2, c3⟩ := HED.out.cells
      go_region_held3 (fun w' => w'.cell? ⟨q, 0, none⟩ = some (.pointer (some ⟨p, 0, none⟩)) ∧ w'.cell? ⟨q, 2, none⟩ = some (.int .i64 ln)) ((first | exact ⟨c0, c2⟩))
        (first
          | (go_at_call 30; refine (peek_in (HED.out.mem.up (up_drew wD)) hh.out).mono ?_; rintro e w9 ⟨rfl, rfl⟩)
          | (go_at_call 46; refine (ofLink_to (HED.out.up (up_drew wD)) hz.1 hz.2 HB.out).mono ?_; rintro e w9 ⟨rfl, rfl⟩))
      go_wp2_with fail
      go_roundw
      case rel => exact ⟨k + 1, by omega, rfl, own_up HS.out.1 (up_drew wD), HS.out.2.trans (up_drew wD)⟩
      case measure => simp [nOf]; omega
    · have e : S.take k = S := List.take_of_length_le (by omega)
      have e2 : S.length = k := by omega
      rw [Stk.linkOf_end (by omega)]
      have hc : (0 : Int) - 1 = -1 := by omega
      rw [hc]
      go_wp2_with fail
      go_ret
      refine ⟨_, rfl, ?_, own_ge HO.out, HUP.out⟩
      rw [e] at HO
      exact ints_of_own HO.out (by rw [I_len]; omega) rfl
end
end Go.Proofs.Ytalhbebpoohgkaa
