/-
  Layer 9's own: an epoch in cell 0, announcements from 1 on (Sit), made, first.
-/
import Derived.Test.YtngaokhlcdlpfaaEpStep
namespace Go.Proofs.Ytngaokhlcdlpfaa
open Go.RowKit
open W64
set_option maxRecDepth 100000
/-- An epoch with n workers over cells of its own, all newer than W: what the cells hold, how many accesses there were. -/
structure Sit (W w : World) (p g q n : Nat) (xs : List Int) (c : Int) : Prop where
  epo : ∃ s, Epo w p g q 0 1 n s ∧ s.xs = xs ∧ s.c = c
  up : Up W w
  lp : W.heap.size ≤ p
  lg : W.heap.size ≤ g
  lq : W.heap.size ≤ q
/-- A Step's or another call's end: the cells, the count, a machine. -/
structure Went (W w : World) (p g q n b : Nat) (xs : List Int) (c : Int) (M : World → Prop) (w' : World) : Prop where
  sit : Sit W w' p g q n xs c
  mach : M w'
  rest : Else [b, p, g] w w'
section
variable {W w w' : World} {p g q n b wk : Nat} {xs xs' : List Int} {c c' : Int} {a a' : Ad} {e e' : En}
theorem Sit.ups (S : Sit W w p g q n xs c) (u : Up w w') : Sit W w' p g q n xs c := by
  obtain ⟨s, E, h⟩ := S.epo
  exact ⟨⟨s, E.up u, h⟩, S.up.trans u, S.lp, S.lg, S.lq⟩
theorem Sit.else (S : Sit W w p g q n xs c) {l : List Nat} (u : Else l w w') (h : ∀ k ∈ l, W.heap.size ≤ k) (hs : p ∉ l ∧ g ∉ l ∧ q ∉ l) : Sit W w' p g q n xs c := by
  obtain ⟨s, E, h1⟩ := S.epo
  exact ⟨⟨s, E.else u hs.1 hs.2.1 hs.2.2, h1⟩, Else.up_new S.up u h, S.lp, S.lg, S.lq⟩
theorem Sit.new_off (S : Sit W w p g q n xs c) (h : w.heap.size ≤ b) : Off b p g q := by
  obtain ⟨s, E, _⟩ := S.epo
  exact E.new_off h
theorem Sit.lt (S : Sit W w p g q n xs c) : p < w.heap.size ∧ g < w.heap.size ∧ q < w.heap.size := by
  obtain ⟨s, E, _⟩ := S.epo
  exact ⟨E.mem.top.lt, E.mem.row.lt, E.obj.lt⟩
theorem Sit.len (S : Sit W w p g q n xs c) : 1 + n ≤ xs.length ∧ 1 ≤ n ∧ n ≤ 64 := by
  obtain ⟨s, E, rfl, _⟩ := S.epo
  exact ⟨E.hp, E.n0, E.n1⟩
theorem Sit.word (S : Sit W w p g q n xs c) (i : Nat) : 0 ≤ xs.getD i 0 ∧ xs.getD i 0 < 18446744073709551616 := by
  obtain ⟨s, E, rfl, _⟩ := S.epo
  exact E.ok i
theorem Stp.went {s : St} (S : Sit W w p g q n xs c) (hc : s.c = c) (hb : W.heap.size ≤ b) {ys : List Int} {M : World → Prop} (h : Stp w p g q 0 1 n b s ys M w') : Went W w p g q n b ys (wrap64 (c + 1)) M w' := by
  obtain ⟨s', h1, h2, E', M', U⟩ := h
  refine ⟨⟨⟨s', E', h2, by rw [h1, hc]⟩, Else.up_new S.up U ?_, S.lp, S.lg, S.lq⟩, M', U⟩
  intro k hk
  simp at hk
  rcases hk with rfl | rfl | rfl
  · exact hb
  · exact S.lp
  · exact S.lg
theorem adStep_to (S : Sit W w p g q n xs c) (A : Off b p g q) (hb : W.heap.size ≤ b) (P : AdM w b q n a) (h : a.fin = false) (hx : a.xs 0 n xs = xs') (ha : a.go 0 1 n xs = a') (hc : wrap64 (c + 1) = c') :
    Calls Try.prog 23 #[.pointer (some ⟨b, 0, none⟩)] w fun r w' => r = .returned (.bool true) ∧ Went W w p g q n b xs' c' (fun w' => AdM w' b q n a') w' := by
  obtain ⟨s, E, e1, e2⟩ := S.epo
  refine (adStep E A P h).mono ?_
  rintro r w' ⟨rfl, T⟩
  rw [e1, hx, ha] at T
  exact ⟨rfl, hc ▸ T.went S e2 hb⟩
theorem enStep_to (S : Sit W w p g q n xs c) (A : Off b p g q) (hb : W.heap.size ≤ b) (hw : wk < n) (P : EnM w b q wk e) (h : e.i < 2) (hx : e.xs 1 wk xs = xs') (ha : e.go 0 xs = e') (hc : wrap64 (c + 1) = c') :
    Calls Try.prog 22 #[.pointer (some ⟨b, 0, none⟩)] w fun r w' => r = .returned (.bool true) ∧ Went W w p g q n b xs' c' (fun w' => EnM w' b q wk e') w' := by
  obtain ⟨s, E, e1, e2⟩ := S.epo
  refine (enStep E A hw P h).mono ?_
  rintro r w' ⟨rfl, T⟩
  rw [e1, hx, ha] at T
  exact ⟨rfl, hc ▸ T.went S e2 hb⟩
theorem leStep_to (S : Sit W w p g q n xs c) (A : Off b p g q) (hb : W.heap.size ≤ b) (hw : wk < n) (P : LeM w b q wk false) (hx : xs.set (1 + wk) 0 = xs') (hc : wrap64 (c + 1) = c') :
    Calls Try.prog 26 #[.pointer (some ⟨b, 0, none⟩)] w fun r w' => r = .returned (.bool true) ∧ Went W w p g q n b xs' c' (fun w' => LeM w' b q wk true) w' := by
  obtain ⟨s, E, e1, e2⟩ := S.epo
  refine (leStep E A hw P).mono ?_
  rintro r w' ⟨rfl, T⟩
  rw [e1, hx] at T
  exact ⟨rfl, hc ▸ T.went S e2 hb⟩
theorem now_to (S : Sit W w p g q n xs c) {y : Int} (hy : epN (xs.getD 0 0) = y) :
    Calls Try.prog 18 #[.pointer (some ⟨q, 0, none⟩)] w fun r w' => r = .returned (.int .i64 y) ∧ Up w w' := by
  obtain ⟨s, E, rfl, _⟩ := S.epo
  exact now_any E hy
theorem pinned_to (S : Sit W w p g q n xs c) (hi : wk < n) {y : Int} {d : Bool} (hy : pinE (xs.getD (1 + wk) 0) = y) (hd : pinO (xs.getD (1 + wk) 0) = d) :
    Calls Try.prog 15 #[.pointer (some ⟨q, 0, none⟩), .int .i64 wk] w fun r w' => r = .returned (.tuple #[.int .i64 y, .bool d]) ∧ Up w w' := by
  obtain ⟨s, E, rfl, _⟩ := S.epo
  have e : s.get (((1 : Nat) : Int) + (wk : Int)) = s.xs.getD (1 + wk) 0 := by
    unfold St.get; rw [show (((1 : Nat) : Int) + (wk : Int)).toNat = 1 + wk by omega]
  exact pinned_yes E hi (by rw [e]; exact hy) (by rw [e]; exact hd)
theorem counts (S : Sit W w p g q n xs c) :
    Calls Try.prog 17 #[.pointer (some ⟨p, 0, none⟩)] w fun r w' => r = .returned (.int .i64 c) ∧ w = w' := by
  obtain ⟨s, E, _, rfl⟩ := S.epo
  exact count_any E.mem
theorem peeks (S : Sit W w p g q n xs c) {i : Int} {k : Nat} {x : Int} (hi : i = k) (hk : k < xs.length) (hx : xs.getD k 0 = x) :
    Calls Try.prog 14 #[.pointer (some ⟨p, 0, none⟩), .int .i64 i] w fun r w' => r = .returned (.int .u64 x) ∧ w = w' := by
  obtain ⟨s, E, rfl, _⟩ := S.epo
  subst hi hx
  exact peek_in E.mem ⟨by omega, by omega⟩
theorem lays (S : Sit W w p g q n xs c) {i v : Int} {k : Nat} (hi : i = k) (hk : k < xs.length) (h0 : 0 ≤ v) (h1 : v < 18446744073709551616) (hx : xs.set k v = xs') :
    Calls Try.prog 11 #[.pointer (some ⟨p, 0, none⟩), .int .i64 i, .int .u64 v] w fun r w' => r = .returned (.int .i64 0) ∧ Sit W w' p g q n xs' c ∧ Else [p, g] w w' := by
  obtain ⟨s, E, e1, e2⟩ := S.epo
  subst hi
  have hh : s.has k := ⟨by omega, by rw [e1]; omega⟩
  refine (lay_in v E.mem hh).mono ?_
  rintro r w' ⟨rfl, M, U⟩
  refine ⟨rfl, ⟨⟨_, E.turn M U E.q2 (E.ok.lay _ h0 h1) (lay_len _ _ _), ?_, e2⟩, Else.up_new S.up U ?_, S.lp, S.lg, S.lq⟩, U⟩
  · rw [← hx, ← e1]; rfl
  · intro j hj
    simp at hj
    rcases hj with rfl | rfl
    · exact S.lp
    · exact S.lg
theorem adBegin (S : Sit W w p g q n xs c) :
    Calls Try.prog 27 #[.pointer (some ⟨q, 0, none⟩)] w fun r w' => ∃ b, r = .returned (.pointer (some ⟨b, 0, none⟩)) ∧ w.heap.size ≤ b ∧ b < w'.heap.size ∧ Off b p g q ∧ AdM w' b q n ⟨0, 0, false, false⟩ ∧ Sit W w' p g q n xs c ∧ Up w w' := by
  refine (adNew w q n).mono ?_
  rintro r w' ⟨rfl, P, U⟩
  exact ⟨_, rfl, Nat.le_refl _, P.row.lt, S.new_off (Nat.le_refl _), P, S.ups U, U⟩
theorem enBegin (S : Sit W w p g q n xs c) (hw : wk < n) :
    Calls Try.prog 20 #[.pointer (some ⟨q, 0, none⟩), .int .i64 wk] w fun r w' => ∃ b, r = .returned (.tuple #[.pointer (some ⟨b, 0, none⟩), .int .i64 0]) ∧ w.heap.size ≤ b ∧ b < w'.heap.size ∧ Off b p g q ∧ EnM w' b q wk ⟨0, 0⟩ ∧ Sit W w' p g q n xs c ∧ Up w w' := by
  obtain ⟨s, E, _⟩ := S.epo
  refine (enNew E hw).mono ?_
  rintro r w' ⟨rfl, P, U⟩
  exact ⟨_, rfl, Nat.le_refl _, P.row.lt, S.new_off (Nat.le_refl _), P, S.ups U, U⟩
theorem leBegin (S : Sit W w p g q n xs c) (hw : wk < n) :
    Calls Try.prog 25 #[.pointer (some ⟨q, 0, none⟩), .int .i64 wk] w fun r w' => ∃ b, r = .returned (.tuple #[.pointer (some ⟨b, 0, none⟩), .int .i64 0]) ∧ w.heap.size ≤ b ∧ b < w'.heap.size ∧ Off b p g q ∧ LeM w' b q wk false ∧ Sit W w' p g q n xs c ∧ Up w w' := by
  obtain ⟨s, E, _⟩ := S.epo
  refine (leNew E hw).mono ?_
  rintro r w' ⟨rfl, P, U⟩
  exact ⟨_, rfl, Nat.le_refl _, P.row.lt, S.new_off (Nat.le_refl _), P, S.ups U, U⟩
end
theorem epoB_made (n : Nat) (h0 : 1 ≤ n) (h1 : n ≤ 64) : epoB (St.zero (n + 1)) 0 1 n := by
  have hl : (St.zero (n + 1)).xs.length = n + 1 := by simp [St.zero]
  refine ⟨by omega, by omega, ⟨by omega, by rw [hl]; omega⟩, ⟨by omega, by rw [hl]; omega⟩, ⟨by omega, by rw [hl]; omega⟩, by omega⟩
/-- What made makes. -/
def Made (W : World) (p g q n : Nat) (w' : World) : Prop := Sit W w' p g q n (List.replicate (n + 1) 0) 0
set_option maxHeartbeats 1000000 in
theorem made_any (n : Nat) (h0 : 1 ≤ n) (h1 : n ≤ 64) (w : World) :
    Calls Try.prog 9 #[.int .i64 (n : Int)] w fun r w' => ∃ p g q, r = .returned (.tuple #[.pointer (some ⟨p, 0, none⟩), .pointer (some ⟨q, 0, none⟩)]) ∧ Made w p g q n w' := by
  have HN := Lib.hid (new_in (n + 1) (by omega) (by omega))
  have HB := Lib.hid (epoB_made n h0 h1)
  have s1 : (n : Int) + 1 = ((n + 1 : Nat) : Int) := by omega
  have s2 : IntKind.i64.wrap ((n : Int) + 1) = ((n + 1 : Nat) : Int) := by rw [IntWalk.i64_in _ (by omega)]; omega
  have hl : (St.zero (n + 1)).xs.length = n + 1 := by simp [St.zero]
  have HL := Lib.hid (show (St.zero (n + 1)).xs.length ≤ 8388608 by rw [hl]; omega)
  clear s1
  go_enter Try.func9, Try.ntmps9
  go_wp2_with (first
    | (go_at_call 30; refine (HN.out _).mono ?_; rintro r w1 ⟨rfl, M1, U1⟩; have HM1 := Lib.hid M1; clear M1)
    | (go_at_call 31; refine (enew_yes HM1.out HL.out HB.out).mono ?_; rintro r w2 ⟨rfl, U2, O2⟩))
  go_ret2
  have M1 := HM1.out
  have l1 := M1.top.lt
  have l2 := M1.row.lt
  have l3 := U1.size
  refine ⟨_, _, _, rfl, ⟨⟨_, ⟨M1.up U2, O2, St.Ok.zero _, by omega, by omega, h0, h1, by rw [hl]; omega, by rw [hl]; omega, HL.out, .inl (by omega)⟩, rfl, rfl⟩, U1.trans U2, by omega, by omega, by omega⟩⟩
theorem made_is {n : Nat} {i : Int} (hi : i = n) (h0 : 1 ≤ n) (h1 : n ≤ 64) (w : World) :
    Calls Try.prog 9 #[.int .i64 i] w fun r w' => ∃ p g q, r = .returned (.tuple #[.pointer (some ⟨p, 0, none⟩), .pointer (some ⟨q, 0, none⟩)]) ∧ Made w p g q n w' := hi ▸ made_any n h0 h1 w
theorem fa_1 : Ad.go 0 1 1 [0, 0] ⟨0, 0, false, false⟩ = ⟨1, 0, false, false⟩ := by simp [Ad.go]
theorem fa_2 : Ad.go 0 1 1 [0, 0] ⟨1, 0, false, false⟩ = ⟨2, 0, false, false⟩ := by simp [Ad.go, Ad.bar, pinO]
theorem fa_3 : Ad.go 0 1 1 [0, 0] ⟨2, 0, false, false⟩ = ⟨3, 0, true, true⟩ := by simp [Ad.go]
theorem fx_1 : Ad.xs 0 1 [0, 0] ⟨0, 0, false, false⟩ = [0, 0] := by decide
theorem fx_2 : Ad.xs 0 1 [0, 0] ⟨1, 0, false, false⟩ = [0, 0] := by decide
theorem fx_3 : Ad.xs 0 1 [0, 0] ⟨2, 0, false, false⟩ = [1, 0] := by decide
theorem fe_3 : epN (([1, 0] : List Int).getD 0 0) = 1 := by decide
theorem Made.two {W w : World} {p g q : Nat} (h : Made W p g q 1 w) : Sit W w p g q 1 [0, 0] 0 := h
theorem fc_1 : wrap64 (0 + 1) = 1 := by rw [wrap64_in (by decide) (by decide)]; rfl
theorem fc_2 : wrap64 (1 + 1) = 2 := by rw [wrap64_in (by decide) (by decide)]; rfl
theorem fc_3 : wrap64 (2 + 1) = 3 := by rw [wrap64_in (by decide) (by decide)]; rfl
theorem f_no {i : Nat} : (⟨i, 0, false, false⟩ : Ad).fin = false := rfl
theorem f_yes {i : Nat} {c : Bool} : (⟨i, 0, c, true⟩ : Ad).fin = true := rfl
theorem f_won {i : Nat} {d : Bool} : (⟨i, 0, true, d⟩ : Ad).won = true := rfl
theorem one_w : (1 : Int) = ((1 : Nat) : Int) := rfl
set_option maxHeartbeats 2000000 in
theorem first_any (w : World) : Calls Try.prog 8 #[] w fun e w' => e = .returned (.bool true) ∧ Up w w' := by
  go_enter Try.func8, Try.ntmps8
  go_wp2_with (first
    | (go_at_call 9; refine (made_is one_w (by decide) (by decide) _).mono ?_; rintro r w1 ⟨p, g, q, rfl, S1⟩; have HS1 := Lib.hid S1.two; clear S1)
    | (go_at_call 27; refine (adBegin HS1.out).mono ?_; rintro r w2 ⟨b, rfl, b1, b2, A, P2, S2, U2⟩; have HA := Lib.hid A; have HP2 := Lib.hid P2; have HS2 := Lib.hid S2; have HB := Lib.hid (Nat.le_trans HS1.out.up.size b1); clear A P2 S2)
    | (go_at_call 23; (with_reducible refine (adStep_to HS2.out HA.out HB.out HP2.out f_no fx_1 fa_1 fc_1).mono ?_); rintro r w3 ⟨rfl, G3⟩; have HG3 := Lib.hid G3; clear G3)
    | (go_at_call 23; (with_reducible refine (adStep_to HG3.out.sit HA.out HB.out HG3.out.mach f_no fx_2 fa_2 fc_2).mono ?_); rintro r w4 ⟨rfl, G4⟩; have HG4 := Lib.hid G4; clear G4)
    | (go_at_call 23; (with_reducible refine (adStep_to HG4.out.sit HA.out HB.out HG4.out.mach f_no fx_3 fa_3 fc_3).mono ?_); rintro r w5 ⟨rfl, G5⟩; have HG5 := Lib.hid G5; clear G5)
    | (go_at_call 24; (with_reducible refine (adDone HG5.out.mach f_yes).mono ?_); rintro r w6 ⟨rfl, rfl⟩)
    | (go_at_call 28; (with_reducible refine (adWon HG5.out.mach f_won).mono ?_); rintro r w6 ⟨rfl, rfl⟩)
    | (go_at_call 18; (with_reducible refine (now_to HG5.out.sit fe_3).mono ?_); rintro r w6 ⟨rfl, U6⟩; have HS6 := Lib.hid (HG5.out.sit.ups U6); clear U6)
    | (go_at_call 17; (with_reducible refine (counts HS6.out).mono ?_); rintro r w7 ⟨rfl, rfl⟩))
  go_ret
  exact ⟨rfl, HS6.out.up⟩
end Go.Proofs.Ytngaokhlcdlpfaa
