/-
  StackOrder, proved for every n, most and list: what is pushed comes back from the top, so many at once as are asked for and are there, behind just the accesses that the chapter names.
-/
import Derived.Test.YtalhbebpoohgkaaRows
import Derived.Test.YtalhbebpoohgkaaCuts
import Derived.WalkKit
import Derived.ProofKit
import Derived.OpenShut
import Derived.ShutString
import Derived.ChangeOld
import Derived.Below
import Derived.Carry
import Derived.Lib.SmallJoins
import Derived.OwnWalk
namespace Go.Proofs.Ytalhbebpoohgkaa.stackOrder
open Go.ChangeShapes Go.WideShapes Go.ChangeAt Go.RowKit Go.Joins Go.Proofs.Ytalhbebpoohgkaa W64
open Go.ChangeMaps (open_string shut_string)
set_option linter.unusedVariables false

theorem own : ownKnob Try.prog.godebug = none := by kernel_rfl
theorem laidOut : laidOutB Try.prog = true := by kernel_rfl

theorem Sys.other {w w' : World} {p g q n t : Nat} {s : St} {S : List Nat} {m : Nat → Stk.Mach} {has : Nat → List Nat} {l : List Nat} (Y : Sys w p g q n s t S m has) (u : Else l w w') (h1 : p ∉ l) (h2 : g ∉ l) (h3 : q ∉ l) : Sys w' p g q n s t S m has :=
  ⟨Y.env.else u h1 h2 h3, Y.len, Y.gi⟩
/-- Behind so many numbers: what is on the stack, who is used. -/
structure OSt (w3 wr : World) (p g q n ub : Nat) (W R : List Nat) (t : Nat) (v : Value) : Prop where
  sys : ∃ s, Sys wr p g q n s t W (fun _ => .idle) (Stk.upd (fun _ => []) 0 R)
  used : Whole wr ub 4 (usedRow n W)
  ints : Ints wr v (I W)
  fresh : Fresh w3 v
  els : Else [p, g, ub] w3 wr
def O1 (w3 : World) (p g q n ub : Nat) (len : Nat) (v i : Value) (wr : World) : Prop := ∃ (k t : Nat) (W R : List Nat), k ≤ len ∧ i = .int .i64 k ∧ t ≤ k ∧ OSt w3 wr p g q n ub W R t v
theorem away3 {w : World} {v : Value} {p g u : Nat} (F : Fresh w v) (hp : p < w.heap.size) (hg : g < w.heap.size) (hu : u < w.heap.size) : Away v [p, g, u] := by
  intro k hk e
  have := F k e
  simp at hk
  rcases hk with rfl | rfl | rfl <;> omega
theorem away1 {w : World} {v : Value} {u : Nat} (F : Fresh w v) (hu : u < w.heap.size) : Away v [u] := by
  intro k hk e
  have := F k e
  simp at hk
  omega
theorem away2 {w : World} {v : Value} {p g : Nat} (F : Fresh w v) (hp : p < w.heap.size) (hg : g < w.heap.size) : Away v [p, g] := by
  intro k hk e
  have := F k e
  simp at hk
  rcases hk with rfl | rfl <;> omega
theorem fresh_nil (w : World) : Fresh w (.slice none 0 0) := fun k hk => by simp [Value.ownBlock] at hk
/-- An item that is not on the stack is in the hands of the one who has all others. -/
theorem in_rest {w : World} {p g q n t : Nat} {s : St} {W R : List Nat} (Y : Sys w p g q n s t W (fun _ => .idle) (Stk.upd (fun _ => []) 0 R)) {x : Nat} (hx : x < n) (hW : x ∉ W) : x ∈ R := by
  have c := Y.gi.cnt x
  rw [if_pos hx, List.count_eq_zero_of_not_mem hW] at c
  simp [Stk.sum4, Stk.puts_idle, Stk.upd] at c
  exact List.count_pos_iff.1 (by omega)
theorem upd_back0 {h : Nat → List Nat} {R : List Nat} {w : World} {p g q n t : Nat} {s : St} {W : List Nat} {m : Nat → Stk.Mach} (Y : Sys w p g q n s t W m h) (h0 : h 0 = R) (hr : ∀ u, u ≠ 0 → h u = []) : Sys w p g q n s t W m (Stk.upd (fun _ => []) 0 R) := by
  have e : h = Stk.upd (fun _ => []) 0 R := by
    funext u; unfold Stk.upd
    split
    · subst_vars; rfl
    · rename_i hne; exact hr u hne
  rw [← e]; exact Y
/-- One more is pushed by himself. -/
theorem alone_one {w : World} {p g q n t : Nat} {s : St} {W R : List Nat} {a : Int} (x : Nat) (Y : Sys w p g q n s t W (fun _ => .idle) (Stk.upd (fun _ => []) 0 R)) (hx : x < n) (hW : x ∉ W) (hn : n ≤ 400) (ht : t < 4294967295) (ha : a = (x : Int)) :
    Calls Try.prog 28 #[.pointer (some ⟨q, 0, none⟩), .slice (some ⟨w.heap.size, 0, none⟩) 1 1] (w.alloc (.cells #[.int .i64 a] 3)) fun e w' => e = .returned (.int .i64 3) ∧ (∃ s', Sys w' p g q n s' (t + 1) (x :: W) (fun _ => .idle) (Stk.upd (fun _ => []) 0 (R.erase x))) ∧ Else [p, g] w w' := by
  subst ha
  have hp : ((Stk.upd (fun _ => []) 0 R) 0).Perm (x :: R.erase x) := List.perm_cons_erase (in_rest Y hx hW)
  have Y2 := Y.perm (u := 0) (by omega) hp
  rw [upd_upd] at Y2
  refine (alone_in (l := [x]) (rr := R.erase x) (u := 0) (Y2.up (Up.alloc _ _)) (by omega) rfl rfl (by simp) hn ht (rd_one _ (x : Int))).mono ?_
  rintro e w' ⟨rfl, s', Y', E'⟩
  rw [upd_upd] at Y'
  exact ⟨rfl, ⟨s', Y'⟩, (Else.of_up (Up.alloc _ _)).trans E'⟩
/-- While it is taken off again. -/
def O2 (w3 : World) (p g q n ub : Nat) (v : Value) (wr : World) : Prop := ∃ (t : Nat) (W : List Nat) (A : Option Addr) (cap : Nat) (s : St) (h : Nat → List Nat), v = .slice A W.length cap ∧ W.length ≤ cap ∧ Rd wr v (I W) ∧ Fresh w3 v ∧ Sys wr p g q n s t W (fun _ => .idle) h ∧ t + W.length ≤ 60 ∧ Else [p, g, ub] w3 wr
theorem I_tk (l : List Nat) (c : Nat) : I (l.take c) = (I l).take c := by simp [I, List.map_take]
theorem I_dr (l : List Nat) (c : Nat) : I (l.drop c) = (I l).drop c := by simp [I, List.map_drop]
theorem mm_is {m : Nat} (h0 : 1 ≤ m) (h1 : m ≤ 8) : min (max (m : Int) 1) 8 = (m : Int) := by omega
theorem more3 {w w' : World} {p g u : Nat} (h : Else [p, g] w w') : Else [p, g, u] w w' := h.more (by intro j hj; simp at hj ⊢; rcases hj with h | h <;> simp [h])
theorem take_to {w : World} {p g q n t c most : Nat} {s : St} {W : List Nat} {h : Nat → List Nat} (Y : Sys w p g q n s t W (fun _ => .idle) h) (hW : W ≠ []) (ht : t < 4294967295) (m0 : 1 ≤ most) (m1 : most ≤ 8) (hc : min most W.length = c) :
    Calls Try.prog 29 #[.pointer (some ⟨q, 0, none⟩), .int .i64 most] w fun e w' => ∃ r cap s' h', e = .returned (.tuple #[.slice (some ⟨r, 0, none⟩) c cap, .int .i64 ((c : Int) + 2)]) ∧ Ints w' (.slice (some ⟨r, 0, none⟩) c cap) (I (W.take c)) ∧ Sys w' p g q n s' (t + 1) (W.drop c) (fun _ => .idle) h' ∧ Else [p, g] w w' := by
  have k := takes_in (u := 0) Y (by omega) rfl hW ht (mm_is m0 m1)
  rw [hc] at k
  refine k.mono ?_
  rintro e w' ⟨r, cap, s', rfl, h1, _, h2, h3⟩
  exact ⟨r, cap, s', _, rfl, h1, h2, h3⟩
theorem head_low {w : World} {p g q n t : Nat} {s : St} {m : Nat → Stk.Mach} {h : Nat → List Nat} (Y : Sys w p g q n s t [] m h) : s.get ((0 : Nat) : Int) = (t : Int) * 4294967296 := by
  rw [get_hd, Y.gi.head]; simp [Stk.linkOf]

set_option maxRecDepth 100000 in
set_option maxHeartbeats 2000000 in
theorem walk (a0 : Int) (a1 : Int) (a2 : Option Addr) (len2 cap2 : Nat) (z2 : List Int) (w : World) (w0 : (Lit.int .i64 a0).wf = true) (w1 : (Lit.int .i64 a1).wf = true) (w2 : IsRow .i64 w a2 len2 cap2 z2) :
    Calls Try.prog 5 #[.int .i64 a0, .int .i64 a1, .slice a2 len2 cap2] w fun e w' => e = .returned (.bool true) ∧ Up w w' := by
  have HR2 := Lib.hid w2
  have hl2 := row_len w2
  unfold maxLen at hl2
  clear w0 w1 w2
  obtain ⟨x, hx, _, x0, x1⟩ := emod_letter a0 12 (by decide)
  obtain ⟨y, hy, _, y0, y1⟩ := emod_letter a1 8 (by decide)
  obtain ⟨n, hn⟩ : ∃ n : Nat, 1 + x = n := ⟨(1 + x).toNat, by omega⟩
  obtain ⟨most, hm⟩ : ∃ m : Nat, 1 + y = m := ⟨(1 + y).toNat, by omega⟩
  have HX := Lib.hid hx
  have HY := Lib.hid hy
  have n0 : 1 ≤ n := by omega
  have n1 : n ≤ 12 := by omega
  have n2 : n ≤ 400 := by omega
  have m0 : 1 ≤ most := by omega
  have m1 : most ≤ 8 := by omega
  have HN := Lib.hid hn
  have HM := Lib.hid hm
  clear hx hy hn hm
  go_enter Try.func5, Try.ntmps5
  go_upto_region 7 with (first
    | (go_at_call 9; refine (first_any _).mono ?_; rintro e w1 ⟨rfl, U1⟩)
    | (go_at_call 10; (with_reducible refine (number_is HX.out (by decide) (by decide) _).mono ?_); rintro e w' ⟨rfl, rfl⟩)
    | (go_at_call 10; (with_reducible refine (number_is HY.out (by decide) (by decide) _).mono ?_); rintro e w' ⟨rfl, rfl⟩)
    | (go_at_call 11; refine (table_in n HN.out (by omega) n2 _).mono ?_; rintro e w2 ⟨p, g, q, rfl, E2, hp, hg, hq, U2⟩; have HE2 := Lib.hid E2; clear E2))
  have gp := HE2.out.mem.top.lt
  have gg := HE2.out.mem.row.lt
  have gq := HE2.out.stk.lt
  have HU2 := Lib.hid (U1.trans U2)
  have su1 := U1.size
  by_cases h40 : 40 < len2
  · have i1 : (40 : Int) < (len2 : Int) := by omega
    go_wp2_with fail
    go_ret
    exact ⟨rfl, HU2.out⟩
  have i1 : ¬ (40 : Int) < (len2 : Int) := by omega
  clear U1 U2
  rw [HN.out, HM.out]
  have hr := run_bools n (by omega)
  go_wp2_with fail
  clear hr
  have HW3 := Lib.hid (Whole.new w2 4 (Array.replicate n (.bool false)))
  rw [usedRow_nil] at HW3 ⊢
  have HU3 := Lib.hid (Up.alloc w2 (.cells (usedRow n []) 4))
  have s3 : (w2.alloc (.cells (usedRow n []) 4)).heap.size = w2.heap.size + 1 := by simp
  have S3 := Lib.hid s3
  generalize hw3 : w2.alloc (.cells (usedRow n []) 4) = w3 at *
  generalize hub : w2.heap.size = ub at *
  have gu : ub < w3.heap.size := by omega
  have gp3 : p < w3.heap.size := by omega
  have gg3 : g < w3.heap.size := by omega
  have pu : p ∉ [ub] := by simp; omega
  have gu2 : g ∉ [ub] := by simp; omega
  have qu : q ∉ [ub] := by simp; omega
  have uf : ub ∉ [p, g] := by simp; omega
  have NU := Lib.hid (And.intro pu (And.intro gu2 (And.intro qu uf)))
  have HL := Lib.hid (sys_empty (HE2.out.up HU3.out) (List.range n) (fun x => List.count_range))
  clear hw3 s3 pu gu2 qu uf
  go_loopw [11, 13] (fun v i wr => O1 w3 p g q n ub len2 v i wr) (fun _ i _ => len2 - (intOf i).toNat)
  case atStart => exact ⟨0, 0, [], List.range n, Nat.zero_le _, rfl, Nat.le_refl _, ⟨⟨_, HL.out⟩, HW3.out, Ints.nil _, fresh_nil _, Else.refl _ _⟩⟩
  case round =>
    obtain ⟨k, t, W, R, hk, rfl, ht, O⟩ := hrel
    have HO := Lib.hid O
    obtain ⟨Av, cv, rfl⟩ := O.ints.slice
    rw [I_len]
    rw [I_len] at HO
    clear O
    have i0 : (0 : Int) ≤ (k : Int) := Int.natCast_nonneg _
    by_cases hlt : k < len2
    · have i2 : (k : Int) < (len2 : Int) := by omega
      obtain ⟨b2, o2, rfl, hb2, hc2⟩ := row_cell HR2.out hlt
      have sb := HU2.out.size
      replace hc2 := HU3.out.kept (HU2.out.kept hc2)
      have hb3 : b2 ∉ [p, g, ub] := by simp; omega
      replace hc2 := HO.out.els.kept (p := ⟨b2, o2 + k, none⟩) hc2 hb3
      obtain ⟨z, hz⟩ : ∃ z, z2.getD k 0 = z := ⟨_, rfl⟩
      rw [hz] at hc2
      obtain ⟨e, he, _, e0, e1⟩ := emod_letter z n (by omega)
      obtain ⟨i, hi⟩ : ∃ i : Nat, e = i := ⟨e.toNat, by omega⟩
      subst hi
      have HZ := Lib.hid he
      have iN : i < n := by omega
      clear hz he e0 e1 hb3
      have d1 : (0 : Int) < n := by omega
      have d2 : (n : Int) < 9223372036854775808 := by omega
      have j0 : (0 : Int) ≤ (i : Int) := Int.natCast_nonneg _
      have j1 : (i : Int) < (n : Int) := by omega
      have cu := HO.out.used.cell (usedRow_get W iN)
      have fu := HO.out.used.frozen i
      by_cases hin : i ∈ W
      · rw [decide_eq_true hin] at cu
        go_wp2_with (go_at_call 10; (with_reducible refine (number_is HZ.out d1 d2 _).mono ?_); rintro e w' ⟨rfl, rfl⟩)
        go_roundw
        case rel => exact ⟨k + 1, t, W, R, by omega, by go_num, by omega, HO.out⟩
        case measure => simp [intOf]; omega
      · rw [decide_eq_false hin] at cu
        have HNI := Lib.hid hin
        clear hin
        go_upto_region 17 with (go_at_call 10; (with_reducible refine (number_is HZ.out d1 d2 _).mono ?_); rintro e w' ⟨rfl, rfl⟩)
        have HW5 := Lib.hid (HO.out.used.set i (.bool true))
        rw [usedRow_put] at HW5
        have HE5 := Lib.hid ((Else.refl [ub] wr).set (p := ⟨ub, i, none⟩) (.inl (by simp)) (.bool true))
        generalize hw5 : wr.setCell ⟨ub, i, none⟩ (.bool true) = w5 at *
        clear hw5 cu fu hc2
        obtain ⟨s5, Y5⟩ := HO.out.sys
        have HY5 := Lib.hid (Sys.other Y5 HE5.out NU.out.1 NU.out.2.1 NU.out.2.2.1)
        have HA5 := Lib.hid (alone_one (a := (i : Int)) i HY5.out iN HNI.out n2 (by omega) rfl)
        have HJ5 := Lib.hid (HO.out.ints.else HE5.out (away1 HO.out.fresh gu))
        clear Y5
        go_upto_region 19 with (first
          | (go_at_call 28; (with_reducible refine HA5.out.mono ?_); rintro e w6 ⟨rfl, Y6, E6⟩; have HY6 := Lib.hid Y6; have HE6 := Lib.hid E6; clear Y6 E6))
        have HJ6 := Lib.hid (HJ5.out.else HE6.out (away2 HO.out.fresh gp3 gg3))
        have HW6 := Lib.hid (HE6.out.whole HW5.out NU.out.2.2.2)
        have hWl := HY5.out.gi.len
        have e6 := HE6.out.size
        have e5 := HE5.out.size
        have e3 := HO.out.els.size
        go_wp2_with (at_builtin; refine wpList_app rfl _ _ rfl rfl rfl (ints_new _ (i : Int)) (HJ6.out.rd.up (Up.alloc _ _)) (by rw [I_len]; simp; omega) ?_; intro v' wD hD hgrow hat)
        go_roundw
        case rel =>
          have UD := up_app (Up.alloc w6 _) hgrow (fresh_row (Nat.le_refl _))
          obtain ⟨s6, Y6⟩ := HY6.out
          refine ⟨k + 1, t + 1, i :: W, R.erase i, by omega, by go_num, by omega, ⟨⟨s6, Y6.up UD⟩, HW6.out.up UD, hD, ?_, ?_⟩⟩
          · exact fresh_app (fresh_row (by omega)) (by simp; omega) hat
          · exact ((HO.out.els.trans (HE5.out.more (by intro j hj; simp at hj ⊢; simp [hj]))).trans (more3 HE6.out)).up UD
        case measure => simp [intOf]; omega
    · have i2 : ¬ (k : Int) < (len2 : Int) := by omega
      obtain ⟨s4, Y4⟩ := HO.out.sys
      have hWl := Y4.gi.len
      have HY4 := Lib.hid Y4
      have HC4 := Lib.hid HO.out.ints.cap
      clear Y4
      go_upto_region 22 with (first
        | (go_at_call 18; refine (list_in HY4.out.env HY4.out.holds).mono ?_; rintro e w7 ⟨v7, rfl, J7, F7, U7⟩; have HJ7 := Lib.hid J7; have HU7 := Lib.hid U7; clear J7 F7 U7)
        | (go_at_call 17; refine (same_in (xs := I W) HJ7.out.rd (HO.out.ints.up HU7.out).rd).mono ?_; rintro e w8 ⟨rfl, U8⟩; have HU8 := Lib.hid (HU7.out.trans U8); clear U8))
      go_loopw [11] (fun v wr => O2 w3 p g q n ub v wr) (fun v _ => nOf v)
      case atStart => exact ⟨t, W, Av, cv, s4, _, rfl, HC4.out, (HO.out.ints.up HU8.out).rd, HO.out.fresh, HY4.out.up HU8.out, by omega, HO.out.els.up HU8.out⟩
      case round =>
        clear HO HC4 HY4 HJ7 HU7 HU8 HL HW3
        obtain ⟨t, W, A, cap, s, h, rfl, hcap, R, F, Y, ht, E⟩ := hrel
        have HRd := Lib.hid R
        have HF := Lib.hid F
        have HY := Lib.hid Y
        have HE := Lib.hid E
        clear R F Y E
        by_cases hW : 0 < W.length
        · have i3 : (0 : Int) < (W.length : Int) := by omega
          have HNE := Lib.hid (List.length_pos_iff.1 hW)
          by_cases hm : most ≤ W.length
          · have i4 : (most : Int) ≤ (W.length : Int) := by omega
            have h4 : min most W.length = most := by omega
            have HT := Lib.hid (take_to HY.out HNE.out (by omega) m0 m1 h4)
            have hcH := run_cutHi A W.length cap (most) (by omega)
            have hcL := run_cutLo A W.length cap (most) (by omega)
            have HRH := Lib.hid (cutHi_rd (c := most) HRd.out (by rw [I_len]; omega))
            have HRL := Lib.hid (cutLo_rd (c := most) HRd.out (by rw [I_len]; omega) hcap)
            rw [← I_tk] at HRH
            rw [← I_dr] at HRL
            go_wp2_with (first
              | (go_at_call 29; (with_reducible refine HT.out.mono ?_); rintro e w9 ⟨r9, c9, s9, h9, rfl, J9, Y9, E9⟩; have HJ9 := Lib.hid J9; have HY9 := Lib.hid Y9; have HE9 := Lib.hid E9; clear J9 Y9 E9)
              | (go_at_call 17; refine (same_in (xs := I (W.take (most))) HJ9.out.rd (HRH.out.else HE9.out (fun j hj e => away2 HF.out gp3 gg3 j hj ((cutHi_own _ _ _ _).symm.trans e)))).mono ?_; rintro e w10 ⟨rfl, U10⟩; have HU10 := Lib.hid U10; clear U10))
            go_roundw
            case rel =>
              obtain ⟨A', eA⟩ := cutLo_is A (most) W.length cap
              refine ⟨t + 1, W.drop (most), A', cap - (most), s9, h9, by rw [eA, List.length_drop], by rw [List.length_drop]; omega, (HRL.out.else HE9.out (fun j hj e => away2 HF.out gp3 gg3 j hj ((cutLo_own _ _ _ _).symm.trans e))).up HU10.out, fun j hj => HF.out j ((cutLo_own _ _ _ _).symm.trans hj), HY9.out.up HU10.out, by rw [List.length_drop]; omega, (HE.out.trans (more3 HE9.out)).up HU10.out⟩
            case measure => simp [cutLo, sliced, nOf]; omega
          · have i4 : (W.length : Int) ≤ (most : Int) := by omega
            have i5 : ¬ (most : Int) ≤ (W.length : Int) := by omega
            have h4 : min most W.length = W.length := by omega
            have HT := Lib.hid (take_to HY.out HNE.out (by omega) m0 m1 h4)
            have hcH := run_cutHi A W.length cap (W.length) (by omega)
            have hcL := run_cutLo A W.length cap (W.length) (by omega)
            have HRH := Lib.hid (cutHi_rd (c := W.length) HRd.out (by rw [I_len]; omega))
            have HRL := Lib.hid (cutLo_rd (c := W.length) HRd.out (by rw [I_len]; omega) hcap)
            rw [← I_tk] at HRH
            rw [← I_dr] at HRL
            go_wp2_with (first
              | (go_at_call 29; (with_reducible refine HT.out.mono ?_); rintro e w9 ⟨r9, c9, s9, h9, rfl, J9, Y9, E9⟩; have HJ9 := Lib.hid J9; have HY9 := Lib.hid Y9; have HE9 := Lib.hid E9; clear J9 Y9 E9)
              | (go_at_call 17; refine (same_in (xs := I (W.take (W.length))) HJ9.out.rd (HRH.out.else HE9.out (fun j hj e => away2 HF.out gp3 gg3 j hj ((cutHi_own _ _ _ _).symm.trans e)))).mono ?_; rintro e w10 ⟨rfl, U10⟩; have HU10 := Lib.hid U10; clear U10))
            go_roundw
            case rel =>
              obtain ⟨A', eA⟩ := cutLo_is A (W.length) W.length cap
              refine ⟨t + 1, W.drop (W.length), A', cap - (W.length), s9, h9, by rw [eA, List.length_drop], by rw [List.length_drop]; omega, (HRL.out.else HE9.out (fun j hj e => away2 HF.out gp3 gg3 j hj ((cutLo_own _ _ _ _).symm.trans e))).up HU10.out, fun j hj => HF.out j ((cutLo_own _ _ _ _).symm.trans hj), HY9.out.up HU10.out, by rw [List.length_drop]; omega, (HE.out.trans (more3 HE9.out)).up HU10.out⟩
            case measure => simp [cutLo, sliced, nOf]; omega
        · have i3 : ¬ (0 : Int) < (W.length : Int) := by omega
          have hW0 : W = [] := List.length_eq_zero_iff.1 (by omega)
          subst hW0
          have HT := Lib.hid (takes_none (u := 0) HY.out (by omega) rfl (mm_is m0 m1))
          have HLOW := Lib.hid (low32 t (by omega))
          go_upto_region 29 with (first
            | (go_at_call 29; (with_reducible refine HT.out.mono ?_); rintro e w9 ⟨s9, rfl, _, Y9, E9⟩; have HY9 := Lib.hid Y9; have HE9 := Lib.hid E9; clear Y9 E9))
          have HP := Lib.hid (head_low HY9.out)
          have hlow := HLOW.out
          go_wp2_with (first
            | (go_at_call 18; refine (list_in HY9.out.env HY9.out.holds).mono ?_; rintro e wa ⟨va, rfl, Ja, Fa, Ua⟩; obtain ⟨Aa, ca, rfl⟩ := Ja.slice; have HUa := Lib.hid Ua; clear Ja Fa Ua)
            | (go_at_call 30; refine (peek_in (HY9.out.env.up HUa.out).mem HY9.out.env.hasH).mono ?_; rintro e wb ⟨rfl, rfl⟩; rw [HP.out]))
          go_ret
          refine ⟨rfl, Else.up_new (HU2.out.trans HU3.out) (s := [p, g, ub]) (((HE.out.trans (more3 HE9.out))).up HUa.out) ?_⟩
          · intro j hj; simp at hj; omega

set_option maxRecDepth 100000 in
theorem lifted (os : Os) (started : os.Started) (H : Type) (enc : TypeId × Value → H) :
    ReturnsInHanded {} Try.checked os 5 .any (Rows.stackOrderSpec.pre6 enc Try.prog Try.f5 Rows.stackOrderRow.domain false) (Rows.stackOrderSpec.post enc Try.prog Try.f5 false true false false) := by
  refine returnsInHanded_of_change (C := Try.checked) own started (by kernel_rfl) Try.func5
    (ChangeSpec.witness6 (enc := enc) (C := Try.checked) false ⟨#[], #[.int .i64 0, .int .i64 0, .slice none 0 0], []⟩ 8 (by kernel_rfl) (by kernel_rfl) (by kernel_rfl) (by kernel_rfl)) ?_
  intro W base args ds gs before hval0 hW hcnd _
  have hval : ∀ (j : Nat) t v, Try.f5.params[j]? = some t → args[j]? = some v → Value.okWide Try.prog W .any base t v := hval0
  have hW' := hW
  obtain ⟨p, q, hA0, hV, rfl, hfz, hnd⟩ := hW
  have hA : DataW.TrodAll enc Try.prog W 0 (fun _ => true) true Try.f5.params.toList args.toList ds p := hA0
  rw [Try.params5] at hA hval
  obtain ⟨v0, vs0, d0, ds0, p0, q0, hargs, rfl, rfl, h0, r0⟩ := trodAll_cons hA
  obtain ⟨v1, vs1, d1, ds1, p1, q1, rfl, rfl, rfl, h1, r1⟩ := trodAll_cons r0
  obtain ⟨v2, vs2, d2, ds2, p2, q2, rfl, rfl, rfl, h2, r2⟩ := trodAll_cons r1
  obtain ⟨rfl, rfl, rfl⟩ := trodAll_nil r2
  obtain rfl : args = #[v0, v1, v2] := by cases args; simp_all
  obtain ⟨rfl, rfl⟩ := trodVars_none hV
  have k0 := h0
  have lt0 : ∀ x ∈ p0, x.block < W.heap.size := by obtain ⟨m, hm⟩ := k0; exact DataW.trod_lt m _ _ _ hm
  obtain ⟨a0, rfl, rfl, rfl, w0⟩ := open_int Try.underlying3 (hval 0 3 v0 rfl rfl) h0
  have k1 := h1
  have lt1 : ∀ x ∈ p1, x.block < W.heap.size := by obtain ⟨m, hm⟩ := k1; exact DataW.trod_lt m _ _ _ hm
  obtain ⟨a1, rfl, rfl, rfl, w1⟩ := open_int Try.underlying3 (hval 1 3 v1 rfl rfl) h1
  have k2 := h2
  have lt2 : ∀ x ∈ p2, x.block < W.heap.size := by obtain ⟨m, hm⟩ := k2; exact DataW.trod_lt m _ _ _ hm
  obtain ⟨a2, len2, cap2, rfl⟩ := okWide_slice Try.underlying22 (hval 2 22 v2 rfl rfl)
  obtain ⟨z2, w2⟩ : ∃ zs, IsRow .i64 W a2 len2 cap2 zs := by
    obtain ⟨fuel, hf⟩ := h2
    rcases open_ints Try.underlying22 Try.underlying3 (by kernel_rfl) hf with ⟨hcs, _⟩ | ⟨x, l, c, zs, hcs, _, hl, hm, hz, _, hcell, hwz⟩
    · simp [Value.cells] at hcs
      obtain ⟨rfl, rfl, rfl⟩ := hcs
      exact ⟨[], .inl ⟨rfl, rfl, rfl, rfl⟩⟩
    · simp [Value.cells] at hcs
      obtain ⟨rfl, rfl, rfl⟩ := hcs
      exact ⟨zs, .inr ⟨_, rfl, hl, hm, by simpa using hz, hcell, hwz⟩⟩
  clear hA0 hval0
  refine (walk a0 a1 a2 len2 cap2 z2 W w0 w1 w2).mono fun e W' ⟨he, bel⟩ => ?_
  subst he
  exact ⟨_, rfl, _, _, _, [], _, [], hW', trodAll_mk1 (shut_bool Try.underlying4 _), (trodAll_cons_mk (Below.trod laidOut (by kernel_rfl) (of_decide_eq_true (by kernel_rfl)) k0 bel lt0) (trodAll_cons_mk (Below.trod laidOut (by kernel_rfl) (of_decide_eq_true (by kernel_rfl)) k1 bel lt1) (trodAll_cons_mk (Below.trod laidOut (by kernel_rfl) (of_decide_eq_true (by kernel_rfl)) k2 bel lt2) trodAll_mk0))), rfl, Below.frame bel _, fun h => by cases h⟩

theorem over : Rows.stackOrderRow.holds Try.pinned (OpenSpec.ofChange Rows.stackOrderSpec) :=
  OpenClaim.holds_of_wide 5 Try.f5 rfl rfl rfl rfl rfl rfl rfl ⟨rfl, rfl, rfl, rfl, rfl⟩ rfl rfl rfl rfl rfl (by kernel_rfl) Try.func5 (by kernel_rfl)
    (of_decide_eq_true (by kernel_rfl)) (by unfold Func.isWrapper; first | (rw [if_pos (by decide +kernel)]; kernel_rfl) | (rw [if_neg (by decide +kernel)]; exact ⟨rfl, rfl⟩))
    (fun os started H enc _ => lifted os started H enc)

/-- THE STATEMENT -/
theorem proved : Rows.StackOrderSaid := over
#print axioms proved
end Go.Proofs.Ytalhbebpoohgkaa.stackOrder
