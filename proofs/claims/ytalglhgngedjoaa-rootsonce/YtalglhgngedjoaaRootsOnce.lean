/-
  RootsOnce of layer 11: however many end one region at once, one does it, the others are told that it is no more; for all numbers and every row of numbers.
-/
import Derived.Test.YtalglhgngedjoaaPart17
import Derived.Test.YtalglhgngedjoaaRows
import Derived.WalkKit
import Derived.ProofKit
import Derived.OpenShut
import Derived.ShutString
import Derived.ChangeOld
import Derived.Below
import Derived.Carry
import Derived.Lib.SmallJoins
namespace Go.Proofs.Ytalglhgngedjoaa.rootsOnce
open Go.ChangeShapes Go.WideShapes Go.ChangeAt Go.RowKit Go.Joins Go.Proofs.Ytalglhgngedjoaa W64
open Go.ChangeMaps (open_string shut_string)
set_option linter.unusedVariables false

theorem own : ownKnob Try.prog.godebug = none := by kernel_rfl
theorem laidOut : laidOutB Try.prog = true := by kernel_rfl


set_option maxHeartbeats 8000000 in
set_option maxRecDepth 100000 in
theorem walk (a0 : Int) (a1 : Int) (a2 : Option Addr) (len2 cap2 : Nat) (z2 : List Int) (w : World) (w0 : (Lit.int .i64 a0).wf = true) (w1 : (Lit.int .i64 a1).wf = true) (w2 : IsRow .i64 w a2 len2 cap2 z2) :
    Calls Try.prog 3 #[.int .i64 a0, .int .i64 a1, .slice a2 len2 cap2] w fun e w' => e = .returned (.bool true) ∧ Up w w' := by
  have HW2 := Lib.hid w2
  have hm := row_len w2
  unfold maxLen at hm
  clear w0 w1 w2
  by_cases hlen : len2 ≤ 60
  rotate_left
  · have hl2 : (60 : Int) < (len2 : Int) := by omega
    go_enter Try.func3, Try.ntmps3
    go_wp2_with (go_at_call 4; refine (first11 _).mono ?_; rintro r wA ⟨rfl, UA⟩)
    go_ret
    exact ⟨rfl, UA⟩
  have hl2 : ¬ (60 : Int) < (len2 : Int) := by omega
  obtain ⟨y, hy, _, y0, y1⟩ := emod_letter a0 4 (by decide)
  obtain ⟨k, hk⟩ : ∃ k : Nat, 2 + y = (k : Int) := ⟨(2 + y).toNat, by omega⟩
  have k2 : 2 ≤ k := by omega
  have k5 : k ≤ 5 := by omega
  have HY := Lib.hid hy
  have HK := Lib.hid hk
  clear hy hk
  go_enter Try.func3, Try.ntmps3
  go_wp2_with (first
    | (go_at_call 4; refine (first11 _).mono ?_; rintro r wA ⟨rfl, UA⟩; have HUA := Lib.hid UA; clear UA)
    | (go_at_call 5; (with_reducible refine (number_is HY.out (by decide) (by decide) _).mono ?_); rintro r w' ⟨rfl, rfl⟩)
    | (go_at_call 6; refine (made_two _).mono ?_; rintro r w1 ⟨l, rfl, T1⟩; have HT := Lib.hid (show Sole wA w1 l 2 (m0 2) from T1.sole); clear T1)
    | (go_at_call 7; refine (once_start HT.out a1).mono ?_; rintro r w2 ⟨rfl, C2⟩; have HC2 := Lib.hid C2; clear C2))
  rw [HK.out]
  obtain ⟨XL, cls, X0⟩ := HC2.out
  have HX0 := Lib.hid X0
  clear X0
  go_loopw [15, 16] (fun v i wr => OncA wA l XL cls k v i wr) (fun _ i _ => k - (intOf i).toNat)
  case atStart => exact ⟨[], rfl, by simp, HX0.out⟩
  case round =>
    obtain ⟨bs, rfl, hj, X⟩ := hrel
    have HX := Lib.hid X
    obtain ⟨A, cap, rfl⟩ := own_slice X.row
    clear X
    have i0 : (0 : Int) ≤ (bs.length : Int) := Int.natCast_nonneg _
    by_cases hlt : bs.length < k
    · have i1 : (bs.length : Int) < (k : Int) := by omega
      go_wp2_with (first
        | (go_at_call 8; refine (HX.out.begin_).mono ?_; rintro r w3 ⟨b, rfl, M3, b3, U3⟩; have HM3 := Lib.hid M3; have HB3 := Lib.hid b3; have HU3 := Lib.hid U3; clear M3 b3 U3)
        | (at_builtin; refine wpList_ptr (b := b) rfl _ _ rfl rfl rfl (HX.out.row.up HU3.out) (by omega) ?_; intro r cp w4 J4 G4 A4; have HX4 := Lib.hid (HX.out.push (by omega) HU3.out HB3.out HM3.out J4 G4 A4); clear J4 G4 A4))
      go_roundw
      case rel => exact ⟨bs ++ [b], by simp, by simp; omega, HX4.out⟩
      case measure => simp [intOf]; omega
    · have i1 : ¬ (bs.length : Int) < (k : Int) := by omega
      obtain rfl : bs.length = k := by omega
      obtain ⟨r, cp, e⟩ := HX.out.shape (by omega)
      injection e with e1 _ e3
      subst e1 e3
      clear HT HX0 HC2
      go_wp2_with fail
      go_loopw [19] (fun i wr => OncB wA l XL cls (.slice (some ⟨r, 0, none⟩) bs.length cap) bs len2 i wr) (fun i _ => len2 - (intOf i).toNat)
      case atStart => exact ⟨0, _, _, rfl, Nat.zero_le _, HX.out⟩
      case round =>
        obtain ⟨j, m, d, rfl, hj, X⟩ := hrel
        have HX2 := Lib.hid X
        clear X
        have j0 : (0 : Int) ≤ (j : Int) := Int.natCast_nonneg _
        by_cases hlt : j < len2
        · have j1 : (j : Int) < (len2 : Int) := by omega
          obtain ⟨bl, off, rfl, hb, hc⟩ := row_cell HW2.out hlt
          obtain ⟨sj, _, Tj⟩ := HX2.out.sole
          replace hc := (HUA.out.trans Tj.up).kept hc
          clear Tj
          obtain ⟨z, hz⟩ : ∃ z, z2.getD j 0 = z := ⟨_, rfl⟩
          rw [hz] at hc
          clear hz
          obtain ⟨u', hu', _, u0, u1⟩ := emod_letter z (bs.length : Int) (by omega)
          obtain ⟨u, rfl⟩ : ∃ u : Nat, u' = u := ⟨u'.toNat, by omega⟩
          obtain ⟨b, hbu, hbc⟩ := HX2.out.at_ (u := u) (by omega)
          have HU := Lib.hid hu'
          have HBU := Lib.hid hbu
          have hk0 := Lib.hid (show (0 : Int) < (bs.length : Int) by omega)
          have hk1 := Lib.hid (show (bs.length : Int) < 9223372036854775808 by omega)
          clear hu' hbu
          go_wp2_with (first
            | (go_at_call 5; (with_reducible refine (number_is HU.out hk0.out hk1.out _).mono ?_); rintro r w' ⟨rfl, rfl⟩)
            | (go_at_call 9; (with_reducible refine (HX2.out.step HBU.out).mono ?_); rintro r w5 ⟨dd, rfl, O5⟩; have HO5 := Lib.hid O5; clear O5))
          go_roundw
          case rel =>
            obtain ⟨a', x', X', _⟩ := HO5.out
            exact ⟨j + 1, _, _, by go_num, by omega, X'⟩
          case measure => simp [intOf]; omega
        · have j1 : ¬ (j : Int) < (len2 : Int) := by omega
          go_wp2_with fail
          go_loopw [20, 21] (fun fn i wr => OncC wA l XL cls (.slice (some ⟨r, 0, none⟩) bs.length cap) bs fn i wr) (fun _ i _ => bs.length - (intOf i).toNat)
          case atStart => exact ⟨0, _, _, rfl, Nat.zero_le _, rfl, fun i hi => absurd hi (Nat.not_lt_zero _), HX2.out⟩
          case round =>
            obtain ⟨n, m3, d3, rfl, hn, rfl, h5, X⟩ := hrel
            have HX3 := Lib.hid X
            have H5 := Lib.hid h5
            clear X h5
            have n0 : (0 : Int) ≤ (n : Int) := Int.natCast_nonneg _
            obtain ⟨fn, hfn⟩ : ∃ fn, sumA (fun i => fineN (m3 i)) n = fn := ⟨_, rfl⟩
            rw [hfn]
            by_cases hlt3 : n < bs.length
            · have n1 : (n : Int) < (bs.length : Int) := by omega
              have HFN := Lib.hid hfn
              clear hfn
              go_wp2_with fail
              go_loopw [22] (fun s wr => OncD wA l XL cls (.slice (some ⟨r, 0, none⟩) bs.length cap) bs n fn s wr) (fun s _ => 20 - (intOf s).toNat)
              case atStart => exact ⟨0, _, _, rfl, by omega, HFN.out, H5.out, leftN_le _ _, HX3.out⟩
              case round =>
                obtain ⟨t, m4, d4, rfl, ht, hw4, h54, hlast, X⟩ := hrel
                have HX4 := Lib.hid X
                have HW4 := Lib.hid hw4
                have H54 := Lib.hid h54
                have HLA := Lib.hid hlast
                clear X hw4 h54 hlast
                have t0 : (0 : Int) ≤ (t : Int) := Int.natCast_nonneg _
                obtain ⟨b, hbu, hbc⟩ := HX4.out.at_ (u := n) hlt3
                have HBU := Lib.hid hbu
                clear hbu
                by_cases hlt4 : t < 20
                · have t1 : (t : Int) < 20 := by omega
                  go_wp2_with (go_at_call 9; (with_reducible refine (HX4.out.step HBU.out).mono ?_); rintro r w5 ⟨dd, rfl, O5⟩; have HO5 := Lib.hid O5; clear O5)
                  go_roundw
                  case rel => exact onc_d HW4.out H54.out HLA.out HO5.out hlt4
                  case measure => simp [intOf]; omega
                · have t1 : ¬ (t : Int) < 20 := by omega
                  have s6 : (m4 n).fin = true := leftN_fin (d := d4) (by have := HLA.out; omega)
                  have HDN := Lib.hid s6
                  have HM := Lib.hid (HX4.out.mach n b HBU.out).1
                  have HFV := Lib.hid (show ∀ i, i < n + 1 → (m4 i).fin = true from fun i hi => by
                    by_cases e : i = n
                    · rw [e]; exact s6
                    · exact H54.out i (by omega))
                  obtain ⟨hck, hcd⟩ := once_code HX4.out hlt3 s6
                  have HCK := Lib.hid hck
                  clear s6 hck
                  have wb := fine_bounds (m := m4) (j := n)
                  rw [HW4.out] at wb
                  obtain ⟨wb0, wb1⟩ := wb
                  rcases hcd with hcd | hcd
                  · have HCD := Lib.hid hcd
                    have HSM := Lib.hid (show sumA (fun i => fineN (m4 i)) (n + 1) = fn + 1 by
                      show sumA (fun i => fineN (m4 i)) n + fineN (m4 n) = fn + 1
                      rw [HW4.out]; unfold fineN; rw [if_pos ⟨HDN.out, hcd⟩])
                    clear hcd
                    go_wp2_with (first
                      | (go_at_call 10; (with_reducible refine (edDone HM.out HDN.out).mono ?_); rintro r w6 ⟨rfl, rfl⟩)
                      | (go_at_call 11; (with_reducible refine (edCode HM.out HCD.out).mono ?_); rintro r w6 ⟨rfl, rfl⟩)
                      | (go_at_call 12; (with_reducible refine (edChunk HM.out HCK.out).mono ?_); rintro r w6 ⟨rfl, rfl⟩))
                    go_roundw
                    case rel => exact ⟨n + 1, m4, d4, by go_num, by omega, by rw [HSM.out], HFV.out, HX4.out⟩
                    case measure => simp [intOf]; omega
                  · have HCD := Lib.hid hcd
                    have HSM := Lib.hid (show sumA (fun i => fineN (m4 i)) (n + 1) = fn by
                      show sumA (fun i => fineN (m4 i)) n + fineN (m4 n) = fn
                      rw [HW4.out]; unfold fineN; rw [if_neg (fun h => by rw [hcd] at h; exact absurd h.2 (by decide))]; simp)
                    clear hcd
                    go_wp2_with (first
                      | (go_at_call 10; (with_reducible refine (edDone HM.out HDN.out).mono ?_); rintro r w6 ⟨rfl, rfl⟩)
                      | (go_at_call 11; (with_reducible refine (edCode HM.out HCD.out).mono ?_); rintro r w6 ⟨rfl, rfl⟩)
                      | (go_at_call 12; (with_reducible refine (edChunk HM.out HCK.out).mono ?_); rintro r w6 ⟨rfl, rfl⟩))
                    go_roundw
                    case rel => exact ⟨n + 1, m4, d4, by go_num, by omega, by rw [HSM.out], HFV.out, HX4.out⟩
                    case measure => simp [intOf]; omega
            · have n1 : ¬ (n : Int) < (bs.length : Int) := by omega
              obtain rfl : n = bs.length := by omega
              obtain ⟨hs1, s9, hx9, T9⟩ := HX3.out.over H5.out (by omega)
              rw [hfn] at hs1
              subst hs1
              have HT9 := Lib.hid T9
              have HX9 := Lib.hid hx9
              have g0 := run_gfield
              have g1 := run_gfield1
              have g2 := run_gfield2
              clear T9 hx9 hfn
              go_wp2_with (first
                | (go_at_call 13; (with_reducible refine (root_over HT9.out HX9.out).mono ?_); rintro r w6 ⟨rfl, U6⟩; replace HT9 := Lib.hid (HT9.out.ups U6); clear U6))
              go_ret
              exact ⟨rfl, HUA.out.trans HT9.out.up⟩

set_option maxRecDepth 100000 in
theorem lifted (os : Os) (started : os.Started) (H : Type) (enc : TypeId × Value → H) :
    ReturnsInHanded {} Try.checked os 3 .any (Rows.rootsOnceSpec.pre6 enc Try.prog Try.f3 Rows.rootsOnceRow.domain false) (Rows.rootsOnceSpec.post enc Try.prog Try.f3 false true false false) := by
  refine returnsInHanded_of_change (C := Try.checked) own started (by kernel_rfl) Try.func3
    (ChangeSpec.witness6 (enc := enc) (C := Try.checked) false ⟨#[], #[.int .i64 0, .int .i64 0, .slice none 0 0], []⟩ 8 (by kernel_rfl) (by kernel_rfl) (by kernel_rfl) (by kernel_rfl)) ?_
  intro W base args ds gs before hval0 hW hcnd _
  have hval : ∀ (j : Nat) t v, Try.f3.params[j]? = some t → args[j]? = some v → Value.okWide Try.prog W .any base t v := hval0
  have hW' := hW
  obtain ⟨p, q, hA0, hV, rfl, hfz, hnd⟩ := hW
  have hA : DataW.TrodAll enc Try.prog W 0 (fun _ => true) true Try.f3.params.toList args.toList ds p := hA0
  rw [Try.params3] at hA hval
  obtain ⟨v0, vs0, d0, ds0, p0, q0, hargs, rfl, rfl, h0, r0⟩ := trodAll_cons hA
  obtain ⟨v1, vs1, d1, ds1, p1, q1, rfl, rfl, rfl, h1, r1⟩ := trodAll_cons r0
  obtain ⟨v2, vs2, d2, ds2, p2, q2, rfl, rfl, rfl, h2, r2⟩ := trodAll_cons r1
  obtain ⟨rfl, rfl, rfl⟩ := trodAll_nil r2
  obtain rfl : args = #[v0, v1, v2] := by cases args; simp_all
  obtain ⟨rfl, rfl⟩ := trodVars_none hV
  have k0 := h0
  have lt0 : ∀ x ∈ p0, x.block < W.heap.size := by obtain ⟨m, hm⟩ := k0; exact DataW.trod_lt m _ _ _ hm
  obtain ⟨a0, rfl, rfl, rfl, w0⟩ := open_int Try.underlying3 (hval 0 3 v0 rfl rfl) h0
  have k1 := h1
  have lt1 : ∀ x ∈ p1, x.block < W.heap.size := by obtain ⟨m, hm⟩ := k1; exact DataW.trod_lt m _ _ _ hm
  obtain ⟨a1, rfl, rfl, rfl, w1⟩ := open_int Try.underlying3 (hval 1 3 v1 rfl rfl) h1
  have k2 := h2
  have lt2 : ∀ x ∈ p2, x.block < W.heap.size := by obtain ⟨m, hm⟩ := k2; exact DataW.trod_lt m _ _ _ hm
  obtain ⟨a2, len2, cap2, rfl⟩ := okWide_slice Try.underlying22 (hval 2 22 v2 rfl rfl)
  obtain ⟨z2, w2⟩ : ∃ zs, IsRow .i64 W a2 len2 cap2 zs := by
    obtain ⟨fuel, hf⟩ := h2
    rcases open_ints Try.underlying22 Try.underlying3 (by kernel_rfl) hf with ⟨hcs, _⟩ | ⟨x, l, c, zs, hcs, _, hl, hm, hz, _, hcell, hwz⟩
    · simp [Value.cells] at hcs
      obtain ⟨rfl, rfl, rfl⟩ := hcs
      exact ⟨[], .inl ⟨rfl, rfl, rfl, rfl⟩⟩
    · simp [Value.cells] at hcs
      obtain ⟨rfl, rfl, rfl⟩ := hcs
      exact ⟨zs, .inr ⟨_, rfl, hl, hm, by simpa using hz, hcell, hwz⟩⟩
  clear hA0 hval0
  refine (walk a0 a1 a2 len2 cap2 z2 W w0 w1 w2).mono fun e W' ⟨he, bel⟩ => ?_
  subst he
  exact ⟨_, rfl, _, _, _, [], _, [], hW', trodAll_mk1 (shut_bool Try.underlying4 _), (trodAll_cons_mk (Below.trod laidOut (by kernel_rfl) (of_decide_eq_true (by kernel_rfl)) k0 bel lt0) (trodAll_cons_mk (Below.trod laidOut (by kernel_rfl) (of_decide_eq_true (by kernel_rfl)) k1 bel lt1) (trodAll_cons_mk (Below.trod laidOut (by kernel_rfl) (of_decide_eq_true (by kernel_rfl)) k2 bel lt2) trodAll_mk0))), rfl, Below.frame bel _, fun h => by cases h⟩

theorem over : Rows.rootsOnceRow.holds Try.pinned (OpenSpec.ofChange Rows.rootsOnceSpec) :=
  OpenClaim.holds_of_wide 3 Try.f3 rfl rfl rfl rfl rfl rfl rfl ⟨rfl, rfl, rfl, rfl, rfl⟩ rfl rfl rfl rfl rfl (by kernel_rfl) Try.func3 (by kernel_rfl)
    (of_decide_eq_true (by kernel_rfl)) (by unfold Func.isWrapper; first | (rw [if_pos (by decide +kernel)]; kernel_rfl) | (rw [if_neg (by decide +kernel)]; exact ⟨rfl, rfl⟩))
    (fun os started H enc _ => lifted os started H enc)

/-- THE STATEMENT -/
theorem proved : Rows.RootsOnceSaid := over
#print axioms proved
end Go.Proofs.Ytalglhgngedjoaa.rootsOnce
