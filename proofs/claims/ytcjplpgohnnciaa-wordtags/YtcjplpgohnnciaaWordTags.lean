/-
  Proved: so many exchanges one behind the other have tags that are one more each time, and round behind the last, and no two of their words are the same ('Rows.WordTagsSaid'). Conditions: none but those of the statement itself.
-/
import Derived.Test.YtcjplpgohnnciaaRows
import Derived.Test.YtcjplpgohnnciaaWordLaws
import Derived.Test.YtcjplpgohnnciaaTagsMath
import Derived.Test.YtcjplpgohnnciaaOwn
import Derived.WalkKit
import Derived.ProofKit
import Derived.OpenShut
import Derived.ShutString
import Derived.ChangeOld
import Derived.Below
import Derived.Carry
import Derived.Lib.SmallJoins
import Derived.Deep.DeepCutAuto
import Derived.Deep.CutRange
import Derived.Deep.RegionHeld3
import Derived.Deep.DrawnRows
import Derived.LoopTactic
import Derived.OwnWalk
import Derived.BigQuiet
import Derived.Deep.QuietTactic
namespace Go.Proofs.Ytcjplpgohnnciaa.wordTags
open Go.ChangeShapes Go.WideShapes Go.ChangeAt Go.RowKit Go.Joins Go.Proofs.Ytcjplpgohnnciaa W64
open Go.ChangeMaps (open_string shut_string)
set_option linter.unusedVariables false

theorem own : ownKnob Try.prog.godebug = none := by kernel_rfl
theorem laidOut : laidOutB Try.prog = true := by kernel_rfl

attribute [local go_sem ↓] Go.wp_at_zero Go.wp_at_succ
theorem info_u64 : (Try.prog.info? 26).map (fun i => (i.zero, i.size, i.bytes)) = some (some (.int .u64 0), 1, 8) := by kernel_rfl
theorem row_len {k : IntKind} {w : World} {a : Option Addr} {len cap : Nat} {zs : List Int} (h : IsRow k w a len cap zs) : len ≤ maxLen := by
  rcases h with ⟨_, rfl, _, _⟩ | ⟨x, _, hl, hm, _⟩
  · exact Nat.zero_le _
  · omega
theorem row_cell {kd : IntKind} {w : World} {a : Option Addr} {len cap : Nat} {zs : List Int} (h : IsRow kd w a len cap zs) {k : Nat} (hk : k < len) :
    ∃ b off, a = some ⟨b, off, none⟩ ∧ b < w.heap.size ∧ w.cell? ⟨b, off + k, none⟩ = some (.int kd (zs.getD k 0)) := by
  rcases h with ⟨_, rfl, _, _⟩ | ⟨x, rfl, hl, hm, hz, hc, _⟩
  · omega
  · obtain ⟨b, off, spot⟩ := x
    have h0 := hc 0 (by omega)
    have hs : spot = none := by simpa [Addr.add] using World.cell?_spot h0
    subst hs
    have h1 := hc k (by omega)
    have e : (⟨b, off, none⟩ : Addr).add k = ⟨b, off + k, none⟩ := by
      unfold Addr.add; split
      · subst_vars; rfl
      · rfl
    rw [e] at h1
    exact ⟨b, off, rfl, World.block_lt_of_cell? w _ h1, h1⟩
/-- What holds at the head of each round. -/
def Rel (w : World) (B : Nat) (zs : List Int) (t0 : Int) (len : Nat) (v i : Value) (wr : World) : Prop :=
  ∃ (k : Nat) (ix : Int), k ≤ len ∧ i = .int .i64 k ∧ wr.ownsRow (B + 1) 26 1 v k (wds zs t0 k) ∧ Whole wr B 23 #[.int .i64 ix, .int .i64 (tg t0 k)] ∧ Up w wr ∧ w.heap.size ≤ B
/-- What the next head is. -/
def Cut (wr : World) (x t : Int) (s : Value) (wx : World) : Prop :=
  ∃ g : Nat, s = .pointer (some ⟨g, 0, none⟩) ∧ wr.heap.size ≤ g ∧ Whole wx g 23 #[.int .i64 (x % 5 - 1), .int .i64 t] ∧ Up wr wx
theorem cut_last {wr : World} {a b : Obj} {x t t' : Int} (h : t' = t) :
    Cut wr x t (.pointer (some ⟨wr.heap.size + 1 + 1, 0, none⟩)) (((wr.alloc a).alloc b).alloc (.cells #[.int .i64 (x % 5 - 1), .int .i64 t'] 23)).drew := by
  subst h
  refine ⟨_, rfl, by omega, ?_, ((((Up.refl _).then_alloc _).then_alloc _).then_alloc _).then_drew⟩
  have h := Whole.new ((wr.alloc a).alloc b) 23 #[.int .i64 (x % 5 - 1), .int .i64 t']
  have e : ((wr.alloc a).alloc b).heap.size = wr.heap.size + 1 + 1 := by simp
  rw [e] at h
  exact h.up (Up.refl _).then_drew
theorem cut_first {wr : World} {a b : Obj} {x t t' : Int} (h : t' = t) :
    Cut wr x t (.pointer (some ⟨wr.heap.size, 0, none⟩)) (((wr.alloc (.cells #[.int .i64 (x % 5 - 1), .int .i64 t'] 23)).alloc a).alloc b).drew := by
  subst h
  refine ⟨_, rfl, by omega, ?_, ((((Up.refl _).then_alloc _).then_alloc _).then_alloc _).then_drew⟩
  exact (Whole.new wr 23 #[.int .i64 (x % 5 - 1), .int .i64 t']).up (((Up.refl _).then_alloc _).then_alloc _).then_drew
theorem putHead_wd {zs : List Int} {t0 x : Int} {k : Nat} (hx : x = zs.getD k 0) (w : World) :
    Calls Try.prog 9 #[.agg #[.int .i64 (x % 5 - 1), .int .i64 (tg t0 (k + 1))]] w fun e w' => e = .returned (.tuple #[.int .u64 (wd zs t0 k), .bool true]) ∧ Up w w' := by
  subst hx; exact putHead_yes _ _ w (wd_head zs t0 k)
theorem tg_tmod (t0 : Int) (k : Nat) : (tg t0 k + 1).tmod 4294967296 = tg t0 (k + 1) := by
  have h := tg_in t0 k
  rw [Int.tmod_eq_emod_of_nonneg (by omega)]; exact tg_mod t0 k
theorem rel_step {w wr wB w2 : World} {B gg cap cp k len : Nat} {A : Option Addr} {zs : List Int} {t0 x ix : Int} {o : Obj} (hk : k < len)
    (hO : wr.ownsRow (B + 1) 26 1 (.slice A k cp) k (wds zs t0 k)) (hW : Whole wr B 23 #[.int .i64 ix, .int .i64 (tg t0 k)]) (hup : Up w wr) (hB : w.heap.size ≤ B) (hv : Up wr wB)
    (hown : w2.ownsRow (B + 1) 26 1 (.slice (some ⟨gg, 0, none⟩) (k + 1) cap) (k + 1) (wds zs t0 k ++ [.int .u64 (wd zs t0 k)])) (hg : (wB.alloc o).grownBy w2 (Value.slice A k cp).ownBlock) :
    Rel w B zs t0 len (.slice (some ⟨gg, 0, none⟩) (k + 1) cap) (.int .i64 ((k : Int) + 1)) ((w2.setCell ⟨B, 0, none⟩ (.int .i64 (x % 5 - 1))).setCell ⟨B, 1, none⟩ (.int .i64 (tg t0 (k + 1)))) := by
  rw [wds_succ] at hown
  have h2 : Whole w2 B 23 #[.int .i64 ix, .int .i64 (tg t0 k)] := (hW.up (hv.then_alloc _)).grown hg (own_ne hO (by omega))
  have hu : Up w w2 := ((hup.trans hv).then_alloc _).grown hg (fun q hq => by have := own_ge hO q hq; omega)
  refine ⟨k + 1, x % 5 - 1, by omega, by go_num, own_set (own_set hown (by simp) _) (by simp) _, ?_, (hu.set hB _).set hB _, hB⟩
  exact (h2.set 0 _).set 1 _
theorem far_x {wr wB w2 : World} {B g cp k : Nat} {A : Option Addr} {zs : List Int} {t0 : Int} {cs : Array Value} {o : Obj}
    (hO : wr.ownsRow (B + 1) 26 1 (.slice A k cp) k (wds zs t0 k)) (hg : wr.heap.size ≤ g) (hx : Whole wB g 23 cs) (hgr : (wB.alloc o).grownBy w2 (Value.slice A k cp).ownBlock) : Whole w2 g 23 cs :=
  (hx.up (Up.alloc _ _)).grown hgr (own_lt hO hg)
theorem far_h {wr wB w2 : World} {B cp k : Nat} {A : Option Addr} {zs : List Int} {t0 : Int} {cs : Array Value} {o : Obj}
    (hO : wr.ownsRow (B + 1) 26 1 (.slice A k cp) k (wds zs t0 k)) (hx : Whole wB B 23 cs) (hgr : (wB.alloc o).grownBy w2 (Value.slice A k cp).ownBlock) : Whole w2 B 23 cs :=
  (hx.up (Up.alloc _ _)).grown hgr (own_ne hO (by omega))

set_option maxRecDepth 100000 in
set_option maxHeartbeats 4000000 in
theorem walk (a0 : Int) (a1 : Int) (a2 : Option Addr) (len2 cap2 : Nat) (z2 : List Int) (w : World) (w0 : (Lit.int .i64 a0).wf = true) (w1 : (Lit.int .i64 a1).wf = true) (w2 : IsRow .i64 w a2 len2 cap2 z2) :
    Calls Try.prog 7 #[.int .i64 a0, .int .i64 a1, .slice a2 len2 cap2] w fun e w' => e = .returned (.bool true) ∧ Up w w' := by
  have hm := row_len w2
  unfold maxLen at hm
  have HC := Lib.hid (fun k hk => row_cell w2 (k := k) hk)
  clear w0 w1 w2
  by_cases h60 : 60 < len2
  · have h61 : (60 : Int) < (len2 : Int) := by omega
    go_enter Try.func7, Try.ntmps7
    go_wp2_with (go_at_call 8; refine (first_any _).mono ?_; rintro e w1 ⟨rfl, U1⟩)
    go_ret
    exact ⟨rfl, U1⟩
  · have h61 : (len2 : Int) ≤ 60 := by omega
    have b0 := Int.emod_nonneg a0 (show (3 : Int) ≠ 0 by decide)
    have b1 := Int.emod_lt_of_pos a0 (show (0 : Int) < 3 by decide)
    go_enter Try.func7, Try.ntmps7
    go_wp2_with (first
      | (go_at_call 8; refine (first_any _).mono ?_; rintro e w1 ⟨rfl, U1⟩)
      | (go_at_call 27; refine (number_any _ _ _ (by decide) (by decide)).mono ?_; rintro e w' ⟨rfl, rfl⟩))
    go_loopw [9, 10] (fun v i wr => Rel w w1.heap.size z2 (a0 % 3 * 2147483647) len2 v i wr) (fun _ i _ => len2 - (intOf i).toNat)
    case atStart =>
      refine ⟨0, -1, Nat.zero_le _, rfl, World.ownsRow_nil _ _ _ _, ?_, U1.then_alloc _, U1.le⟩
      rw [tg_zero (by omega) (by omega)]
      exact Whole.new _ _ _
    case round =>
      obtain ⟨k, ix, hk, rfl, hown, hwh, hup, hB⟩ := hrel
      obtain ⟨A, cp, rfl⟩ := own_slice hown
      by_cases hlt : k < len2
      · obtain ⟨b, off, rfl, hb, hcl⟩ := HC.out k hlt
        have hcl := hup.kept hcl
        obtain ⟨x, hx⟩ : ∃ x, x = z2.getD k 0 := ⟨_, rfl⟩
        rw [← hx] at hcl
        have HX := Lib.hid hx
        clear hx
        have i0 : (0 : Int) ≤ (k : Int) := Int.natCast_nonneg _
        have i1 : (k : Int) < (len2 : Int) := by omega
        have c0 := hwh.cell (i := 0) (v := .int .i64 ix) rfl
        have c1 := hwh.cell (i := 1) (v := .int .i64 (tg (a0 % 3 * 2147483647) k)) rfl
        have tn := Lib.hid (tg_next (a0 % 3 * 2147483647) k)
        have x0 := Int.emod_nonneg x (show (5 : Int) ≠ 0 by decide)
        have x1 := Int.emod_lt_of_pos x (show (0 : Int) < 5 by decide)
        have s1 : IntKind.i64.wrap (x % 5 - 1) = x % 5 - 1 := IntWalk.i64_in _ (by omega)
        have HO := Lib.hid hown
        have HW := Lib.hid hwh
        clear hown hwh
        go_upto_region 11 with fail
        go_cut [11] from 26 to 83 (fun s11 wx => Cut wr x (tg (a0 % 3 * 2147483647) (k + 1)) s11 wx)
        case first =>
          go_region_held3 (fun w' => w'.cell? ⟨w1.heap.size, 0, none⟩ = some (.int .i64 ix) ∧ w'.cell? ⟨w1.heap.size, 1, none⟩ = some (.int .i64 (tg (a0 % 3 * 2147483647) k)) ∧ w'.cell? ⟨b, off + k, none⟩ = some (.int .i64 x) ∧ Up wr w')
            ((refine up_three ?_ c0 c1 hcl; (repeat (first | (with_reducible exact Up.refl _) | (with_reducible refine Up.then_drew ?_) | (with_reducible refine Up.then_alloc ?_ _) | refine Up.setCell ?_ (by simp) _))))
            (first
              | (go_at_call 27; refine (number_any _ _ _ (by decide) (by decide)).mono ?_; rintro e w' ⟨rfl, rfl⟩)
              | (go_at_call 21; refine (next_exact _ _ _ _).mono ?_; rintro e wA ⟨rfl, rfl⟩))
          all_goals
            go_wp2_with fail
            go_meet
            first | exact cut_last tn.out | exact cut_first tn.out
        case rest =>
          obtain ⟨g, rfl, hg, hxw, hux⟩ := hcut
          have d0 := hxw.cell (i := 0) (v := .int .i64 (x % 5 - 1)) rfl
          have d1 := hxw.cell (i := 1) (v := .int .i64 (tg (a0 % 3 * 2147483647) (k + 1))) rfl
          replace c0 := hux.kept c0
          replace c1 := hux.kept c1
          replace hcl := hux.kept hcl
          have HXW := Lib.hid hxw
          clear hxw tn
          go_upto_region 13 with (go_at_call 9; refine (putHead_wd HX.out _).mono ?_; rintro e wA ⟨rfl, uA⟩; replace c0 := uA.kept c0; replace c1 := uA.kept c1; replace d0 := uA.kept d0; replace d1 := uA.kept d1; replace hcl := uA.kept hcl)
          have tb := tg_in (a0 % 3 * 2147483647) k
          have s2 : IntKind.i64.wrap (tg (a0 % 3 * 2147483647) k + 1) = tg (a0 % 3 * 2147483647) k + 1 := IntWalk.i64_in _ (by omega)
          have s3 := tg_tmod (a0 % 3 * 2147483647) k
          go_quiet ((go_at_call 27; exact quiet_eq (number_any _ _ _ (by decide) (by decide))))
          clear s1 s2 s3 tb c0 c1 d0 d1 hcl
          go_wp2_with fail
          have hv : Up wr (wA.drewN nq) := (hux.trans uA).then_drewN nq
          have hxB : Whole (wA.drewN nq) g 23 #[.int .i64 (x % 5 - 1), .int .i64 (tg (a0 % 3 * 2147483647) (k + 1))] := HXW.out.up (uA.then_drewN nq)
          generalize wA.drewN nq = wB at *
          clear uA hux HXW
          have HV := Lib.hid hv
          have HXB := Lib.hid hxB
          have hwB := HW.out.up hv
          have HWB := Lib.hid hwB
          have hoB := own_up HO.out hv
          have HOB := Lib.hid hoB
          clear hv hxB hwB hoB
          go_loop [14] (fun j => ∃ m : Nat, m ≤ k ∧ j = .int .i64 m) (fun j => k - (intOf j).toNat)
          case atStart => exact ⟨0, Nat.zero_le _, rfl⟩
          case round =>
            obtain ⟨m, hmk, rfl⟩ := hrel
            by_cases hml : m < k
            · obtain ⟨gs, rfl, hsc⟩ := own_cell HOB.out hml
              rw [wds_get _ _ hml] at hsc
              have e := wd_ne z2 (a0 % 3 * 2147483647) hml (by omega)
              have j0 : (0 : Int) ≤ (m : Int) := Int.natCast_nonneg _
              have j1 : (m : Int) < (k : Int) := by omega
              go_wp2_with fail
              go_round
              case rel => exact ⟨m + 1, by omega, by go_num⟩
              case measure => simp [intOf]; omega
            · obtain ⟨i9, hi, hz0, hz1, hz2⟩ := info_parts info_u64
              have g63 : k + 1 ≤ maxLen := by unfold maxLen; omega
              have gby : (k + 1) * 8 ≤ 140737488355328 := by omega
              have gba : w1.heap.size + 1 ≤ (wB.alloc (.cells #[.int .u64 (wd z2 (a0 % 3 * 2147483647) k)] 26)).heap.size := by have := HWB.out.lt; simp; omega
              go_wp2_with (at_builtin; refine wpList_append_lies _ rfl _ _ 53 rfl (w1.heap.size + 1) 26 i9 (.int .u64 0) 1 8 Try.underlying53 hi hz0 hz1 hz2 rfl (by decide) (.slice A k cp) k (wds z2 (a0 % 3 * 2147483647) k) rfl (own_up HOB.out (Up.alloc _ _)) ⟨wB.heap.size, 0, none⟩ 1 1 [.int .u64 (wd z2 (a0 % 3 * 2147483647) k)] rfl rfl (one_new _ _ _) (by simp [Value.oneCell']) (by decide) g63 gby gba _ rfl ?_; intro gg cap wD hownD hgrow hat hltD; have x2 := far_x HO.out hg HXB.out hgrow; have h2 := far_h HO.out HWB.out hgrow; have d0 := x2.cell (i := 0) (v := .int .i64 (x % 5 - 1)) rfl; have d1 := x2.cell (i := 1) (v := .int .i64 (tg (a0 % 3 * 2147483647) (k + 1))) rfl; have e0 := h2.cell (i := 0) (v := .int .i64 ix) rfl; have e1 := h2.cell (i := 1) (v := .int .i64 (tg (a0 % 3 * 2147483647) k)) rfl; have f0 := h2.frozen 0; have f1 := h2.frozen 1; have HD := Lib.hid hownD; have HG := Lib.hid hgrow; clear x2 h2 hownD hgrow hat)
              go_roundw
              case rel => exact rel_step hlt HO.out HW.out hup hB HV.out HD.out HG.out
              case measure => simp [intOf]; omega
      · have hn := next_below a1
        have n0 := Int.emod_nonneg a1 (show (1000 : Int) ≠ 0 by decide)
        have n1 := Int.emod_lt_of_pos a1 (show (0 : Int) < 1000 by decide)
        go_wp2_with (first
          | (go_at_call 27; refine (number_any _ _ _ (by decide) (by decide)).mono ?_; rintro e w' ⟨rfl, rfl⟩)
          | (go_at_call 21; refine (next_any _ _ _ _).mono ?_; rintro e wA ⟨rfl, uA⟩))
        go_ret
        exact ⟨rfl, hup.trans uA⟩

set_option maxRecDepth 100000 in
theorem lifted (os : Os) (started : os.Started) (H : Type) (enc : TypeId × Value → H) :
    ReturnsInHanded {} Try.checked os 7 .any (Rows.wordTagsSpec.pre6 enc Try.prog Try.f7 Rows.wordTagsRow.domain false) (Rows.wordTagsSpec.post enc Try.prog Try.f7 false true false false) := by
  refine returnsInHanded_of_change (C := Try.checked) own started (by kernel_rfl) Try.func7
    (ChangeSpec.witness6 (enc := enc) (C := Try.checked) false ⟨#[], #[.int .i64 0, .int .i64 0, .slice none 0 0], []⟩ 8 (by kernel_rfl) (by kernel_rfl) (by kernel_rfl) (by kernel_rfl)) ?_
  intro W base args ds gs before hval0 hW hcnd _
  have hval : ∀ (j : Nat) t v, Try.f7.params[j]? = some t → args[j]? = some v → Value.okWide Try.prog W .any base t v := hval0
  have hW' := hW
  obtain ⟨p, q, hA0, hV, rfl, hfz, hnd⟩ := hW
  have hA : DataW.TrodAll enc Try.prog W 0 (fun _ => true) true Try.f7.params.toList args.toList ds p := hA0
  rw [Try.params7] at hA hval
  obtain ⟨v0, vs0, d0, ds0, p0, q0, hargs, rfl, rfl, h0, r0⟩ := trodAll_cons hA
  obtain ⟨v1, vs1, d1, ds1, p1, q1, rfl, rfl, rfl, h1, r1⟩ := trodAll_cons r0
  obtain ⟨v2, vs2, d2, ds2, p2, q2, rfl, rfl, rfl, h2, r2⟩ := trodAll_cons r1
  obtain ⟨rfl, rfl, rfl⟩ := trodAll_nil r2
  obtain rfl : args = #[v0, v1, v2] := by cases args; simp_all
  obtain ⟨rfl, rfl⟩ := trodVars_none hV
  have k0 := h0
  have lt0 : ∀ x ∈ p0, x.block < W.heap.size := by obtain ⟨m, hm⟩ := k0; exact DataW.trod_lt m _ _ _ hm
  obtain ⟨a0, rfl, rfl, rfl, w0⟩ := open_int Try.underlying3 (hval 0 3 v0 rfl rfl) h0
  have k1 := h1
  have lt1 : ∀ x ∈ p1, x.block < W.heap.size := by obtain ⟨m, hm⟩ := k1; exact DataW.trod_lt m _ _ _ hm
  obtain ⟨a1, rfl, rfl, rfl, w1⟩ := open_int Try.underlying3 (hval 1 3 v1 rfl rfl) h1
  have k2 := h2
  have lt2 : ∀ x ∈ p2, x.block < W.heap.size := by obtain ⟨m, hm⟩ := k2; exact DataW.trod_lt m _ _ _ hm
  obtain ⟨a2, len2, cap2, rfl⟩ := okWide_slice Try.underlying51 (hval 2 51 v2 rfl rfl)
  obtain ⟨z2, w2⟩ : ∃ zs, IsRow .i64 W a2 len2 cap2 zs := by
    obtain ⟨fuel, hf⟩ := h2
    rcases open_ints Try.underlying51 Try.underlying3 (by kernel_rfl) hf with ⟨hcs, _⟩ | ⟨x, l, c, zs, hcs, _, hl, hm, hz, _, hcell, hwz⟩
    · simp [Value.cells] at hcs
      obtain ⟨rfl, rfl, rfl⟩ := hcs
      exact ⟨[], .inl ⟨rfl, rfl, rfl, rfl⟩⟩
    · simp [Value.cells] at hcs
      obtain ⟨rfl, rfl, rfl⟩ := hcs
      exact ⟨zs, .inr ⟨_, rfl, hl, hm, by simpa using hz, hcell, hwz⟩⟩
  clear hA0 hval0
  refine (walk a0 a1 a2 len2 cap2 z2 W w0 w1 w2).mono fun e W' ⟨he, bel⟩ => ?_
  subst he
  exact ⟨_, rfl, _, _, _, [], _, [], hW', trodAll_mk1 (shut_bool Try.underlying4 _), (trodAll_cons_mk (Below.trod laidOut (by kernel_rfl) (of_decide_eq_true (by kernel_rfl)) k0 bel lt0) (trodAll_cons_mk (Below.trod laidOut (by kernel_rfl) (of_decide_eq_true (by kernel_rfl)) k1 bel lt1) (trodAll_cons_mk (Below.trod laidOut (by kernel_rfl) (of_decide_eq_true (by kernel_rfl)) k2 bel lt2) trodAll_mk0))), rfl, Below.frame bel _, fun h => by cases h⟩

theorem over : Rows.wordTagsRow.holds Try.pinned (OpenSpec.ofChange Rows.wordTagsSpec) :=
  OpenClaim.holds_of_wide 7 Try.f7 rfl rfl rfl rfl rfl rfl rfl ⟨rfl, rfl, rfl, rfl, rfl⟩ rfl rfl rfl rfl rfl (by kernel_rfl) Try.func7 (by kernel_rfl)
    (of_decide_eq_true (by kernel_rfl)) (by unfold Func.isWrapper; first | (rw [if_pos (by decide +kernel)]; kernel_rfl) | (rw [if_neg (by decide +kernel)]; exact ⟨rfl, rfl⟩))
    (fun os started H enc _ => lifted os started H enc)

/-- THE STATEMENT -/
theorem proved : Rows.WordTagsSaid := over
#print axioms proved
end Go.Proofs.Ytcjplpgohnnciaa.wordTags
