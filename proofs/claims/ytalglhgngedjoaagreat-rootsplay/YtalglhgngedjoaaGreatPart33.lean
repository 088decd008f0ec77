/-
  Texts beneath RootsPlay, part 33: RtAny, RtSame, RtPlayLaw.
-/
import Derived.Test.YtalglhgngedjoaaGreatPart32
/-
  RootsPlay: hands.goes, whatever comes.
-/
namespace Go.Proofs.YtalglhgngedjoaaGreat
open Go.RowKit
open W64
set_option maxRecDepth 100000
section
variable {W w w' : World} {l : Lie} {n bH D T u : Nat} {m : Nat → PM} {V : Nat → Value} {o L : Nat → List Nat} {s : St}
theorem begins_any (X : Play W w l n bH D T m V o L s) (Y : ∀ u, u < 4 → (m u).live n T) (hT : T ≤ 1000) (hu : u < 4) (em : m u = .idle) {z : Int} (z0 : 0 ≤ z) (z1 : z < 240) :
    Calls Tryz.prog 49 #[.pointer (some ⟨bH, 0, none⟩), .pointer (some ⟨l.q, 0, none⟩), .pointer (some ⟨l.k, 0, none⟩), .int .i64 (u : Int), .int .i64 z] w fun e w' => e = .returned (.bool true) ∧ PlayOut W l n bH D (T + 6) w' := by
  by_cases hr : z.tmod 5 < 2
  · by_cases pS : slotZ z < n
    · by_cases pE : z.tmod 2 = 0
      · exact begins_cr_root X Y hT hu em z0 z1 pS pE hr
      · exact begins_cr_odd X Y hT hu em z0 z1 pS pE hr
    · exact begins_cr_far X Y hT hu em z0 z1 pS hr
  · by_cases hL : L u = []
    · by_cases hr4 : z.tmod 5 < 4
      · by_cases pS : slotZ z < n
        · by_cases pE : z.tmod 2 = 0
          · exact begins_ed_root X Y hT hu em z0 z1 pS pE hr hr4 hL
          · exact begins_ed_odd X Y hT hu em z0 z1 pS pE hr hr4 hL
        · exact begins_ed_far X Y hT hu em z0 z1 pS hr hr4 hL
      · by_cases pS : slotZ z < n
        · by_cases pE : z.tmod 2 = 0
          · exact begins_lk_root X Y hT hu em z0 z1 pS pE hr4 hL
          · exact begins_lk_odd X Y hT hu em z0 z1 pS pE hr4 hL
        · exact begins_lk_far X Y hT hu em z0 z1 pS hr4 hL
    · by_cases pS : slotZ z < n
      · by_cases pE : z.tmod 2 = 0
        · exact begins_bk_root X Y hT hu em z0 z1 pS pE hr hL
        · exact begins_bk_odd X Y hT hu em z0 z1 pS pE hr hL
      · exact begins_bk_far X Y hT hu em z0 z1 pS hr hL
set_option maxHeartbeats 2000000 in
theorem goes_idle (X : Play W w l n bH D T m V o L s) (Y : ∀ u, u < 4 → (m u).live n T) (hT : T ≤ 1000) (hu : u < 4) (em : m u = .idle) {z : Int} (z0 : 0 ≤ z) (z1 : z < 240) :
    Calls Tryz.prog 9 #[.pointer (some ⟨bH, 0, none⟩), .pointer (some ⟨l.q, 0, none⟩), .pointer (some ⟨l.k, 0, none⟩), .int .i64 (u : Int), .int .i64 z] w fun e w' => e = .returned (.bool true) ∧ PlayOut W l n bH D (T + 6) w' := by
  have HN := Lib.hid (begins_any X Y hT hu em z0 z1)
  obtain ⟨_, h1, h2, h3, h4⟩ := X.idle_own hu em
  have j0 : (0 : Int) ≤ (u : Int) := Int.natCast_nonneg _
  have j1 : (u : Int) < 4 := by omega
  have k0 := tab_cell X.arr (k := u) (by omega) h1
  have k4 := tab_cell X.arr (k := 4 + u) (by omega) h2
  have k8 := tab_cell X.arr (k := 8 + u) (by omega) h3
  have k12 := tab_cell X.arr (k := 12 + u) (by omega) h4
  clear X Y em h1 h2 h3 h4 z0 z1
  go_enter Tryz.func9, Tryz.ntmps9
  go_wp2_with (go_at_call 49; refine HN.out.mono ?_; rintro r w1 ⟨rfl, O1⟩; have HO1 := Lib.hid O1; clear O1)
  go_ret
  exact ⟨rfl, HO1.out⟩
theorem goes_any (H : PlayOut W l n bH D T w) (hT : T ≤ 1000) (hu : u < 4) {z : Int} (z0 : 0 ≤ z) (z1 : z < 240) :
    Calls Tryz.prog 9 #[.pointer (some ⟨bH, 0, none⟩), .pointer (some ⟨l.q, 0, none⟩), .pointer (some ⟨l.k, 0, none⟩), .int .i64 (u : Int), .int .i64 z] w fun e w' => e = .returned (.bool true) ∧ PlayOut W l n bH D (T + 6) w' := by
  obtain ⟨m, V, o, L, s, X, Y⟩ := H
  have up : ∀ {e : Ending} {w' : World}, e = .returned (.bool true) ∧ PlayOut W l n bH D (T + 3) w' → e = .returned (.bool true) ∧ PlayOut W l n bH D (T + 6) w' := fun ⟨a, b⟩ => ⟨a, b.more (by omega)⟩
  cases em : m u with
  | idle => exact goes_idle X Y hT hu em z0 z1
  | cr K => exact (goes_cr X Y hT hu em z).mono fun _ _ h => up h
  | ed K => exact (goes_ed X Y hT hu em z).mono fun _ _ h => up h
  | lk K => exact (goes_lk X Y hT hu em z).mono fun _ _ h => up h
  | pu K => exact (goes_pu X Y hT hu em z).mono fun _ _ h => up h
end
end Go.Proofs.YtalglhgngedjoaaGreat

/-
  RootsPlay: both memories hold the same (rundalelaw11.same).
-/
namespace Go.Proofs.YtalglhgngedjoaaGreat
open Go.RowKit
open W64
set_option maxRecDepth 100000
section
variable {W w w' : World} {l : Lie} {n bH D T u : Nat} {m : Nat → PM} {V : Nat → Value} {o L : Nat → List Nat} {s : St}
theorem get_nat11 (s : St) (k : Nat) (h : k < s.xs.length) : s.get (k : Int) = s.xs.getD k 0 := by
  unfold St.get
  simp [h]
theorem Play.len_lt (X : Play W w l n bH D T m V o L s) : s.xs.length ≤ 8388608 := X.roo.env.top
def SameRel (w : World) (len : Nat) (i : Value) (wr : World) : Prop := ∃ k : Nat, k ≤ len ∧ i = .int .i64 k ∧ Up w wr
set_option maxHeartbeats 4000000 in
theorem same11 (X : Play W w l n bH D T m V o L s) :
    Calls Tryz.prog 10 #[.pointer (some ⟨l.p, 0, none⟩), .pointer (some ⟨l.k, 0, none⟩)] w fun e w' => e = .returned (.bool true) ∧ Up w w' := by
  have HM := Lib.hid X.roo.env.mem
  have HR := Lib.hid X.rw_.env.mem
  have k6 := X.rw_.obj.cell (i := 6) (v := .pointer (some ⟨l.pr, 0, none⟩)) rfl
  have hb := X.len_lt
  obtain ⟨N, hN⟩ : ∃ N, s.xs.length = N := ⟨_, rfl⟩
  have HLL := Lib.hid hN
  have HLI := Lib.hid (show (s.xs.length : Int) = (N : Int) by rw [hN])
  rw [hN] at hb
  clear X hN
  go_enter Tryz.func10, Tryz.ntmps10
  go_wp2_with fail
  go_loopw [5] (fun i wr => SameRel w N i wr) (fun i _ => N - (intOf i).toNat)
  case atStart => exact ⟨0, Nat.zero_le _, rfl, Up.refl _⟩
  case round =>
    obtain ⟨k, hk, rfl, hup⟩ := hrel
    have HU := Lib.hid hup
    have HRr := Lib.hid (HR.out.up hup)
    have HMr := Lib.hid (HM.out.up hup)
    have k6r := hup.kept k6
    clear hup
    obtain ⟨r0, r1⟩ := HRr.out.cells
    rw [HLL.out] at r0
    have i0 : (0 : Int) ≤ (k : Int) := Int.natCast_nonneg _
    by_cases hlt : k < N
    · have i1 : (k : Int) < (N : Int) := by omega
      have rk := HRr.out.cell (i := k) (by rw [HLL.out]; exact hlt)
      have HX := Lib.hid (get_nat11 s k (by rw [HLL.out]; exact hlt))
      obtain ⟨y, hy⟩ : ∃ y, s.xs.getD k 0 = y := ⟨_, rfl⟩
      rw [hy] at rk HX
      have HHS := Lib.hid (show s.has (k : Int) from ⟨i0, by rw [HLL.out]; exact i1⟩)
      clear hy
      go_upto_region 4 with fail
      go_quiet (first
        | (go_at_call 50; (with_reducible exact quiet_eq (peek_to (HMr.out.up ((Up.refl _).then_drewN _)) HHS.out HX.out))))
      go_wp2_with fail
      go_roundw
      case rel => exact ⟨k + 1, by omega, by go_num, HU.out.then_drewN _⟩
      case measure => simp [intOf]; omega
    · have i1 : ¬ (k : Int) < (N : Int) := by omega
      go_upto_region 6 with fail
      go_quiet (first
        | (go_at_call 27; (with_reducible exact quiet_eq (count_to (HMr.out.up ((Up.refl _).then_drewN _)) rfl)))
        | (go_at_call 51; (with_reducible exact quiet_eq (len_to (HMr.out.up ((Up.refl _).then_drewN _)) HLI.out))))
      go_wp2_with fail
      go_ret
      exact ⟨rfl, HU.out.then_drewN _⟩
end
end Go.Proofs.YtalglhgngedjoaaGreat

/-
  RootsPlay: the beginning, the loop's relation, what is compared.
-/
namespace Go.Proofs.YtalglhgngedjoaaGreat
open Go.RowKit
open W64
set_option maxRecDepth 100000
/-- The table at the beginning. -/
def V0 (k : Nat) : Value := if k < 32 then .pointer none else .slice none 0 0
theorem row36_nil : row36 V0 = #[.pointer none, .pointer none, .pointer none, .pointer none, .pointer none, .pointer none, .pointer none, .pointer none, .pointer none, .pointer none, .pointer none, .pointer none, .pointer none, .pointer none, .pointer none, .pointer none, .pointer none, .pointer none, .pointer none, .pointer none, .pointer none, .pointer none, .pointer none, .pointer none, .pointer none, .pointer none, .pointer none, .pointer none, .pointer none, .pointer none, .pointer none, .pointer none, .slice none 0 0, .slice none 0 0, .slice none 0 0, .slice none 0 0] := by
  rfl
section
variable {W w w1 w' : World} {l : Lie} {n bH D T u : Nat} {m : Nat → PM} {V : Nat → Value} {o L : Nat → List Nat} {s : St}
theorem PlayOut.ups (H : PlayOut W l n bH D T w) (U : Up w w') : PlayOut W l n bH D T w' := by
  obtain ⟨m, V, o, L, s, X, Y⟩ := H
  exact ⟨m, V, o, L, s, X.ups U, Y⟩
theorem PlayOut.upW (H : PlayOut W l n bH D T w) : Up W w := by
  obtain ⟨m, V, o, L, s, X, Y⟩ := H
  exact X.up
theorem same_out (H : PlayOut W l n bH D T w) : Calls Tryz.prog 10 #[.pointer (some ⟨l.p, 0, none⟩), .pointer (some ⟨l.k, 0, none⟩)] w fun e w' => e = .returned (.bool true) ∧ PlayOut W l n bH D T w' := by
  have H2 := H
  obtain ⟨m, V, o, L, s, X, Y⟩ := H2
  refine (same11 X).mono ?_
  rintro e w' ⟨rfl, U⟩
  exact ⟨rfl, H.ups U⟩
theorem Twin.play (T : Twin W w l n (m0 n)) : PlayOut W l n w.heap.size (w.heap.size + 1) 0 (w.alloc (.cells #[.pointer none, .pointer none, .pointer none, .pointer none, .pointer none, .pointer none, .pointer none, .pointer none, .pointer none, .pointer none, .pointer none, .pointer none, .pointer none, .pointer none, .pointer none, .pointer none, .pointer none, .pointer none, .pointer none, .pointer none, .pointer none, .pointer none, .pointer none, .pointer none, .pointer none, .pointer none, .pointer none, .pointer none, .pointer none, .pointer none, .pointer none, .pointer none, .slice none 0 0, .slice none 0 0, .slice none 0 0, .slice none 0 0] 51)) := by
  have U : Up w (w.alloc (.cells #[.pointer none, .pointer none, .pointer none, .pointer none, .pointer none, .pointer none, .pointer none, .pointer none, .pointer none, .pointer none, .pointer none, .pointer none, .pointer none, .pointer none, .pointer none, .pointer none, .pointer none, .pointer none, .pointer none, .pointer none, .pointer none, .pointer none, .pointer none, .pointer none, .pointer none, .pointer none, .pointer none, .pointer none, .pointer none, .pointer none, .pointer none, .pointer none, .slice none 0 0, .slice none 0 0, .slice none 0 0, .slice none 0 0] 51)) := Up.alloc _ _
  have A := Whole.new w 51 #[.pointer none, .pointer none, .pointer none, .pointer none, .pointer none, .pointer none, .pointer none, .pointer none, .pointer none, .pointer none, .pointer none, .pointer none, .pointer none, .pointer none, .pointer none, .pointer none, .pointer none, .pointer none, .pointer none, .pointer none, .pointer none, .pointer none, .pointer none, .pointer none, .pointer none, .pointer none, .pointer none, .pointer none, .pointer none, .pointer none, .pointer none, .pointer none, .slice none 0 0, .slice none 0 0, .slice none 0 0, .slice none 0 0]
  have hs : (w.alloc (.cells #[.pointer none, .pointer none, .pointer none, .pointer none, .pointer none, .pointer none, .pointer none, .pointer none, .pointer none, .pointer none, .pointer none, .pointer none, .pointer none, .pointer none, .pointer none, .pointer none, .pointer none, .pointer none, .pointer none, .pointer none, .pointer none, .pointer none, .pointer none, .pointer none, .pointer none, .pointer none, .pointer none, .pointer none, .pointer none, .pointer none, .pointer none, .pointer none, .slice none 0 0, .slice none 0 0, .slice none 0 0, .slice none 0 0] 51)).heap.size = w.heap.size + 1 := by simp
  generalize w.alloc (.cells #[.pointer none, .pointer none, .pointer none, .pointer none, .pointer none, .pointer none, .pointer none, .pointer none, .pointer none, .pointer none, .pointer none, .pointer none, .pointer none, .pointer none, .pointer none, .pointer none, .pointer none, .pointer none, .pointer none, .pointer none, .pointer none, .pointer none, .pointer none, .pointer none, .pointer none, .pointer none, .pointer none, .pointer none, .pointer none, .pointer none, .pointer none, .pointer none, .slice none 0 0, .slice none 0 0, .slice none 0 0, .slice none 0 0] 51) = w2 at *
  have R := T.roo
  have S := T.rw_
  have a1 := R.env.mem.top.lt
  have a2 := R.env.mem.row.lt
  have a3 := R.env.stk.lt
  have a4 := R.obj.lt
  have b1 := S.env.mem.top.lt
  have b2 := S.env.mem.row.lt
  have b3 := S.env.stk.lt
  have b4 := S.obj.lt
  have hu := T.up.size
  have v32 : ∀ u, u < 4 → V0 (32 + u) = .slice none 0 0 := fun u _ => by simp [V0]
  have vn : ∀ k, k < 32 → V0 k = .pointer none := fun k hk => by simp [V0, hk]
  refine ⟨fun _ => .idle, V0, fun _ => [], fun _ => [], m0 n, ⟨R.up U, S.up U, T.up.trans U, by rw [row36_nil]; exact A, fun u hu => .idle (vn _ (by omega)) (vn _ (by omega)) (vn _ (by omega)) (vn _ (by omega)), fun u hu => by rw [v32 u hu]; exact Ints.nil _, fun u _ x hx => by simp at hx, fun u _ => by simp, fun u hu k hk => by rw [v32 u hu] at hk; simp [ow, Value.ownBlock] at hk, fun u _ k _ => by simp, fun u v hu _ _ k hk => by rw [v32 u hu] at hk; simp [ow, Value.ownBlock] at hk, by omega, ⟨T.hp, T.hg, T.hpr, T.hgr, hu⟩, T.ne⟩, fun _ _ => trivial⟩
def PlayRel (W : World) (l : Lie) (n bH D len : Nat) (i : Value) (wr : World) : Prop := ∃ j : Nat, i = .int .i64 (j : Int) ∧ j ≤ len ∧ PlayOut W l n bH D (6 * j) wr
theorem spare_out (H : PlayOut W l n bH D T w) : ∃ S : List Nat, Calls Tryz.prog 12 #[.pointer (some ⟨l.q, 0, none⟩)] w (fun e w' => ∃ v, e = .returned v ∧ Ints w' v (I S) ∧ Up w w') ∧
    ∀ w', Up w w' → w'.cell? ⟨l.k, 8, none⟩ = some (.pointer (some ⟨l.qr, 0, none⟩)) ∧ Calls Tryz.prog 13 #[.pointer (some ⟨l.qr, 0, none⟩)] w' (fun e w'' => ∃ v, e = .returned v ∧ Ints w'' v (I S) ∧ Up w' w'') := by
  obtain ⟨m, V, o, L, s, X, Y⟩ := H
  refine ⟨lstOf n 1 (4 + n) s.xs, (rtSpare X.roo).mono (fun e w' ⟨v, a, b, _, d⟩ => ⟨v, a, b, d⟩), fun w' U => ⟨(X.ups U).spare_cell, (rlist (X.ups U).rw_.env).mono (fun e w' ⟨v, a, b, _, d⟩ => ⟨v, a, b, d⟩)⟩⟩
end
theorem quo4 {z : Int} (h : (Lit.int .i64 z).wf = true) : IntKind.i64.wrap (z.tdiv 4) = z.tdiv 4 ∧ wrap64 (z.tdiv 4) = z.tdiv 4 := by
  have := W64.i64_in h
  have h2 : -9223372036854775808 ≤ z.tdiv 4 ∧ z.tdiv 4 < 9223372036854775808 := by
    rcases Int.le_total 0 z with h | h
    · rw [Int.tdiv_eq_ediv_of_nonneg h]; omega
    · have e : z.tdiv 4 = -((-z).tdiv 4) := by rw [Int.neg_tdiv]; omega
      rw [e, Int.tdiv_eq_ediv_of_nonneg (by omega)]; omega
  exact ⟨IntWalk.i64_in _ (by omega), wrap64_in h2.1 h2.2⟩
end Go.Proofs.YtalglhgngedjoaaGreat
