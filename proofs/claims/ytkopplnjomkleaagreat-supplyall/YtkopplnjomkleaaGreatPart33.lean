/-
  Texts beneath SupplyAll, part 33: SupGive, SoloPush.
-/
import Derived.Test.YtkopplnjomkleaaGreatPart32
/-
  Package supply: a Give: it is made (give, Spill, All), its Step, Done, Hand.
-/
namespace Go.Proofs.YtkopplnjomkleaaGreat
open Go.RowKit
open W64
set_option maxRecDepth 100000
set_option linter.unusedSimpArgs false
def ugRow (nx pv lv : Value) : Array Value := #[nx, pv, lv]
/-- The program's Give lies at bg, as its machine mc says; its own blocks O. -/
def UGvM (w : World) (bg q n : Nat) (mc : Mc) (O : List Nat) : Prop := match mc with
  | .idle => bg ∈ O ∧ (∀ x ∈ O, x < w.heap.size) ∧ ∃ pv, Whole w bg 146 (ugRow .nilFunc pv (.slice none 0 0))
  | .give V => ∃ bp v lv, O = bg :: bp :: (blk v ++ blk lv) ∧ Whole w bg 146 (ugRow (meth 109 bg) (.pointer (some ⟨bp, 0, none⟩)) lv) ∧ PuM w bp q n v V ∧ Rd w lv (I V.l) ∧ bp ≠ bg ∧ lv.ownBlock ≠ some bg ∧ lv.ownBlock ≠ some bp ∧ (∀ x, v.ownBlock = some x → lv.ownBlock ≠ some x) ∧ ∀ x, lv.ownBlock = some x → x < w.heap.size
  | _ => False
/-- A worker's Give over the program's memory. -/
structure UGvIn (w : World) (bg p g q lk n : Nat) (s : St) (O : List Nat) (mc : Mc) : Prop where
  gv : UGvM w bg q n mc O
  env : Env w p g q 0 lk n s
  far : ∀ x, x ∈ O → x ≠ p ∧ x ≠ g ∧ x ≠ q
/-- A Give's machine behind an access that leaves its Push so. -/
def ugMc (V : Pu) : Mc := if V.fin = true then .idle else .give V
def UGvOut (w w' : World) (bg p g q lk n : Nat) (c : Int) (xs : List Int) (O : List Nat) (mc : Mc) : Prop :=
  ∃ s', s'.c = c ∧ s'.xs = xs ∧ UGvIn w' bg p g q lk n s' O mc ∧ Else (p :: g :: O) w w'
/-- A Give of l as it is made. -/
def upMc (l : List Nat) : Mc := if l = [] then .idle else .give ⟨l, 0, 0, false⟩
/-- What the making of a Give leaves. -/
def UGvMade (w w' : World) (bg b p q : Nat) (ba : Int) (qs ql n : Nat) (F : List Nat) (m : Int) (st : List Int) (R : Lb) (mc : Mc) : Prop :=
  ∃ O, UGvM w' bg q n mc O ∧ (∀ x ∈ O, x ∈ F ∨ w.heap.size ≤ x) ∧ Turned w w' F fun F' => PSu w' b (suRow p q ba qs ql) qs ql F' m st R ∧ ∀ x ∈ O, x ∉ F'
section
variable {w w1 w' : World} {bg b p g q qs ql lk n K : Nat} {F F1 O : List Nat} {m ba : Int} {st : List Int} {R : Lb} {s s' : St} {l T : List Nat} {o v : Value} {V : Pu} {mc : Mc}
set_option maxHeartbeats 2000000 in
/-- A Push of nothing, whatever its empty slice is. -/
theorem spush_none (E : Env w p g q 0 lk n s) (Ro : Rd w o (I [])) :
    Calls Tryz.prog 107 #[.pointer (some ⟨q, 0, none⟩), o] w fun e w' => ∃ bp, e = .returned (.tuple #[.pointer (some ⟨bp, 0, none⟩), .int .i64 0]) ∧ w'.cell? ⟨bp, 4, none⟩ = some .nilFunc ∧ w.heap.size ≤ bp ∧ Up w w' := by
  have hc := Lib.hid (areItems_to E Ro (decide_eq_true (good_nil n)))
  have HR := Lib.hid Ro
  obtain ⟨A, cap, rfl⟩ := Ro.slice
  have e0 : (((I []).length : Nat) : Int) = 0 := rfl
  clear E Ro
  go_enter Tryz.func107, Tryz.ntmps107
  go_wp2_with (first
    | (go_at_call 134; refine hc.out.mono ?_; rintro e w1 ⟨rfl, U1⟩)
    | (go_at_call 106; refine (clone_any (HR.out.up U1) (by rw [I_len]; decide)).mono ?_; rintro e w2 ⟨v2, rfl, J2, F2, U2⟩; obtain ⟨A2, c2, rfl⟩ := J2.slice; have HU2 := Lib.hid U2; clear J2 F2 U2))
  go_ret2
  refine ⟨w2.heap.size, rfl, ?_, Nat.le_trans U1.size HU2.out.size, (U1.trans HU2.out).then_alloc _⟩
  exact cell_new rfl rfl
set_option maxHeartbeats 4000000 in
/-- give, of nothing. -/
theorem ugvNone (cb : w.cell? ⟨b, 1, none⟩ = some (.pointer (some ⟨q, 0, none⟩))) (E : Env w p g q 0 lk n s) (Ro : Rd w o (I [])) :
    Calls Tryz.prog 60 #[.pointer (some ⟨b, 0, none⟩), o] w fun e w' => ∃ bg O, e = .returned (.pointer (some ⟨bg, 0, none⟩)) ∧ UGvM w' bg q n .idle O ∧ (∀ x ∈ O, w.heap.size ≤ x) ∧ Up w w' := by
  have HW := Lib.hid (Whole.new w 146 #[.nilFunc, .pointer none, .slice none 0 0])
  have HU := Lib.hid (Up.alloc w (.cells #[.nilFunc, .pointer none, .slice none 0 0] 146))
  have HP := Lib.hid (spush_none (E.up HU.out) (Ro.up HU.out))
  have cb' := HU.out.kept cb
  obtain ⟨bg, hbg⟩ : ∃ bg, w.heap.size = bg := ⟨_, rfl⟩
  rw [hbg] at HW
  have HBG := Lib.hid hbg
  obtain ⟨A, cap, rfl⟩ := Ro.slice
  clear E Ro cb
  go_enter Tryz.func60, Tryz.ntmps60
  go_upto_region 2 with fail
  clear hbg
  generalize w.alloc (.cells #[.nilFunc, .pointer none, .slice none 0 0] 146) = w0 at *
  go_wp2_with (first
    | (go_at_call 107; (with_reducible refine HP.out.mono ?_); rintro e w1 ⟨bp, rfl, c4, b1, U1⟩; have HU1 := Lib.hid U1; have HC4 := Lib.hid c4; clear c4 b1 U1)
    | (go_at_call 108; (with_reducible refine (pushDone_yes HC4.out).mono ?_); rintro e w2 ⟨rfl, rfl⟩))
  go_ret
  have T1 := HW.out.up HU1.out
  have hb := HBG.out
  exact ⟨bg, [bg], rfl, ⟨by simp, fun x hx => by simp at hx; subst hx; exact T1.lt, _, T1⟩, fun x hx => by simp at hx; omega, HU.out.trans HU1.out⟩
theorem rd_lt {l : List Nat} (Ro : Rd w o (I l)) (h0 : l ≠ []) : ∀ x, o.ownBlock = some x → x < w.heap.size := by
  intro x hx
  obtain ⟨A, cap, rfl⟩ := Ro.slice
  obtain ⟨g, off, rfl, hc⟩ := Ro.cell (j := 0) (by rw [I_len]; exact List.length_pos_iff.2 h0)
  simp [Value.ownBlock] at hx
  subst hx
  exact World.block_lt_of_cell? w _ hc
set_option maxHeartbeats 4000000 in
/-- give, of some. -/
theorem ugvNew (cb : w.cell? ⟨b, 1, none⟩ = some (.pointer (some ⟨q, 0, none⟩))) (E : Env w p g q 0 lk n s) (Ro : Rd w o (I l)) (h0 : l ≠ []) (hg : Good n (I l)) (hl : l.length ≤ 8000) :
    Calls Tryz.prog 60 #[.pointer (some ⟨b, 0, none⟩), o] w fun e w' => ∃ bg O, e = .returned (.pointer (some ⟨bg, 0, none⟩)) ∧ UGvM w' bg q n (.give ⟨l, 0, 0, false⟩) O ∧ (∀ x ∈ O, w.heap.size ≤ x ∨ o.ownBlock = some x) ∧ Up w w' := by
  have hlt := rd_lt Ro h0
  have HW := Lib.hid (Whole.new w 146 #[.nilFunc, .pointer none, .slice none 0 0])
  have HU := Lib.hid (Up.alloc w (.cells #[.nilFunc, .pointer none, .slice none 0 0] 146))
  have HP := Lib.hid (puNew (E.up HU.out) (Ro.up HU.out) h0 hg (Nat.le_trans hl (by decide)))
  have cb' := HU.out.kept cb
  have HR := Lib.hid Ro
  have HLT := Lib.hid hlt
  obtain ⟨bg, hbg⟩ : ∃ bg, w.heap.size = bg := ⟨_, rfl⟩
  rw [hbg] at HW
  have HBG := Lib.hid hbg
  obtain ⟨A, cap, rfl⟩ := Ro.slice
  have hf := run_func
  clear E Ro cb h0 hg hl hlt
  go_enter Tryz.func60, Tryz.ntmps60
  go_upto_region 2 with fail
  clear hbg
  generalize w.alloc (.cells #[.nilFunc, .pointer none, .slice none 0 0] 146) = w0 at *
  go_wp2_with (first
    | (go_at_call 107; (with_reducible refine HP.out.mono ?_); rintro e w1 ⟨bp, r, cp, rfl, M1, b1, r1, U1⟩; have HU1 := Lib.hid U1; have HM1 := Lib.hid M1; have HB1 := Lib.hid (And.intro b1 r1); have HT1 := Lib.hid (HW.out.up U1); have s0 := HT1.out.cell (i := 0) (v := .nilFunc) rfl; have s1 := HT1.out.cell (i := 1) (v := .pointer none) rfl; have s2 := HT1.out.cell (i := 2) (v := .slice none 0 0) rfl; have f0 := HT1.out.frozen 0; have f1 := HT1.out.frozen 1; have f2 := HT1.out.frozen 2; clear M1 b1 r1 U1)
    | (go_at_call 108; (with_reducible refine (pushDone_to HM1.out (c := false) (by rfl)).mono ?_); rintro e w2 ⟨rfl, rfl⟩))
  go_ret
  obtain ⟨b1, r1⟩ := HB1.out
  have hb := HBG.out
  have hs0 := HU.out.size
  have hs1 := HU1.out.size
  have hbg1 := HW.out.lt
  have hX : ∀ x : Value, Else [bg] w1 (w1.setCell ⟨bg, 1, none⟩ x) := fun x => (Else.refl [bg] w1).set (.inl (by simp)) _
  have u3 : Else [bg] w1 (((w1.setCell ⟨bg, 1, none⟩ (.pointer (some ⟨bp, 0, none⟩))).setCell ⟨bg, 2, none⟩ (.slice A (I l).length cap)).setCell ⟨bg, 0, none⟩ (meth 109 bg)) := (((Else.refl [bg] w1).set (.inl (by simp)) _).set (.inl (by simp)) _).set (.inl (by simp)) _
  have ho : ∀ x, (Value.slice A (I l).length cap).ownBlock = some x → x < bg := fun x hx => by have := HLT.out x hx; omega
  have T3 := ((HT1.out.set 1 (.pointer (some ⟨bp, 0, none⟩))).set 2 (.slice A (I l).length cap)).set 0 (meth 109 bg)
  refine ⟨bg, bg :: bp :: (blk (.slice (some ⟨r, 0, none⟩) l.length cp) ++ blk (.slice A (I l).length cap)), rfl, ⟨bp, _, .slice A (I l).length cap, rfl, T3, HM1.out.else u3 (by simp; omega) (fun x hx => by simp at hx; subst hx; simp [Value.ownBlock]; omega), ((HR.out.up HU.out).up HU1.out).else u3 (fun x hx h => by simp at hx; subst hx; have := ho _ h; omega), by omega, fun h => by have := ho _ h; omega, fun h => by have := ho _ h; omega, fun x hx h => ?_, fun x hx => ?_⟩, fun x hx => ?_, Else.up_new (HU.out.trans HU1.out) u3 (fun x hx => by simp at hx; omega)⟩
  · have := ho x h
    simp [Value.ownBlock] at hx
    omega
  · have h1 := ho x hx
    exact Nat.lt_of_lt_of_le (show x < w1.heap.size by omega) u3.size
  · simp at hx
    rcases hx with h | h | h | h
    · exact .inl (by omega)
    · exact .inl (by omega)
    · have := mem_blk.1 h; simp [Value.ownBlock] at this; exact .inl (by omega)
    · exact .inr (mem_blk.1 h)
theorem ugvAny (cb : w.cell? ⟨b, 1, none⟩ = some (.pointer (some ⟨q, 0, none⟩))) (E : Env w p g q 0 lk n s) (Ro : Rd w o (I l)) (hg : Good n (I l)) (hl : l.length ≤ 8000) :
    Calls Tryz.prog 60 #[.pointer (some ⟨b, 0, none⟩), o] w fun e w' => ∃ bg O, e = .returned (.pointer (some ⟨bg, 0, none⟩)) ∧ UGvM w' bg q n (upMc l) O ∧ (∀ x ∈ O, w.heap.size ≤ x ∨ o.ownBlock = some x) ∧ Up w w' := by
  unfold upMc
  by_cases h0 : l = []
  · subst h0
    rw [if_pos rfl]
    exact (ugvNone cb E Ro).mono fun _ _ ⟨bg, O, h1, h2, h3, h4⟩ => ⟨bg, O, h1, h2, fun x hx => .inl (h3 x hx), h4⟩
  · rw [if_neg h0]
    exact ugvNew cb E Ro h0 hg hl
theorem ugv_made (E : PSu w1 b (suRow p q ba qs ql) qs ql F1 m st R) (N : Next w F F1) (X : Else F w w1) (Aw : Away o F1) (Oo : ∀ x, o.ownBlock = some x → x ∈ F ∨ w.heap.size ≤ x) {O : List Nat} (G : UGvM w' bg q n mc O) (hO : ∀ x ∈ O, w1.heap.size ≤ x ∨ o.ownBlock = some x) (u : Up w1 w') : UGvMade w w' bg b p q ba qs ql n F m st R mc := by
  have hs := X.size
  refine ⟨O, G, fun x hx => ?_, F1, ⟨E.up u, fun x hx h => ?_⟩, N, X.up u⟩
  · rcases hO x hx with h | h
    · exact .inr (by omega)
    · exact Oo x h
  · rcases hO x hx with h1 | h1
    · have := E.lt x h; omega
    · exact Aw x h h1
set_option maxHeartbeats 2000000 in
theorem suSpill (E : PSu w b (suRow p q ba qs ql) qs ql F m (I T) R) (V : Env w p g q 0 lk n s) (hF : p ∉ F ∧ g ∉ F ∧ q ∉ F) (hK : ((T.length : Int) - m).toNat = K) (hm : 0 ≤ m ∧ m ≤ 64) (hl : T.length ≤ 8000) (hg : Good n (I (T.take K))) :
    Calls Tryz.prog 18 #[.pointer (some ⟨b, 0, none⟩)] w fun e w' => ∃ bg, e = .returned (.pointer (some ⟨bg, 0, none⟩)) ∧ UGvMade w w' bg b p q ba qs ql n F m (I (T.drop K)) R (upMc (T.take K)) := by
  have HO := Lib.hid (psuOver E hK hm hl)
  obtain ⟨c0, c1, c2, c3, c4⟩ := E.cells (Up.refl _)
  have HV := Lib.hid V
  have HF := Lib.hid hF
  have HL := Lib.hid (show (T.take K).length ≤ 8000 by rw [List.length_take]; omega)
  have HG := Lib.hid hg
  clear E V hF hK hm hl hg
  go_enter Tryz.func18, Tryz.ntmps18
  go_wp2_with (first
    | (go_at_call 61; (with_reducible refine HO.out.mono ?_); rintro e w1 ⟨A, N, cp, rfl, F1, ⟨E1, R1, A1, O1⟩, N1, X1⟩; have HE1 := Lib.hid E1; have HR1 := Lib.hid R1; have HX1 := Lib.hid (And.intro N1 X1); have HA1 := Lib.hid (And.intro A1 O1); clear E1 R1 N1 X1 A1 O1)
    | (go_at_call 60; refine (ugvAny (HE1.out.cells (Up.refl _)).2.1 (HV.out.else HX1.out.2 HF.out.1 HF.out.2.1 HF.out.2.2) HR1.out HG.out HL.out).mono ?_; rintro e w2 ⟨bg, O, rfl, G2, hO, U2⟩; have HG2 := Lib.hid (ugv_made HE1.out HX1.out.1 HX1.out.2 HA1.out.1 HA1.out.2 G2 hO U2); clear G2 hO U2))
  go_ret
  exact ⟨bg, rfl, HG2.out⟩
set_option maxHeartbeats 2000000 in
theorem suAll (E : PSu w b (suRow p q ba qs ql) qs ql F m (I T) R) (V : Env w p g q 0 lk n s) (hF : p ∉ F ∧ g ∉ F ∧ q ∉ F) (hl : T.length ≤ 8000) (hg : Good n (I T)) :
    Calls Tryz.prog 19 #[.pointer (some ⟨b, 0, none⟩)] w fun e w' => ∃ bg, e = .returned (.pointer (some ⟨bg, 0, none⟩)) ∧ UGvMade w w' bg b p q ba qs ql n F m [] R (upMc T) := by
  have HO := Lib.hid (psuAll E)
  obtain ⟨c0, c1, c2, c3, c4⟩ := E.cells (Up.refl _)
  have HV := Lib.hid V
  have HF := Lib.hid hF
  have HL := Lib.hid hl
  have HG := Lib.hid hg
  clear E V hF hl hg
  go_enter Tryz.func19, Tryz.ntmps19
  go_wp2_with (first
    | (go_at_call 62; (with_reducible refine HO.out.mono ?_); rintro e w1 ⟨A, N, cp, rfl, F1, ⟨E1, R1, A1, O1⟩, N1, X1⟩; have HE1 := Lib.hid E1; have HR1 := Lib.hid R1; have HX1 := Lib.hid (And.intro N1 X1); have HA1 := Lib.hid (And.intro A1 O1); clear E1 R1 N1 X1 A1 O1)
    | (go_at_call 60; refine (ugvAny (HE1.out.cells (Up.refl _)).2.1 (HV.out.else HX1.out.2 HF.out.1 HF.out.2.1 HF.out.2.2) HR1.out HG.out HL.out).mono ?_; rintro e w2 ⟨bg, O, rfl, G2, hO, U2⟩; have HG2 := Lib.hid (ugv_made HE1.out HX1.out.1 HX1.out.2 HA1.out.1 HA1.out.2 G2 hO U2); clear G2 hO U2))
  go_ret
  exact ⟨bg, rfl, HG2.out⟩
/-! ### Its access -/
theorem UGvM.done_ (G : UGvM w bg q n mc O) {y : Bool} (hy : (match mc with | .idle => true | _ => false) = y) :
    Calls Tryz.prog 91 #[.pointer (some ⟨bg, 0, none⟩)] w fun e w' => e = .returned (.bool y) ∧ w = w' := by
  subst hy
  cases mc with
  | idle => obtain ⟨_, _, pv, T⟩ := G; exact ugiveDone_yes (T.cell rfl)
  | look => exact G.elim
  | pop s P => exact G.elim
  | give V => obtain ⟨bp, v, lv, _, T, _⟩ := G; exact ugiveDone_no (T.cell rfl)
theorem ugvStep_no (G : UGvM w bg q n .idle O) : Calls Tryz.prog 38 #[.pointer (some ⟨bg, 0, none⟩)] w fun e w' => e = .returned (.bool false) ∧ w = w' := by
  obtain ⟨_, _, pv, T⟩ := G
  exact ugiveStep_end (T.cell rfl)
/-- What Hand tells. -/
def handMc (mc : Mc) : List Nat := match mc with
  | .give V => V.l
  | _ => []
theorem UGvM.hand (G : UGvM w bg q n mc O) (hl : (handMc mc).length ≤ 8000) : Calls Tryz.prog 92 #[.pointer (some ⟨bg, 0, none⟩)] w fun e w' => ∃ o, e = .returned o ∧ Ints w' o (I (handMc mc)) ∧ Fresh w o ∧ Up w w' := by
  obtain ⟨nx, pv, lv, T, Rl⟩ : ∃ nx pv lv, Whole w bg 146 (ugRow nx pv lv) ∧ Rd w lv (I (handMc mc)) := by
    cases mc with
    | idle => obtain ⟨_, _, pv, T⟩ := G; exact ⟨_, _, _, T, Rd.nil w⟩
    | look => exact G.elim
    | pop s P => exact G.elim
    | give V => obtain ⟨bp, v, lv, _, T, _, Rl, _⟩ := G; exact ⟨_, _, _, T, Rl⟩
  have HC := Lib.hid (clone_any Rl (by rw [I_len]; omega))
  have t2 := T.cell (i := 2) (v := lv) rfl
  obtain ⟨A, cap, rfl⟩ := Rl.slice
  clear G T Rl hl
  go_enter Tryz.func92, Tryz.ntmps92
  go_wp2_with (go_at_call 106; refine HC.out.mono ?_; rintro e w2 ⟨v', rfl, J, F, U⟩; obtain ⟨A2, N2, c2, rfl⟩ := shapeI J; have HJ2 := Lib.hid J; have HF := Lib.hid F; have HU := Lib.hid U; clear J F U)
  go_ret
  exact ⟨_, rfl, HJ2.out, HF.out, HU.out⟩
set_option maxHeartbeats 4000000 in
theorem ugvPush (J : UGvIn w bg p g q lk n s O (.give V)) (hf : V.fin = false) :
    Calls Tryz.prog 109 #[.pointer (some ⟨bg, 0, none⟩)] w fun e w' => e = .returned (.tuple #[]) ∧ UGvOut w w' bg p g q lk n (wrap64 (s.c + 1)) (V.xs n 0 lk s.xs) O (ugMc (V.go 0 s.xs)) := by
  obtain ⟨bp, v, lv, rfl, T, M, L, n1, n2, n3, dv, ltv⟩ := J.gv
  have far := J.far
  have hbp := far bp (by simp)
  have hbg := far bg (by simp)
  have hv : ∀ x, v.ownBlock = some x → x ≠ p ∧ x ≠ g ∧ x ≠ q := fun x hx => far x (by simp [blk, hx])
  have A : Apart bp p g q v := ⟨hbp.1, hbp.2.1, hbp.2.2, fun h => (hv p h).1 rfl, fun h => (hv g h).2.1 rfl, fun h => (hv q h).2.2 rfl⟩
  have hgv : v.ownBlock ≠ some bg := ints_off M.at_.row T (by decide)
  have t1 := T.cell (i := 1) (v := .pointer (some ⟨bp, 0, none⟩)) rfl
  have hin : ∀ x, x ∈ (bp :: v.ownBlock.toList) ++ [p, g] ↔ x = bp ∨ v.ownBlock = some x ∨ x = p ∨ x = g := by
    intro x; simp [eq_comm]
  have hcall : Calls Tryz.prog 136 #[.pointer (some ⟨bp, 0, none⟩)] w fun e w' => e = .returned (.bool true) ∧ ∃ s', s'.c = wrap64 (s.c + 1) ∧ s'.xs = V.xs n 0 lk s.xs ∧ Env w' p g q 0 lk n s' ∧ PuM w' bp q n v (V.go 0 s.xs) ∧ Whole w' bg 146 (ugRow (meth 109 bg) (.pointer (some ⟨bp, 0, none⟩)) lv) ∧ Rd w' lv (I V.l) ∧ Else (p :: g :: (bg :: bp :: (blk v ++ blk lv))) w w' := by
    refine (puStep J.env A M hf).mono ?_
    rintro e w' ⟨rfl, s', hc, hx, E', M', X⟩
    refine ⟨rfl, s', hc, hx, E', M', X.whole T (fun h => ?_), L.else X (fun x hx h => ?_), X.more (fun x hx => ?_)⟩
    · rcases (hin bg).1 h with h | h | h | h
      · exact n1 h.symm
      · exact hgv h
      · exact hbg.1 h
      · exact hbg.2.1 h
    · rcases (hin x).1 hx with e | e | e | e
      · subst e; exact n3 h
      · exact dv x e h
      · subst e; exact (far x (by simp [blk, h])).1 rfl
      · subst e; exact (far x (by simp [blk, h])).2.1 rfl
    · rcases (hin x).1 hx with h | h | h | h <;> simp [h, blk]
  obtain ⟨V', hV'⟩ : ∃ V', V.go 0 s.xs = V' := ⟨_, rfl⟩
  have hVL : V'.l = V.l := by rw [← hV']; unfold Pu.go; split; rfl; split; rfl; split <;> rfl
  rw [hV'] at hcall ⊢
  have HC := Lib.hid hcall
  have HVL := Lib.hid hVL
  have HF := Lib.hid (And.intro far (And.intro n1 (And.intro n2 (And.intro n3 (And.intro dv (And.intro hgv (And.intro hbg ltv)))))))
  clear J T M L n1 n2 n3 dv A far hbp hbg hv hgv hin hcall hV' hVL hf ltv
  unfold ugMc
  cases hfin : V'.fin with
  | false =>
    have HFN := Lib.hid hfin
    clear hfin
    rw [if_neg (by decide)]
    go_enter Tryz.func109, Tryz.ntmps109
    go_upto_region 1 with (go_at_call 136; (with_reducible refine HC.out.mono ?_); rintro e w1 ⟨rfl, s', hc, hx, E1, M1, T1, L1, X1⟩; have HM1 := Lib.hid M1; have HT1 := Lib.hid T1; have HE1 := Lib.hid (And.intro hc (And.intro hx (And.intro E1 (And.intro L1 X1)))); clear M1 T1 hc hx E1 L1 X1)
    clear t1
    have t1 := HT1.out.cell (i := 1) (v := .pointer (some ⟨bp, 0, none⟩)) rfl
    go_wp2_with (go_at_call 108; (with_reducible refine (pushDone_to HM1.out HFN.out).mono ?_); rintro e w2 ⟨rfl, rfl⟩)
    go_end0
    obtain ⟨hc, hx, E1, L1, X1⟩ := HE1.out
    obtain ⟨far, n1, n2, n3, dv, hgv, hbg, ltv⟩ := HF.out
    exact ⟨rfl, s', hc, hx, ⟨⟨bp, v, lv, rfl, HT1.out, HM1.out, by rw [HVL.out]; exact L1, n1, n2, n3, dv, fun x hx => Nat.lt_of_lt_of_le (ltv x hx) X1.size⟩, E1, far⟩, X1⟩
  | true =>
    have HFN := Lib.hid hfin
    clear hfin
    rw [if_pos rfl]
    go_enter Tryz.func109, Tryz.ntmps109
    go_upto_region 1 with (go_at_call 136; (with_reducible refine HC.out.mono ?_); rintro e w1 ⟨rfl, s', hc, hx, E1, M1, T1, L1, X1⟩; have HM1 := Lib.hid M1; have HT1 := Lib.hid T1; have HE1 := Lib.hid (And.intro hc (And.intro hx (And.intro E1 (And.intro L1 X1)))); clear M1 T1 hc hx E1 L1 X1)
    clear t1
    have t1 := HT1.out.cell (i := 1) (v := .pointer (some ⟨bp, 0, none⟩)) rfl
    have t0 := HT1.out.cell (i := 0) (v := meth 109 bg) rfl
    have t2 := HT1.out.cell (i := 2) (v := lv) rfl
    have f0 := HT1.out.frozen 0
    have f2 := HT1.out.frozen 2
    go_wp2_with (go_at_call 108; (with_reducible refine (pushDone_to HM1.out HFN.out).mono ?_); rintro e w2 ⟨rfl, rfl⟩)
    go_end0
    obtain ⟨hc, hx, E1, L1, X1⟩ := HE1.out
    obtain ⟨far, n1, n2, n3, dv, hgv, hbg, ltv⟩ := HF.out
    have u2 : Else [bg] w1 ((w1.setCell ⟨bg, 2, none⟩ (.slice none 0 0)).setCell ⟨bg, 0, none⟩ .nilFunc) := ((Else.refl [bg] w1).set (.inl (by simp)) _).set (.inl (by simp)) _
    have X2 := X1.trans (u2.more (fun x hx => by simp at hx; simp [hx]))
    have T2 := (HT1.out.set 2 (.slice none 0 0)).set 0 .nilFunc
    refine ⟨rfl, s', hc, hx, ⟨⟨by simp, fun x hx => ?_, _, T2⟩, E1.else u2 (by simp; exact hbg.1.symm) (by simp; exact hbg.2.1.symm) (by simp; exact hbg.2.2.symm), far⟩, X2⟩
    have hs := u2.size
    simp at hx
    rcases hx with h | h | h | h
    · rw [h]; exact T2.lt
    · rw [h]; exact Nat.lt_of_lt_of_le HM1.out.at_.top.lt hs
    · exact Nat.lt_of_lt_of_le (HM1.out.at_.row.lt (mem_blk.1 h)) hs
    · exact Nat.lt_of_lt_of_le (ltv x (mem_blk.1 h)) X2.size
theorem ugvStep (J : UGvIn w bg p g q lk n s O (.give V)) (hf : V.fin = false) :
    Calls Tryz.prog 38 #[.pointer (some ⟨bg, 0, none⟩)] w fun e w' => e = .returned (.bool true) ∧ UGvOut w w' bg p g q lk n (wrap64 (s.c + 1)) (V.xs n 0 lk s.xs) O (ugMc (V.go 0 s.xs)) := by
  obtain ⟨bp, v, lv, rfl, T, _⟩ := J.gv
  exact ustep_push (T.cell rfl) (ugvPush J hf)
end
end Go.Proofs.YtkopplnjomkleaaGreat

/-
  One alone over a stack, as plain data: a Push of l in so many accesses. No program is named here.
-/
namespace Go.Proofs.YtkopplnjomkleaaGreat
open Go.RowKit
open W64
set_option maxRecDepth 100000
/-- The links behind k stores of a Push of l. -/
def puL (ln : Nat) (xs : List Int) (l : List Nat) : Nat → List Int
  | 0 => xs
  | k + 1 => (puL ln xs l k).set (ln + l.getD k 0) ((l.getD (k + 1) 0 : Nat) + 1)
section
variable {n ln j k : Nat} {xs : List Int} {S l : List Nat} {h : Int}
theorem puL_len (ln : Nat) (xs : List Int) (l : List Nat) : ∀ k, (puL ln xs l k).length = xs.length
  | 0 => rfl
  | k + 1 => by unfold puL; rw [List.length_set, puL_len ln xs l k]
theorem puL_low (hj : j < ln) : ∀ k, (puL ln xs l k).getD j 0 = xs.getD j 0
  | 0 => rfl
  | k + 1 => by unfold puL; rw [getD_set, if_neg (by omega), puL_low hj k]
theorem getD_mem {l : List Nat} {k : Nat} (h : k < l.length) : l.getD k 0 ∈ l := by simp [List.getD, h]
theorem getD_ne {l : List Nat} (hn : l.Nodup) {i k : Nat} (hi : i < l.length) (hk : k < l.length) (h : i ≠ k) : l.getD i 0 ≠ l.getD k 0 := by
  intro e
  simp [List.getD, hi, hk] at e
  have hp := List.pairwise_iff_getElem.1 hn
  rcases Nat.lt_or_ge i k with h1 | h1
  · exact hp i k hi hk h1 e
  · exact hp k i hk hi (by omega) e.symm
theorem puL_off {y : Nat} (hy : y ∉ l) : ∀ k, k ≤ l.length → (puL ln xs l k).getD (ln + y) 0 = xs.getD (ln + y) 0
  | 0, _ => rfl
  | k + 1, hk => by
    have hm := getD_mem (l := l) (k := k) (by omega)
    unfold puL
    rw [getD_set, if_neg (fun e => hy (by rw [show y = l.getD k 0 by omega]; exact hm)), puL_off hy k (by omega)]
theorem puL_last (hn : l.Nodup) {t : Nat} (ht : t < l.length) : ∀ k, k ≤ t → (puL ln xs l k).getD (ln + l.getD t 0) 0 = xs.getD (ln + l.getD t 0) 0
  | 0, _ => rfl
  | k + 1, hk => by
    unfold puL
    have := getD_ne hn (i := k) (k := t) (by omega) ht (by omega)
    rw [getD_set, if_neg (by omega), puL_last hn ht k (by omega)]
theorem puL_at (hn : l.Nodup) (hlt : ∀ x ∈ l, ln + x < xs.length) {t : Nat} : ∀ k, k + 1 ≤ l.length → t < k → (puL ln xs l k).getD (ln + l.getD t 0) 0 = (l.getD (t + 1) 0 : Nat) + 1
  | 0, _, ht => by omega
  | k + 1, hk, ht => by
    unfold puL
    by_cases e : t = k
    · subst e
      rw [getD_set, if_pos ⟨rfl, by rw [puL_len]; exact hlt _ (getD_mem (by omega))⟩]
    · have := getD_ne hn (i := k) (k := t) (by omega) (by omega) (by omega)
      rw [getD_set, if_neg (by omega), puL_at hn hlt k (by omega) (by omega)]
theorem pone_run {P : Pu} (h : P.fin = false) : Pu.one n ln (xs, P) = (P.xs n 0 ln xs, P.go 0 xs) := by unfold Pu.one; rw [if_neg (by simp [h])]
theorem pu_links (ln n : Nat) (xs : List Int) (l : List Nat) : ∀ k, k + 1 ≤ l.length → Pu.many n ln (xs, ⟨l, 0, 0, false⟩) k = (puL ln xs l k, ⟨l, k, 0, false⟩)
  | 0, _ => rfl
  | k + 1, hk => by
    show Pu.one n ln (Pu.many n ln _ k) = _
    rw [pu_links ln n xs l k (by omega), pone_run rfl]
    unfold Pu.xs Pu.go
    dsimp only
    rw [if_pos (by omega), if_pos (by omega)]
    rfl
/-- A Push alone. -/
theorem push_alone (T : Tells n ln xs S) (h0 : l ≠ []) (hn : l.Nodup) (hd : ∀ x ∈ l, x < n ∧ x ∉ S) (hl : ln + n ≤ xs.length) (h1 : 1 ≤ ln) (hn4 : n ≤ 4096) :
    (∀ i, i < l.length + 2 → ∃ X P, Pu.many n ln (xs, ⟨l, 0, 0, false⟩) i = (X, P) ∧ P.fin = false ∧ P.l = l ∧ X.length = xs.length) ∧ ∃ X P, Pu.many n ln (xs, ⟨l, 0, 0, false⟩) (l.length + 2) = (X, P) ∧ P.fin = true ∧ Tells n ln X (l ++ S) ∧ X.length = xs.length ∧ (∀ j, j ≠ 0 → j < ln → X.getD j 0 = xs.getD j 0) := by
  have lp := List.length_pos_iff.2 h0
  obtain ⟨m, hm⟩ : ∃ m, l.length = m + 1 := ⟨l.length - 1, by omega⟩
  have hlt : ∀ x ∈ l, ln + x < xs.length := fun x hx => by have := (hd x hx).1; omega
  have e0 := pu_links ln n xs l m (by omega)
  obtain ⟨X, hX⟩ : ∃ X, puL ln xs l m = X := ⟨_, rfl⟩
  have hXl : X.length = xs.length := by rw [← hX, puL_len]
  have hX0 : X.getD 0 0 = xs.getD 0 0 := by rw [← hX, puL_low (by omega)]
  rw [hX] at e0
  have e1 : Pu.many n ln (xs, ⟨l, 0, 0, false⟩) (m + 1) = (X, ⟨l, m + 1, xs.getD 0 0, false⟩) := by
    show Pu.one n ln (Pu.many n ln _ m) = _
    rw [e0, pone_run rfl]
    unfold Pu.xs Pu.go
    dsimp only
    rw [if_neg (by omega), if_pos (by omega), if_neg (by omega), if_pos (by omega), hX0]
  obtain ⟨Y, hY⟩ : ∃ Y, X.set (ln + l.getD (l.length - 1) 0) (topN n (xs.getD 0 0) + 1) = Y := ⟨_, rfl⟩
  have hYl : Y.length = xs.length := by rw [← hY, List.length_set, hXl]
  have hY0 : Y.getD 0 0 = xs.getD 0 0 := by rw [← hY, getD_set, if_neg (by omega), hX0]
  have e2 : Pu.many n ln (xs, ⟨l, 0, 0, false⟩) (m + 2) = (Y, ⟨l, m + 2, xs.getD 0 0, false⟩) := by
    show Pu.one n ln (Pu.many n ln _ (m + 1)) = _
    rw [e1, pone_run rfl]
    unfold Pu.xs Pu.go
    dsimp only
    rw [if_neg (by omega), if_neg (by omega), if_pos (by omega), if_neg (by omega), if_neg (by omega), if_pos (by omega), hY]
  have e3 : Pu.many n ln (xs, ⟨l, 0, 0, false⟩) (m + 3) = (Y.set 0 (nextW (xs.getD 0 0) (l.getD 0 0 : Nat)), ⟨l, l.length - 1, xs.getD 0 0, true⟩) := by
    show Pu.one n ln (Pu.many n ln _ (m + 2)) = _
    rw [e2, pone_run rfl]
    unfold Pu.xs Pu.go
    dsimp only
    rw [if_neg (by omega), if_neg (by omega), if_neg (by omega), hY0, if_pos rfl, if_neg (by omega), if_neg (by omega), if_neg (by omega), decide_eq_true rfl]
  refine ⟨fun i hi => ?_, Y.set 0 (nextW (xs.getD 0 0) (l.getD 0 0 : Nat)), ⟨l, l.length - 1, xs.getD 0 0, true⟩, by rw [show l.length + 2 = m + 3 by omega]; exact e3, rfl, ?_, by rw [List.length_set]; exact hYl, fun j hj1 hj2 => ?_⟩
  · by_cases hi1 : i ≤ m
    · exact ⟨_, _, pu_links ln n xs l i (by omega), rfl, rfl, puL_len _ _ _ _⟩
    by_cases hi2 : i = m + 1
    · subst hi2; exact ⟨_, _, e1, rfl, rfl, hXl⟩
    · have hi3 : i = m + 2 := by omega
      subst hi3; exact ⟨_, _, e2, rfl, rfl, hYl⟩
  · have hlow : ∀ y, (Y.set 0 (nextW (xs.getD 0 0) (l.getD 0 0 : Nat))).getD (ln + y) 0 = Y.getD (ln + y) 0 := fun y => by rw [getD_set, if_neg (by omega)]
    have hlast : l.getLast h0 = l.getD m 0 := by
      rw [List.getLast_eq_getElem]
      simp [List.getD, hm]
    have m0 := (hd _ (getD_mem (l := l) (k := 0) (by omega))).1
    refine ⟨fun x hx => ?_, ?_, ?_⟩
    · rcases List.mem_append.1 hx with hx | hx
      · exact (hd x hx).1
      · exact T.lt x hx
    · refine Stk.Chain.above (b := S) ?_ h0 (fun t ht => ?_) ?_
      · have key : ∀ R : List Nat, (∀ y ∈ R, y ∉ l) → Stk.Chain (lkX ln xs) R → Stk.Chain (lkX ln (Y.set 0 (nextW (xs.getD 0 0) (l.getD 0 0 : Nat)))) R := by
          intro R
          induction R with
          | nil => intro _ _; trivial
          | cons y r ih =>
            intro hy hc
            refine ⟨?_, ih (fun z hz => hy z (List.mem_cons_of_mem _ hz)) hc.2⟩
            have hyl := hy y List.mem_cons_self
            have hmm := getD_mem (l := l) (k := l.length - 1) (by omega)
            unfold lkX
            rw [hlow, ← hY, getD_set, if_neg (fun e => hyl (by rw [show y = l.getD (l.length - 1) 0 by omega]; exact hmm)), ← hX, puL_off hyl m (by omega)]
            exact hc.1
        exact key S (fun y hy hl => (hd y hl).2 hy) T.chain
      · unfold lkX
        have := getD_ne hn (i := l.length - 1) (k := t) (by omega) (by omega) (by omega)
        rw [hlow, ← hY, getD_set, if_neg (by omega), ← hX, puL_at hn hlt m (by omega) (by omega)]
      · unfold lkX
        rw [hlow, hlast, ← hY, show l.length - 1 = m by omega, getD_set, if_pos ⟨rfl, by rw [hXl]; exact hlt _ (getD_mem (by omega))⟩, T.top]
        omega
    · have hne : Stk.linkOf (l ++ S) = (l.getD 0 0 : Nat) + 1 := by
        cases l with
        | nil => exact absurd rfl h0
        | cons x r => rfl
      rw [getD_set, if_pos ⟨rfl, by omega⟩, nextW_mod (by omega) (by omega), hne]
  · rw [getD_set, if_neg (by omega), ← hY, getD_set, if_neg (by omega), ← hX, puL_low hj2]
end
end Go.Proofs.YtkopplnjomkleaaGreat
