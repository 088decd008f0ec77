/-
  Texts beneath SupplyWaits, part 23: SupLook, SupLone, SoloRun.
-/
import Derived.Test.YtkopplnjomkleaaPart22
/-
  Package supply: a Take's access at the Load of the epoch (loadEpoch); its Step, whole.
-/
namespace Go.Proofs.Ytkopplnjomkleaa
open Go.RowKit
open W64
set_option maxRecDepth 100000
set_option linter.unusedSimpArgs false
section
variable {w w1 w' : World} {bt b p g q qs ql lk n bp most : Nat} {F F' O : List Nat} {m ba sn ch now : Int} {st ys zs : List Int} {R R' : Lb} {s s' : St} {v : Value} {mc : Mc}
/-- Behind the Load, and behind the Ready: what is at hand. -/
structure UTkSeen (w w' : World) (bt b p g q lk n : Nat) (s' : St) (ba : Int) (qs ql : Nat) (F : List Nat) (m : Int) (st : List Int) (R : Lb) (now : Int) (F' : List Nat) : Prop where
  su : PSu w' b (suRow p q ba qs ql) qs ql F' m st R
  top : Whole w' bt 103 (utRow (meth 47 bt) b (.pointer none) now 0 false)
  env : Env w' p g q 0 lk n s'
  nx : Next w F F'
  he : Else (p :: g :: bt :: F) w w'
  nb : bt ∉ F'
theorem UTkSeen.up (M : UTkSeen w w1 bt b p g q lk n s' ba qs ql F m st R now F') (u : Up w1 w') : UTkSeen w w' bt b p g q lk n s' ba qs ql F m st R now F' := ⟨M.su.up u, M.top.up u, M.env.up u, M.nx, M.he.up u, M.nb⟩
theorem UTkSeen.looks (M : UTkSeen w w1 bt b p g q lk n s' ba qs ql F m st R now F') (u : Up w1 w') : w'.cell? ⟨bt, 1, none⟩ = some (.pointer (some ⟨b, 0, none⟩)) ∧ w'.cell? ⟨bt, 3, none⟩ = some (.int .i64 now) := ⟨u.kept (M.top.cell rfl), u.kept (M.top.cell rfl)⟩
theorem ulook_mem (J : UTkIn w bt b p g q lk n s ba qs ql F O m st R .look ch sn) (M : Mem w1 p g (s.hit 1 ((2 : Nat) : Int) (s.get ((2 : Nat) : Int)) true)) (E : Else [p, g] w w1) :
    UTkSeen w w1 bt b p g q lk n (s.hit 1 ((2 : Nat) : Int) (s.get ((2 : Nat) : Int)) true) ba qs ql F m st R (-1) F := by
  obtain ⟨rfl, _, _, T⟩ := J.tk
  have hbt := J.far bt (.inr (by simp))
  exact ⟨J.su.else E (fun x hx => by have := J.far x (.inl hx); simp [this.1, this.2.1]), E.whole T (by simp [hbt.1, hbt.2.1]), J.env.read M E (by simp [J.env.np, J.env.ng]), Next.refl _ _, E.more (fun x hx => by simp at hx ⊢; rcases hx with h | h <;> simp [h]), J.dis bt (by simp)⟩
theorem ulook_store (J : UTkIn w bt b p g q lk n s ba qs ql F O m st R .look ch sn) (M : UTkSeen w w1 bt b p g q lk n s' ba qs ql F m st R (-1) F) (now : Int) :
    UTkSeen w (w1.setCell ⟨bt, 3, none⟩ (.int .i64 now)) bt b p g q lk n s' ba qs ql F m st R now F := by
  obtain ⟨rfl, _, _, T0⟩ := J.tk
  have hbt := J.far bt (.inr (by simp))
  have u : Else [bt] w1 (w1.setCell ⟨bt, 3, none⟩ (.int .i64 now)) := (Else.refl [bt] w1).set (.inl (by simp)) _
  exact ⟨M.su.else u (fun x hx => by simp; rintro rfl; exact M.nb hx), M.top.set 3 _, M.env.else u (by simp; exact hbt.1.symm) (by simp; exact hbt.2.1.symm) (by simp; exact hbt.2.2.symm), M.nx, M.he.trans (u.more (fun x hx => by simp at hx; simp [hx])), M.nb⟩
theorem ulook_ready {st' : List Int} (J : UTkIn w bt b p g q lk n s ba qs ql F O m st R .look ch sn) (M : UTkSeen w w1 bt b p g q lk n s' ba qs ql F m st R now F) (T : Turned w1 w' F fun F' => PSu w' b (suRow p q ba qs ql) qs ql F' m st' R') :
    ∃ F', UTkSeen w w' bt b p g q lk n s' ba qs ql F m st' R' now F' := by
  obtain ⟨F', S, N, X⟩ := T
  have hsz := M.he.size
  have hbw : bt < w.heap.size := by obtain ⟨rfl, _, _, T0⟩ := J.tk; exact T0.lt
  have N0 : Next w F F' := fun y hy => (N y hy).imp id (fun h => by omega)
  refine ⟨F', S, X.whole M.top M.nb, M.env.else X (fun h => (J.far p (.inl h)).1 rfl) (fun h => (J.far g (.inl h)).2.1 rfl) (fun h => (J.far q (.inl h)).2.2 rfl), N0, M.he.trans (X.more (fun y hy => by simp [hy])), fun h => ?_⟩
  rcases N0 bt h with h | h
  · exact M.nb h
  · omega
theorem ulook_done {y : Int} {st' : List Int} {w3 : World} {pv : Value} (J : UTkIn w bt b p g q lk n s ba qs ql F O m st R .look ch sn) (M : UTkSeen w w3 bt b p g q lk n s' ba qs ql F m zs R' now F') (hy : 0 ≤ y) (T : Whole w' bt 103 (utRow .nilFunc b pv now y true))
    (U : Turned w3 w' (bt :: F') fun F2 => ∃ F'', F2 = bt :: F'' ∧ PSu w' b (suRow p q ba qs ql) qs ql F'' m st' R' ∧ bt ∉ F'') : UTkOut w w' bt b p g q lk n s'.c s'.xs ba qs ql F O m st' R' .idle y now := by
  obtain ⟨rfl, _, _, T0⟩ := J.tk
  obtain ⟨_, ⟨F'', rfl, S, nb⟩, N, X⟩ := U
  have hsz := M.he.size
  obtain ⟨l1, l2, l3⟩ := J.env.lts
  have hbt := J.far bt (.inr (by simp))
  have hF' : ∀ y, y ∈ bt :: F' → y ∈ F ∨ y = bt ∨ w.heap.size ≤ y := fun y hy => by
    rcases List.mem_cons.1 hy with h | h
    · exact .inr (.inl h)
    · rcases M.nx y h with h | h
      · exact .inl h
      · exact .inr (.inr h)
  have N0 : Next w F F'' := fun y hy => by
    rcases N y (by simp [hy]) with h | h
    · rcases hF' y h with h | h | h
      · exact .inl h
      · exact absurd (h ▸ hy) nb
      · exact .inr h
    · exact .inr (by omega)
  have na : ∀ z, z < w.heap.size → z ∉ F → z ≠ bt → z ∉ bt :: F' := fun z h1 h2 h3 h => by
    rcases hF' z h with h | h | h
    · exact h2 h
    · exact h3 h
    · omega
  refine ⟨F'', [bt], s', rfl, rfl, ⟨S, ⟨by simp, fun z hz => by simp at hz; subst hz; exact T.lt, pv, by rw [show chI y = y by unfold chI; rw [if_neg (by omega)], show chB y = true by unfold chB; exact decide_eq_true hy]; exact T⟩, M.env.else X (na p l1 (fun h => (J.far p (.inl h)).1 rfl) hbt.1.symm) (na g l2 (fun h => (J.far g (.inl h)).2.1 rfl) hbt.2.1.symm) (na q l3 (fun h => (J.far q (.inl h)).2.2 rfl) hbt.2.2.symm), fun z hz => by simp at hz; subst hz; exact nb, ufar_next N0 (Next.refl _ _) J.far l1 l2 l3⟩, N0, Next.refl _ _, ?_⟩
  refine Else.into (M.he.more (fun y hy => by simp at hy ⊢; rcases hy with h | h | h | h <;> simp [h])) X (fun y hy => ?_)
  rcases hF' y hy with h | h | h
  · exact .inl (by simp [h])
  · exact .inl (by simp [h])
  · exact .inr h
theorem ulook_pop {w3 : World} (J : UTkIn w bt b p g q lk n s ba qs ql F O m st R .look ch sn) (M : UTkSeen w w3 bt b p g q lk n s' ba qs ql F m zs R' now F') (T : Whole w' bt 103 (utRow (meth 72 bt) b (.pointer (some ⟨bp, 0, none⟩)) now 0 false))
    (Q : PoM w' bp q n (.slice none 0 0) (Po.new most)) (hb : w3.heap.size ≤ bp) (X : Else [bt] w3 w') : UTkOut w w' bt b p g q lk n s'.c s'.xs ba qs ql F O m zs R' (.pop now (Po.new most)) (-1) now := by
  obtain ⟨rfl, _, _, T0⟩ := J.tk
  have hsz := M.he.size
  have h3 := M.top.lt
  obtain ⟨l1, l2, l3⟩ := J.env.lts
  have hbt := J.far bt (.inr (by simp))
  have NO : Next w [bt] (bt :: bp :: blk (.slice none 0 0)) := fun y hy => by
    simp [blk, Value.ownBlock] at hy
    rcases hy with h | h
    · exact .inl (by simp [h])
    · exact .inr (by omega)
  refine ⟨F', bt :: bp :: blk (.slice none 0 0), s', rfl, rfl, ⟨M.su.else X (fun y hy => by simp; rintro rfl; exact M.nb hy), ⟨rfl, rfl, bp, _, rfl, T, Q, by omega, by simp [Value.ownBlock], by simp [Value.ownBlock]⟩, M.env.else X (by simp; exact hbt.1.symm) (by simp; exact hbt.2.1.symm) (by simp; exact hbt.2.2.symm), fun y hy h => ?_, ufar_next M.nx NO J.far l1 l2 l3⟩, M.nx, NO, (M.he.more (fun y hy => by simp at hy ⊢; rcases hy with h | h | h | h <;> simp [h])).trans (X.more (fun y hy => by simp at hy; simp [hy]))⟩
  simp [blk, Value.ownBlock] at hy
  rcases hy with e | e
  · exact M.nb (e ▸ h)
  · have := M.su.lt y h; omega
theorem ulook_xs (s : St) : (s.hit 1 ((2 : Nat) : Int) (s.get ((2 : Nat) : Int)) true).xs = s.xs ∧ (s.hit 1 ((2 : Nat) : Int) (s.get ((2 : Nat) : Int)) true).c = wrap64 (s.c + 1) := ⟨read_xs _ _ _ _, rfl⟩
set_option maxHeartbeats 8000000 in
/-- Something is ready: it is done. -/
theorem utkLook_yes {y : Int} (J : UTkIn w bt b p g q lk n s ba qs ql F O m [] R .look ch sn) (hx : cutE (s.xs.getD 2 0) = now) (h2 : 2 < s.xs.length) (hr : R.outs now = ys ++ [y]) (hy : 0 ≤ y) (hs : R.size ≤ 8000) (hl : (R.outs now).length ≤ 8000) :
    Calls Try.prog 47 #[.pointer (some ⟨bt, 0, none⟩)] w fun e w' => e = .returned (.tuple #[]) ∧ UTkOut w w' bt b p g q lk n (wrap64 (s.c + 1)) s.xs ba qs ql F O m ys (R.rest now) .idle y now := by
  have hw := J.env.ok.words 2
  have hn := cutE_in hw.1
  rw [hx] at hn
  obtain ⟨x, hxx⟩ : ∃ x, s.xs.getD 2 0 = x := ⟨_, rfl⟩
  rw [hxx] at hw hx
  have HJ := Lib.hid J
  have HX := Lib.hid hxx
  have H2 := Lib.hid h2
  have HR := Lib.hid hr
  obtain ⟨d, hd⟩ : ∃ d, (R.outs now).length = d := ⟨_, rfl⟩
  have HD := Lib.hid hd
  have HS := Lib.hid (show R.size ≤ 8000 ∧ ([] : List Int).length + (R.outs now).length ≤ 8192 from ⟨hs, by simp; omega⟩)
  have HY := Lib.hid hy
  have T0 : Whole w bt 103 (utRow (meth 47 bt) b (.pointer none) (-1) 0 false) := by obtain ⟨_, _, _, T⟩ := J.tk; exact T
  have t1 := T0.cell (i := 1) (v := .pointer (some ⟨b, 0, none⟩)) rfl
  obtain ⟨c0, _, _, _, _⟩ := J.su.cells (Up.refl _)
  clear J h2 hr hs hl hxx T0 hn hd hy
  by_cases hc : x ≤ 4611686018427387903
  · have e0 : now = x := by rw [← hx]; unfold cutE; rw [if_pos hc]
    have h3 : ¬ 4611686018427387903 < x := by omega
    have e1 : IntKind.i64.wrap x = x := IntWalk.i64_in _ (by omega)
    clear hx hc hw
    subst e0
    go_enter Try.func47, Try.ntmps47
    go_upto_region 2 with (first
      | (go_at_call 69; (with_reducible refine (loadj_to (j := 2) two_is HJ.out.env.mem H2.out HX.out).mono ?_); rintro e w1 ⟨rfl, M1, E1⟩; have HM1 := Lib.hid (ulook_mem HJ.out M1 E1); have s3 := HM1.out.top.cell (i := 3) (v := .int .i64 (-1)) rfl; have f3 := HM1.out.top.frozen 3; clear M1 E1))
    clear t1 c0 s3 f3
    have HS2 := Lib.hid (ulook_store HJ.out HM1.out now)
    generalize w1.setCell ⟨bt, 3, none⟩ (.int .i64 now) = w2 at *
    have HQ := Lib.hid (HS2.out.looks (up_drew w2))
    have HU := Lib.hid (HS2.out.up (up_drew w2))
    go_region_held3 (fun w' => w'.cell? ⟨bt, 1, none⟩ = some (.pointer (some ⟨b, 0, none⟩)) ∧ w'.cell? ⟨bt, 3, none⟩ = some (.int .i64 now))
      ((first | with_reducible exact HQ3.out | with_reducible exact HQ.out))
      (first
        | (go_at_call 19; (with_reducible refine (suReady HU.out.su _ HS.out.1 HS.out.2 HD.out).mono ?_); rintro e w3 ⟨rfl, T3⟩; obtain ⟨F3, M3⟩ := ulook_ready HJ.out HU.out T3; have HM3 := Lib.hid M3; have HQ3 := Lib.hid (M3.looks (Up.refl _)); clear T3 M3))
    have HE3 := Lib.hid (show PSu w3 b (suRow p q ba qs ql) qs ql F3 m (ys ++ [y]) (R.rest now) by have h := HM3.out.su; rw [HR.out] at h; simpa using h)
    go_wp2_with (go_at_call 48; refine (utkKept HE3.out HM3.out.top HM3.out.nb).mono ?_; rintro e w4 ⟨rfl, T4, U4⟩; have HT4 := Lib.hid T4; have HU4 := Lib.hid U4; clear T4 U4)
    go_end0
    have h := ulook_done HJ.out HM3.out HY.out HT4.out HU4.out
    rw [(ulook_xs s).1, (ulook_xs s).2] at h
    exact ⟨rfl, h⟩
  · have e0 : now = 4611686018427387903 := by rw [← hx]; unfold cutE; rw [if_neg hc]
    have h3 : 4611686018427387903 < x := by omega
    clear hx hc hw
    subst e0
    go_enter Try.func47, Try.ntmps47
    go_upto_region 2 with (first
      | (go_at_call 69; (with_reducible refine (loadj_to (j := 2) two_is HJ.out.env.mem H2.out HX.out).mono ?_); rintro e w1 ⟨rfl, M1, E1⟩; have HM1 := Lib.hid (ulook_mem HJ.out M1 E1); have s3 := HM1.out.top.cell (i := 3) (v := .int .i64 (-1)) rfl; have f3 := HM1.out.top.frozen 3; clear M1 E1))
    clear t1 c0 s3 f3
    have HS2 := Lib.hid (ulook_store HJ.out HM1.out 4611686018427387903)
    generalize w1.setCell ⟨bt, 3, none⟩ (.int .i64 4611686018427387903) = w2 at *
    have HQ := Lib.hid (HS2.out.looks (up_drew w2))
    have HU := Lib.hid (HS2.out.up (up_drew w2))
    go_region_held3 (fun w' => w'.cell? ⟨bt, 1, none⟩ = some (.pointer (some ⟨b, 0, none⟩)) ∧ w'.cell? ⟨bt, 3, none⟩ = some (.int .i64 4611686018427387903))
      ((first | with_reducible exact HQ3.out | with_reducible exact HQ.out))
      (first
        | (go_at_call 19; (with_reducible refine (suReady HU.out.su _ HS.out.1 HS.out.2 HD.out).mono ?_); rintro e w3 ⟨rfl, T3⟩; obtain ⟨F3, M3⟩ := ulook_ready HJ.out HU.out T3; have HM3 := Lib.hid M3; have HQ3 := Lib.hid (M3.looks (Up.refl _)); clear T3 M3))
    have HE3 := Lib.hid (show PSu w3 b (suRow p q ba qs ql) qs ql F3 m (ys ++ [y]) (R.rest 4611686018427387903) by have h := HM3.out.su; rw [HR.out] at h; simpa using h)
    go_wp2_with (go_at_call 48; refine (utkKept HE3.out HM3.out.top HM3.out.nb).mono ?_; rintro e w4 ⟨rfl, T4, U4⟩; have HT4 := Lib.hid T4; have HU4 := Lib.hid U4; clear T4 U4)
    go_end0
    have h := ulook_done HJ.out HM3.out HY.out HT4.out HU4.out
    rw [(ulook_xs s).1, (ulook_xs s).2] at h
    exact ⟨rfl, h⟩
set_option maxHeartbeats 8000000 in
/-- Nothing is ready: the Pop comes next. -/
theorem utkLook_pop (J : UTkIn w bt b p g q lk n s ba qs ql F O m [] R .look ch sn) (hx : cutE (s.xs.getD 2 0) = now) (h2 : 2 < s.xs.length) (hr : R.outs now = []) (hm : min (max ba 1) 8 = most) (hs : R.size ≤ 8000) (hl : (R.outs now).length ≤ 8000) :
    Calls Try.prog 47 #[.pointer (some ⟨bt, 0, none⟩)] w fun e w' => e = .returned (.tuple #[]) ∧ UTkOut w w' bt b p g q lk n (wrap64 (s.c + 1)) s.xs ba qs ql F O m [] (R.rest now) (.pop now (Po.new most)) (-1) now := by
  have hw := J.env.ok.words 2
  have hn := cutE_in hw.1
  rw [hx] at hn
  obtain ⟨x, hxx⟩ : ∃ x, s.xs.getD 2 0 = x := ⟨_, rfl⟩
  rw [hxx] at hw hx
  have HJ := Lib.hid J
  have HX := Lib.hid hxx
  have H2 := Lib.hid h2
  have HR := Lib.hid hr
  obtain ⟨d, hd⟩ : ∃ d, (R.outs now).length = d := ⟨_, rfl⟩
  have HD := Lib.hid hd
  have HS := Lib.hid (show R.size ≤ 8000 ∧ ([] : List Int).length + (R.outs now).length ≤ 8192 from ⟨hs, by simp; omega⟩)
  have HM := Lib.hid hm
  have T0 : Whole w bt 103 (utRow (meth 47 bt) b (.pointer none) (-1) 0 false) := by obtain ⟨_, _, _, T⟩ := J.tk; exact T
  have t1 := T0.cell (i := 1) (v := .pointer (some ⟨b, 0, none⟩)) rfl
  obtain ⟨c0, _, _, _, _⟩ := J.su.cells (Up.refl _)
  clear J h2 hr hs hl hxx T0 hn hd hm
  by_cases hc : x ≤ 4611686018427387903
  · have e0 : now = x := by rw [← hx]; unfold cutE; rw [if_pos hc]
    have h3 : ¬ 4611686018427387903 < x := by omega
    have e1 : IntKind.i64.wrap x = x := IntWalk.i64_in _ (by omega)
    clear hx hc hw
    subst e0
    go_enter Try.func47, Try.ntmps47
    go_upto_region 2 with (first
      | (go_at_call 69; (with_reducible refine (loadj_to (j := 2) two_is HJ.out.env.mem H2.out HX.out).mono ?_); rintro e w1 ⟨rfl, M1, E1⟩; have HM1 := Lib.hid (ulook_mem HJ.out M1 E1); have s3 := HM1.out.top.cell (i := 3) (v := .int .i64 (-1)) rfl; have f3 := HM1.out.top.frozen 3; clear M1 E1))
    clear t1 c0 s3 f3
    have HS2 := Lib.hid (ulook_store HJ.out HM1.out now)
    generalize w1.setCell ⟨bt, 3, none⟩ (.int .i64 now) = w2 at *
    have HQ := Lib.hid (HS2.out.looks (up_drew w2))
    have HU := Lib.hid (HS2.out.up (up_drew w2))
    go_region_held3 (fun w' => w'.cell? ⟨bt, 1, none⟩ = some (.pointer (some ⟨b, 0, none⟩)) ∧ w'.cell? ⟨bt, 3, none⟩ = some (.int .i64 now))
      ((first | with_reducible exact HQ3.out | with_reducible exact HQ.out))
      (first
        | (go_at_call 19; (with_reducible refine (suReady HU.out.su _ HS.out.1 HS.out.2 HD.out).mono ?_); rintro e w3 ⟨rfl, T3⟩; obtain ⟨F3, M3⟩ := ulook_ready HJ.out HU.out T3; have HM3 := Lib.hid M3; have HQ3 := Lib.hid (M3.looks (Up.refl _)); clear T3 M3))
    have HE3 := Lib.hid (show PSu w3 b (suRow p q ba qs ql) qs ql F3 m [] (R.rest now) by have h := HM3.out.su; rw [HR.out] at h; simpa using h)
    go_wp2_with (go_at_call 48; refine (utkPool HE3.out HM3.out.top HM3.out.nb HM.out n).mono ?_; rintro e w4 ⟨rfl, bp, T4, M4, b4, X4⟩; have HT4 := Lib.hid T4; have HM4 := Lib.hid M4; have HB4 := Lib.hid b4; have HX4 := Lib.hid X4; clear T4 M4 b4 X4)
    go_end0
    have M5 : UTkSeen w w3 bt b p g q lk n _ ba qs ql F m [] (R.rest now) now F3 := ⟨HE3.out, HM3.out.top, HM3.out.env, HM3.out.nx, HM3.out.he, HM3.out.nb⟩
    have h := ulook_pop HJ.out M5 HT4.out HM4.out HB4.out HX4.out
    rw [(ulook_xs s).1, (ulook_xs s).2] at h
    exact ⟨rfl, h⟩
  · have e0 : now = 4611686018427387903 := by rw [← hx]; unfold cutE; rw [if_neg hc]
    have h3 : 4611686018427387903 < x := by omega
    clear hx hc hw
    subst e0
    go_enter Try.func47, Try.ntmps47
    go_upto_region 2 with (first
      | (go_at_call 69; (with_reducible refine (loadj_to (j := 2) two_is HJ.out.env.mem H2.out HX.out).mono ?_); rintro e w1 ⟨rfl, M1, E1⟩; have HM1 := Lib.hid (ulook_mem HJ.out M1 E1); have s3 := HM1.out.top.cell (i := 3) (v := .int .i64 (-1)) rfl; have f3 := HM1.out.top.frozen 3; clear M1 E1))
    clear t1 c0 s3 f3
    have HS2 := Lib.hid (ulook_store HJ.out HM1.out 4611686018427387903)
    generalize w1.setCell ⟨bt, 3, none⟩ (.int .i64 4611686018427387903) = w2 at *
    have HQ := Lib.hid (HS2.out.looks (up_drew w2))
    have HU := Lib.hid (HS2.out.up (up_drew w2))
    go_region_held3 (fun w' => w'.cell? ⟨bt, 1, none⟩ = some (.pointer (some ⟨b, 0, none⟩)) ∧ w'.cell? ⟨bt, 3, none⟩ = some (.int .i64 4611686018427387903))
      ((first | with_reducible exact HQ3.out | with_reducible exact HQ.out))
      (first
        | (go_at_call 19; (with_reducible refine (suReady HU.out.su _ HS.out.1 HS.out.2 HD.out).mono ?_); rintro e w3 ⟨rfl, T3⟩; obtain ⟨F3, M3⟩ := ulook_ready HJ.out HU.out T3; have HM3 := Lib.hid M3; have HQ3 := Lib.hid (M3.looks (Up.refl _)); clear T3 M3))
    have HE3 := Lib.hid (show PSu w3 b (suRow p q ba qs ql) qs ql F3 m [] (R.rest 4611686018427387903) by have h := HM3.out.su; rw [HR.out] at h; simpa using h)
    go_wp2_with (go_at_call 48; refine (utkPool HE3.out HM3.out.top HM3.out.nb HM.out n).mono ?_; rintro e w4 ⟨rfl, bp, T4, M4, b4, X4⟩; have HT4 := Lib.hid T4; have HM4 := Lib.hid M4; have HB4 := Lib.hid b4; have HX4 := Lib.hid X4; clear T4 M4 b4 X4)
    go_end0
    have M5 : UTkSeen w w3 bt b p g q lk n _ ba qs ql F m [] (R.rest 4611686018427387903) 4611686018427387903 F3 := ⟨HE3.out, HM3.out.top, HM3.out.env, HM3.out.nx, HM3.out.he, HM3.out.nb⟩
    have h := ulook_pop HJ.out M5 HT4.out HM4.out HB4.out HX4.out
    rw [(ulook_xs s).1, (ulook_xs s).2] at h
    exact ⟨rfl, h⟩
end
end Go.Proofs.Ytkopplnjomkleaa

/-
  One supply alone over the statements' own 'all' (Lone), with a Take (LoneT): what each call leaves.
-/
namespace Go.Proofs.Ytkopplnjomkleaa
open Go.RowKit
open W64
set_option maxRecDepth 100000
set_option linter.unusedSimpArgs false
structure Lone (W w : World) (l : Lia) (xs : List Int) (d : SuD) (vS vX : Value) (st : List Int) (R : Lb) : Prop where
  obj : Whole w l.a 34 (alRow l vS vX)
  sm : ∃ s : St, s.xs = xs ∧ Env w l.p l.g l.q0 0 l.lk l.n s ∧ Env w l.p l.g d.q 0 l.lk l.n s
  su : PSu w d.b (suRow l.p d.q l.c.ba d.qs d.ql) d.qs d.ql d.F l.m st R
  far : ∀ x ∈ d.F, x ≠ l.a ∧ x ≠ l.p ∧ x ≠ l.g ∧ x ≠ l.q0 ∧ x ≠ d.q
  nF : ∀ x ∈ d.F, W.heap.size ≤ x
  nw : W.heap.size ≤ l.p ∧ W.heap.size ≤ l.g
  up : Up W w
/-- The same supply with other blocks. -/
def SuD.re (d : SuD) (F : List Nat) : SuD := ⟨d.b, d.q, d.qs, d.ql, F⟩
structure LoneT (W w : World) (l : Lia) (xs : List Int) (d : SuD) (vS vX : Value) (st : List Int) (R : Lb) (bt : Nat) (O : List Nat) (mc : Mc) (ch sn : Int) : Prop where
  lone : Lone W w l xs d vS vX st R
  tk : UTkM w bt d.b d.q l.n mc ch sn O
  dis : ∀ x ∈ O, x ∉ d.F
  far : ∀ x ∈ O, x ≠ l.a ∧ x ≠ l.p ∧ x ≠ l.g ∧ x ≠ l.q0 ∧ x ≠ d.q
  nO : ∀ x ∈ O, W.heap.size ≤ x
section
variable {W w w1 w' : World} {l : Lia} {xs xs' : List Int} {d : SuD} {vS vX : Value} {st st' : List Int} {R R' : Lb} {bt : Nat} {O F : List Nat} {mc mc' : Mc} {ch sn ch' sn' y i : Int}
theorem SAll.lone {s : St} {cnt : Int} {X : List RuD} (A : SAll W w l s xs cnt vS vX [d] X) : Lone W w l s.xs d vS vX [] Lb.zero :=
  ⟨A.obj, ⟨s, rfl, A.env, (A.su d (by simp)).2⟩, (A.su d (by simp)).1, fun x hx => by
    obtain ⟨⟨h1, h2, h3, h4, _⟩, _, _, h5⟩ := A.far d (by simp) x hx
    exact ⟨h1, h2, h3, h4, (h5 d (by simp)).symm⟩, A.nL d (by simp), ⟨A.nw.2.1, A.nw.2.2.1⟩, A.up⟩
theorem Lone.ups (A : Lone W w l xs d vS vX st R) (u : Up w w') : Lone W w' l xs d vS vX st R := by
  obtain ⟨s, h, E0, E1⟩ := A.sm
  exact ⟨A.obj.up u, ⟨s, h, E0.up u, E1.up u⟩, A.su.up u, A.far, A.nF, A.nw, A.up.trans u⟩
theorem Lone.base {W0 : World} (A : Lone W w l xs d vS vX st R) (u : Up W0 W) : Lone W0 w l xs d vS vX st R :=
  ⟨A.obj, A.sm, A.su, A.far, fun x hx => Nat.le_trans u.size (A.nF x hx), ⟨Nat.le_trans u.size A.nw.1, Nat.le_trans u.size A.nw.2⟩, u.trans A.up⟩
theorem Lone.lts (A : Lone W w l xs d vS vX st R) : l.a < w.heap.size ∧ l.p < w.heap.size ∧ l.g < w.heap.size ∧ l.q0 < w.heap.size ∧ d.q < w.heap.size := by
  obtain ⟨s, h, E0, E1⟩ := A.sm
  exact ⟨A.obj.lt, E0.mem.top.lt, E0.mem.row.lt, E0.stk.lt, E1.stk.lt⟩
theorem Lone.next (A : Lone W w l xs d vS vX st R) {F' : List Nat} (N : Next w d.F F') : (∀ x ∈ F', x ≠ l.a ∧ x ≠ l.p ∧ x ≠ l.g ∧ x ≠ l.q0 ∧ x ≠ d.q) ∧ ∀ x ∈ F', W.heap.size ≤ x := by
  obtain ⟨l1, l2, l3, l4, l5⟩ := A.lts
  have := A.up.size
  refine ⟨fun x hx => ?_, fun x hx => ?_⟩
  · rcases N x hx with h | h
    · exact A.far x h
    · omega
  · rcases N x hx with h | h
    · exact A.nF x h
    · omega
theorem Lone.ins (A : Lone W w l xs d vS vX st R) : l.a ∉ d.F ∧ l.p ∉ d.F ∧ l.g ∉ d.F ∧ l.q0 ∉ d.F ∧ d.q ∉ d.F :=
  ⟨fun h => (A.far _ h).1 rfl, fun h => (A.far _ h).2.1 rfl, fun h => (A.far _ h).2.2.1 rfl, fun h => (A.far _ h).2.2.2.1 rfl, fun h => (A.far _ h).2.2.2.2 rfl⟩
/-- The supply is turned. -/
theorem Lone.turned (A : Lone W w l xs d vS vX st R) (T : Turned w w' d.F fun F' => PSu w' d.b (suRow l.p d.q l.c.ba d.qs d.ql) d.qs d.ql F' l.m st' R') : ∃ F', Lone W w' l xs (d.re F') vS vX st' R' := by
  obtain ⟨F', S, N, E⟩ := T
  obtain ⟨i1, i2, i3, i4, i5⟩ := A.ins
  obtain ⟨n1, n2⟩ := A.next N
  obtain ⟨s, h, E0, E1⟩ := A.sm
  exact ⟨F', E.whole A.obj i1, ⟨s, h, E0.else E i2 i3 i4, E1.else E i2 i3 i5⟩, S, n1, n2, A.nw, Else.up_new A.up E (fun x hx => A.nF x hx)⟩
/-- A cell of the memory is laid. -/
theorem Lone.lay (A : Lone W w l xs d vS vX st R) {s : St} (hs : s.xs = xs) (m : Mem w' l.p l.g (s.lay i y)) (E : Else [l.p, l.g] w w') (h0 : 0 ≤ y) (h1 : y < 18446744073709551616) (ok : s.Ok) : Lone W w' l (xs.set i.toNat y) d vS vX st R := by
  obtain ⟨s1, h, E0, E1⟩ := A.sm
  have ok' : (s.lay i y).Ok := ok.lay i h0 h1
  have hl : (s.lay i y).xs.length = s1.xs.length := by rw [lay_len, hs, h]
  have ha : l.a ∉ [l.p, l.g] := by simp; exact ⟨A.obj.ne_type E0.mem.top (by decide), A.obj.ne_type E0.mem.row (by decide)⟩
  refine ⟨E.whole A.obj ha, ⟨s.lay i y, by unfold St.lay; dsimp only; rw [hs], E0.went m E (by simp [E0.np, E0.ng]) ok' hl, E1.went m E (by simp [E1.np, E1.ng]) ok' hl⟩, A.su.else E (fun x hx => by have := A.far x hx; simp [this.2.1, this.2.2.1]), A.far, A.nF, A.nw, Else.up_new A.up E (fun x hx => by simp at hx; rcases hx with h | h; rw [h]; exact A.nw.1; rw [h]; exact A.nw.2)⟩
/-- A Take is made. -/
theorem LoneT.made (A : Lone W w l xs d vS vX st R) (M : UTkMade w w' bt d.b l.p d.q l.c.ba d.qs d.ql l.n d.F l.m st' R' mc ch sn) : ∃ F' O, LoneT W w' l xs (d.re F') vS vX st' R' bt O mc ch sn := by
  obtain ⟨O, G, nO, F', ⟨S, dis⟩, N, E⟩ := M
  obtain ⟨F2, L⟩ : ∃ F2, F2 = F' ∧ Lone W w' l xs (d.re F2) vS vX st' R' := by
    obtain ⟨i1, i2, i3, i4, i5⟩ := A.ins
    obtain ⟨n1, n2⟩ := A.next N
    obtain ⟨s, h, E0, E1⟩ := A.sm
    exact ⟨F', rfl, E.whole A.obj i1, ⟨s, h, E0.else E i2 i3 i4, E1.else E i2 i3 i5⟩, S, n1, n2, A.nw, Else.up_new A.up E (fun x hx => A.nF x hx)⟩
  obtain ⟨rfl, L⟩ := L
  obtain ⟨l1, l2, l3, l4, l5⟩ := A.lts
  have := A.up.size
  have e : (d.re F2).q = d.q := rfl
  exact ⟨F2, O, L, G, dis, fun x hx => by have := nO x hx; omega, fun x hx => by have := nO x hx; omega⟩
theorem LoneT.in_ (A : LoneT W w l xs d vS vX st R bt O mc ch sn) : ∃ s : St, s.xs = xs ∧ UTkIn w bt d.b l.p l.g d.q l.lk l.n s l.c.ba d.qs d.ql d.F O l.m st R mc ch sn ∧ Env w l.p l.g l.q0 0 l.lk l.n s := by
  obtain ⟨s, h, E0, E1⟩ := A.lone.sm
  refine ⟨s, h, ⟨A.lone.su, A.tk, E1, A.dis, fun x hx => ?_⟩, E0⟩
  rcases hx with hx | hx
  · have := A.lone.far x hx; exact ⟨this.2.1, this.2.2.1, this.2.2.2.2⟩
  · have := A.far x hx; exact ⟨this.2.1, this.2.2.1, this.2.2.2.2⟩
/-- Behind an access. -/
theorem LoneT.out (A : LoneT W w l xs d vS vX st R bt O mc ch sn) (hlen : xs'.length = xs.length) {c : Int} (U : UTkOut w w' bt d.b l.p l.g d.q l.lk l.n c xs' l.c.ba d.qs d.ql d.F O l.m st' R' mc' ch' sn') : ∃ F' O', LoneT W w' l xs' (d.re F') vS vX st' R' bt O' mc' ch' sn' := by
  obtain ⟨F', O', s', hc, hx, J, NF, NO, E⟩ := U
  obtain ⟨s, hs, I, E0⟩ := A.in_
  obtain ⟨l1, l2, l3, l4, l5⟩ := A.lone.lts
  obtain ⟨i1, i2, i3, i4, i5⟩ := A.lone.ins
  obtain ⟨n1, n2⟩ := A.lone.next NF
  have hu := A.lone.up.size
  have ha : l.a ∉ l.p :: l.g :: (d.F ++ O) := by
    simp
    exact ⟨A.lone.obj.ne_type E0.mem.top (by decide), A.lone.obj.ne_type E0.mem.row (by decide), i1, fun h => (A.far _ h).1 rfl⟩
  have hq0 : l.q0 ∉ l.p :: l.g :: (d.F ++ O) := by
    simp
    exact ⟨E0.np, E0.ng, i4, fun h => (A.far _ h).2.2.2.1 rfl⟩
  have E0' := E0.went J.env.mem E hq0 J.env.ok (by rw [hx, hs, hlen])
  obtain ⟨f1, f2, f3⟩ := I.env.lts
  refine ⟨F', O', ⟨E.whole A.lone.obj ha, ⟨s', hx, E0', J.env⟩, J.su, n1, n2, A.lone.nw, Else.up_new A.lone.up E (fun x h => ?_)⟩, J.tk, J.dis, fun x h => ?_, fun x h => ?_⟩
  · simp at h
    rcases h with h | h | h | h
    · rw [h]; exact A.lone.nw.1
    · rw [h]; exact A.lone.nw.2
    · exact A.lone.nF x h
    · exact A.nO x h
  · rcases NO x h with h2 | h2
    · exact A.far x h2
    · have e : (d.re F').q = d.q := rfl
      rw [e]
      omega
  · rcases NO x h with h2 | h2
    · exact A.nO x h2
    · omega
end
end Go.Proofs.Ytkopplnjomkleaa

/-
  One alone over a stack, as plain data: a Pop of as many as there are (at most batch) in so many accesses, a Push in so many. No program is named here.
-/
namespace Go.Proofs.Ytkopplnjomkleaa
open Go.RowKit
open W64
set_option maxRecDepth 100000
def Po.one (n ln : Nat) (s : List Int × Po) : List Int × Po := if s.2.fin = true then s else (s.2.xs 0 s.1, s.2.go n 0 ln s.1)
def Po.many (n ln : Nat) (s : List Int × Po) : Nat → List Int × Po
  | 0 => s
  | k + 1 => Po.one n ln (Po.many n ln s k)
def Pu.one (n ln : Nat) (s : List Int × Pu) : List Int × Pu := if s.2.fin = true then s else (s.2.xs n 0 ln s.1, s.2.go 0 s.1)
def Pu.many (n ln : Nat) (s : List Int × Pu) : Nat → List Int × Pu
  | 0 => s
  | k + 1 => Pu.one n ln (Pu.many n ln s k)
section
variable {n ln batch j : Nat} {xs : List Int} {S : List Nat}
/-- What the cells tell: the stack is S. -/
structure Tells (n ln : Nat) (xs : List Int) (S : List Nat) : Prop where
  lt : ∀ x ∈ S, x < n
  chain : Stk.Chain (lkX ln xs) S
  head : xs.getD 0 0 % 4294967296 = Stk.linkOf S
theorem Tells.of_gi {t : Nat} {m : Nat → Stk.Mach} {has : Nat → List Nat} (G : GX n 0 ln xs t S m has) : Tells n ln xs S := ⟨fun _ hx => G.mem_lt hx, G.chain, G.mod⟩
theorem Tells.top (T : Tells n ln xs S) : topN n (xs.getD 0 0) = Stk.linkOf S - 1 := by
  have := Stk.linkOf_le T.lt
  have := Stk.linkOf_nonneg S
  have := T.head
  unfold topN; rw [if_neg (by omega)]; omega
theorem Tells.below (T : Tells n ln xs S) (h : j < S.length) : belowN n (xs.getD (ln + S.getD j 0) 0) = Stk.linkOf (S.drop (j + 1)) - 1 := by
  have h1 : xs.getD (ln + S.getD j 0) 0 = Stk.linkOf (S.drop (j + 1)) := Stk.Chain.get (lk := lkX ln xs) T.chain h
  have h2 := Stk.linkOf_le (n := n) (S := S.drop (j + 1)) (fun x hx => T.lt x (List.mem_of_mem_drop hx))
  rw [h1]; unfold belowN; rw [if_neg (by omega)]
theorem one_run {P : Po} (h : P.fin = false) : Po.one n ln (xs, P) = (P.xs 0 xs, P.go n 0 ln xs) := by unfold Po.one; rw [if_neg (by simp [h])]
theorem xs_same {P : Po} (h : P.i ≠ 2) : P.xs 0 xs = xs := by unfold Po.xs; rw [if_neg (fun e => h e.1)]
theorem go0_none {b : Nat} {d o : Int} {l : List Nat} {f : Bool} (h : topN n (xs.getD 0 0) = -1) : Po.go n 0 ln xs ⟨b, 0, d, o, l, f⟩ = ⟨b, 0, d, xs.getD 0 0, [], true⟩ := by
  unfold Po.go; dsimp only; rw [if_pos rfl, if_pos h]
theorem go0_some {b x : Nat} {d o : Int} {l : List Nat} {f : Bool} (h : topN n (xs.getD 0 0) = (x : Int)) : Po.go n 0 ln xs ⟨b, 0, d, o, l, f⟩ = ⟨b, 1, d, xs.getD 0 0, [x], false⟩ := by
  unfold Po.go; dsimp only; rw [if_pos rfl, if_neg (by rw [h]; omega), h, Int.toNat_natCast]
theorem go1_more {b x : Nat} {d o : Int} {l : List Nat} {f : Bool} (h : belowN n (xs.getD (ln + Po.last ⟨b, 1, d, o, l, f⟩) 0) = (x : Int)) (hm : l.length ≠ b) : Po.go n 0 ln xs ⟨b, 1, d, o, l, f⟩ = ⟨b, 1, x, o, l ++ [x], false⟩ := by
  unfold Po.go; dsimp only; rw [if_neg (by decide), if_pos rfl, h, if_neg (by rintro (e | e); omega; exact hm e), Int.toNat_natCast]
theorem go1_stop {b : Nat} {d o y : Int} {l : List Nat} {f : Bool} (h : belowN n (xs.getD (ln + Po.last ⟨b, 1, d, o, l, f⟩) 0) = y) (hm : y = -1 ∨ l.length = b) : Po.go n 0 ln xs ⟨b, 1, d, o, l, f⟩ = ⟨b, 2, y, o, l, false⟩ := by
  unfold Po.go; dsimp only; rw [if_neg (by decide), if_pos rfl, h, if_pos hm]
theorem go2_yes {b : Nat} {d : Int} {l : List Nat} {f : Bool} : Po.go n 0 ln xs ⟨b, 2, d, xs.getD 0 0, l, f⟩ = ⟨b, 0, d, xs.getD 0 0, l, true⟩ ∧ Po.xs 0 xs ⟨b, 2, d, xs.getD 0 0, l, f⟩ = xs.set 0 (nextW (xs.getD 0 0) d) := by
  constructor
  · unfold Po.go; dsimp only; rw [if_neg (by decide), if_neg (by decide), decide_eq_true rfl]
  · unfold Po.xs; rw [if_pos ⟨rfl, rfl⟩]
theorem pop_empty (T : Tells n ln xs []) (batch : Nat) : Po.many n ln (xs, ⟨batch, 0, 0, 0, [], false⟩) 1 = (xs, ⟨batch, 0, 0, xs.getD 0 0, [], true⟩) := by
  show Po.one n ln (xs, _) = _
  rw [one_run rfl, xs_same (by simp), go0_none (by rw [T.top]; rfl)]
/-- What a Pop has seen behind j accesses, while it loads. -/
theorem pop_loads (T : Tells n ln xs S) (hb : 1 ≤ batch) : ∀ j, 1 ≤ j → j ≤ S.length → j ≤ batch → ∃ d, Po.many n ln (xs, ⟨batch, 0, 0, 0, [], false⟩) j = (xs, ⟨batch, 1, d, xs.getD 0 0, S.take j, false⟩)
  | 0, h, _, _ => by omega
  | 1, _, h1, _ => by
    have ht := T.top
    obtain ⟨x, r, rfl⟩ : ∃ x r, S = x :: r := by cases S with
      | nil => simp at h1
      | cons x r => exact ⟨x, r, rfl⟩
    have h2 : topN n (xs.getD 0 0) = (x : Int) := by rw [ht]; simp [Stk.linkOf]
    refine ⟨0, ?_⟩
    show Po.one n ln (xs, _) = _
    rw [one_run rfl, xs_same (by simp), go0_some h2]
    rfl
  | j + 2, _, h1, h2 => by
    obtain ⟨d, e⟩ := pop_loads T hb (j + 1) (by omega) (by omega) (by omega)
    have hl : Po.last ⟨batch, 1, d, xs.getD 0 0, S.take (j + 1), false⟩ = S.getD j 0 := by
      unfold Po.last
      dsimp only
      rw [List.length_take, show min (j + 1) S.length - 1 = j by omega]
      simp only [List.getD, List.getElem?_take]
      rw [if_pos (by omega)]
    have hB := T.below (j := j) (by omega)
    have hd := Stk.linkOf_drop (S := S) (j := j + 1) (by omega)
    have hB2 : belowN n (xs.getD (ln + S.getD j 0) 0) = (S.getD (j + 1) 0 : Nat) := by rw [hB, hd]; omega
    refine ⟨((S.getD (j + 1) 0 : Nat) : Int), ?_⟩
    show Po.one n ln (Po.many n ln _ (j + 1)) = _
    rw [e, one_run rfl, xs_same (by simp), go1_more (by rw [hl]; exact hB2) (by rw [List.length_take]; omega), Stk.take_more (by omega)]
/-- A Pop alone: it has the first ones, and the head is turned. -/
theorem pop_alone (T : Tells n ln xs S) (hb : 1 ≤ batch) (h0 : S ≠ []) : Po.many n ln (xs, ⟨batch, 0, 0, 0, [], false⟩) ((S.take batch).length + 2) =
    (xs.set 0 (nextW (xs.getD 0 0) (Stk.linkOf (S.drop batch) - 1)), ⟨batch, 0, Stk.linkOf (S.drop batch) - 1, xs.getD 0 0, S.take batch, true⟩) := by
  have lp := List.length_pos_iff.2 h0
  obtain ⟨k, hk⟩ : ∃ k, (S.take batch).length = k := ⟨_, rfl⟩
  have hk2 : k = min batch S.length := by rw [← hk, List.length_take]
  obtain ⟨d, e⟩ := pop_loads T hb k (by omega) (by omega) (by omega)
  have hT : S.take k = S.take batch := by
    rcases Nat.le_total batch S.length with h | h
    · rw [hk2, Nat.min_eq_left h]
    · rw [hk2, Nat.min_eq_right h, List.take_of_length_le (Nat.le_refl _), List.take_of_length_le h]
  have hD : S.drop k = S.drop batch := by
    rcases Nat.le_total batch S.length with h | h
    · rw [hk2, Nat.min_eq_left h]
    · rw [hk2, Nat.min_eq_right h, List.drop_of_length_le (Nat.le_refl _), List.drop_of_length_le h]
  rw [hT] at e
  have hl : Po.last ⟨batch, 1, d, xs.getD 0 0, S.take batch, false⟩ = S.getD (k - 1) 0 := by
    unfold Po.last
    dsimp only
    rw [hk, ← hT]
    simp only [List.getD, List.getElem?_take]
    rw [if_pos (by omega)]
  have hB := T.below (j := k - 1) (by omega)
  rw [show k - 1 + 1 = k by omega, hD] at hB
  have hstop : Stk.linkOf (S.drop batch) - 1 = -1 ∨ (S.take batch).length = batch := by
    rcases Nat.le_total batch S.length with h | h
    · exact .inr (by rw [hk]; omega)
    · exact .inl (by rw [List.drop_of_length_le h]; rfl)
  have e1 : Po.many n ln (xs, ⟨batch, 0, 0, 0, [], false⟩) (k + 1) = (xs, ⟨batch, 2, Stk.linkOf (S.drop batch) - 1, xs.getD 0 0, S.take batch, false⟩) := by
    show Po.one n ln (Po.many n ln _ k) = _
    rw [e, one_run rfl, xs_same (by simp), go1_stop (by rw [hl]; exact hB) hstop]
  rw [hk]
  show Po.one n ln (Po.many n ln _ (k + 1)) = _
  rw [e1, one_run rfl, (go2_yes (n := n) (ln := ln)).1, (go2_yes (n := n) (ln := ln)).2]
theorem many_fin {s : List Int × Po} {j : Nat} (h : (Po.many n ln s j).2.fin = true) : ∀ k, Po.many n ln s (j + k) = Po.many n ln s j
  | 0 => rfl
  | k + 1 => by
    show Po.one n ln (Po.many n ln s (j + k)) = _
    rw [many_fin h k]
    unfold Po.one
    rw [if_pos h]
end
end Go.Proofs.Ytkopplnjomkleaa
