/-
  Texts beneath RootsPlay, part 30: RtGoes2, RtGoes3, RtGoes4.
-/
import Derived.Test.YtalglhgngedjoaaGreatPart29
/-
  RootsPlay: one of them goes on (hands.goes): an End.
-/
namespace Go.Proofs.YtalglhgngedjoaaGreat
open Go.RowKit
open W64
set_option maxRecDepth 100000
section
variable {W w w' : World} {l : Lie} {n bH D T u : Nat} {m : Nat → PM} {V : Nat → Value} {o L : Nat → List Nat} {s : St}
theorem Play.edTurn_at (X : Play W w l n bH D T m V o L s) (hu : u < 4) {K : Ed} (em : m u = .ed K) (hf : K.fin = false) (hk : K.slot < n) (hs : K.steps ≤ T) (hT : T ≤ 1000) {b rb : Nat} (h0 : V (4 + u) = ptr b) (h4 : V (20 + u) = ptr rb) :
    B2 38 39 b rb w bH V (EdGot (TurnP W l n bH D T u m V o L (.ed (K.go 4 s.xs))) b rb l (K.go 4 s.xs)) := by
  obtain ⟨b', rb', e0, e1, e2, e3, e4, B⟩ := X.edTurn hu em hf hk hs hT
  have hb : b' = b := by have := e1.symm.trans h0; simpa [ptr] using this
  have hr : rb' = rb := by have := e4.symm.trans h4; simpa [ptr] using this
  subst hb hr
  exact B
set_option maxHeartbeats 4000000 in
theorem goes_ed (X : Play W w l n bH D T m V o L s) (Y : ∀ u, u < 4 → (m u).live n T) (hT : T ≤ 1000) (hu : u < 4) {K : Ed} (em : m u = .ed K) (z : Int) :
    Calls Tryz.prog 9 #[.pointer (some ⟨bH, 0, none⟩), .pointer (some ⟨l.q, 0, none⟩), .pointer (some ⟨l.k, 0, none⟩), .int .i64 (u : Int), .int .i64 z] w fun e w' => e = .returned (.bool true) ∧ PlayOut W l n bH D (T + 3) w' := by
  have hlv := Y u hu
  rw [em] at hlv
  obtain ⟨hf, hk, hs⟩ : K.fin = false ∧ K.slot < n ∧ K.steps ≤ T := hlv
  obtain ⟨b, rb, h0, h1, h2, h3, h4, _⟩ := X.edTurn hu em hf hk hs hT
  have HT := Lib.hid (fun w1 (U : Up w w1) => (X.ups U).edTurn_at hu em hf hk hs hT h1 h4)
  have hst : (K.go 4 s.xs).steps ≤ T + 1 := by rw [Ed.go_steps]; omega
  have hsn : (K.go 4 s.xs).slot < n := by rw [Ed.go_slot]; exact hk
  obtain ⟨K', hK⟩ : ∃ K', K.go 4 s.xs = K' := ⟨_, rfl⟩
  rw [hK] at HT hst hsn
  clear hK
  obtain ⟨pt, hpt⟩ : ∃ y, K'.point = y := ⟨_, rfl⟩
  obtain ⟨sl, hsl⟩ : ∃ y, K'.slot = y := ⟨_, rfl⟩
  obtain ⟨ck, hck⟩ : ∃ y, K'.chunk = y := ⟨_, rfl⟩
  obtain ⟨cd, hcd⟩ : ∃ y, K'.code = y := ⟨_, rfl⟩
  have HPT := Lib.hid hpt
  have HSL := Lib.hid hsl
  have HCK := Lib.hid hck
  have HCD := Lib.hid hcd
  have HST := Lib.hid hst
  have HSN := Lib.hid hsn
  have HLL := Lib.hid (X.ll u hu)
  have HSLI := Lib.hid (X.sl u hu)
  clear hpt hsl hck hcd hst hsn
  have j0 : (0 : Int) ≤ (u : Int) := Int.natCast_nonneg _
  have j1 : (u : Int) < 4 := by omega
  have k0 := X.arr.cell (row36_get (V := V) (k := u) (by omega))
  rw [h0] at k0
  have k1 := X.arr.cell (row36_get (V := V) (k := 4 + u) (by omega))
  rw [h1] at k1
  have kr := X.arr.cell (row36_get (V := V) (k := 20 + u) (by omega))
  rw [h4] at kr
  have H0 := Lib.hid h0
  have H1 := Lib.hid h1
  have H2 := Lib.hid h2
  have H3 := Lib.hid h3
  have HY := Lib.hid Y
  clear X Y h0 h1 h2 h3 h4 em
  cases hfi : K'.fin
  · have HFI := Lib.hid hfi
    clear hfi
    go_enter Tryz.func9, Tryz.ntmps9
    go_upto_region 12 with fail
    go_quiet (fail)
    go_upto_region 13 with fail
    obtain ⟨G, C1, C2⟩ := HT.out _ ((Up.drewN w nq).trans (up_drew _))
    have HC1 := Lib.hid C1
    have HC2 := Lib.hid C2
    clear C1 C2 k0 k1 kr
    refine wp_region_two (v0 := .pointer (some ⟨b, 0, none⟩)) (v2 := .pointer (some ⟨rb, 0, none⟩)) (v1 := .bool true) (fun w1 G1 => (HC2.out w1 G1).2) (by kernel_rfl) (by kernel_rfl) (fun _ _ _ h => h) (fun _ _ _ h => h) (Or.inl ⟨by rfl, fun _ => by rfl⟩) (Or.inl ⟨by rfl, fun _ => by rfl⟩) (fun K hK => by go_simp; go_at_call 38; refine HC1.out.mono ?_; rintro e w1 ⟨rfl, G1⟩; exact hK w1 G1) (fun w1 G1 K hK => by go_simp; go_at_call 39; refine (HC2.out w1 G1).2.mono ?_; rintro e w2 ⟨rfl, Q2⟩; exact hK w2 Q2) ?_
    intro w2 Q2
    have HQ2 := Lib.hid Q2
    obtain ⟨r1, r5, r6, r8, r9⟩ := Q2.cells (Up.refl _) HSL.out HPT.out HCK.out HCD.out HFI.out
    clear Q2
    simp only [Act.put, List.setIfInBounds_toArray, List.set_cons_zero, List.set_cons_succ]
    repeat (go_big_quiet_step ((first
      | (go_at_call 40; (with_reducible exact quiet_eq (HQ2.out.done (Up.drewN _ _) HFI.out)))
      | (go_at_call 41; (with_reducible exact quiet_eq (HQ2.out.point (Up.drewN _ _) HPT.out)))
      | (go_at_call 42; (with_reducible exact quiet_eq (HQ2.out.chunk (Up.drewN _ _) HCK.out))))))
    refine wpQuiet_nil ?_
    rintro _ ⟨nq2, rfl⟩
    go_wp2_with fail
    go_ret
    exact ⟨rfl, HQ2.out.play.out HY.out (Up.drewN _ _) ⟨HFI.out, HSN.out, by have := HST.out; omega⟩⟩
  · have HFI := Lib.hid hfi
    clear hfi
    by_cases hc0 : cd = 0
    · subst hc0
      go_enter Tryz.func9, Tryz.ntmps9
      go_upto_region 12 with fail
      go_quiet (fail)
      go_upto_region 13 with fail
      obtain ⟨G, C1, C2⟩ := HT.out _ ((Up.drewN w nq).trans (up_drew _))
      have HC1 := Lib.hid C1
      have HC2 := Lib.hid C2
      clear C1 C2 k0 k1 kr
      refine wp_region_two (v0 := .pointer (some ⟨b, 0, none⟩)) (v2 := .pointer (some ⟨rb, 0, none⟩)) (v1 := .bool true) (fun w1 G1 => (HC2.out w1 G1).2) (by kernel_rfl) (by kernel_rfl) (fun _ _ _ h => h) (fun _ _ _ h => h) (Or.inl ⟨by rfl, fun _ => by rfl⟩) (Or.inl ⟨by rfl, fun _ => by rfl⟩) (fun K hK => by go_simp; go_at_call 38; refine HC1.out.mono ?_; rintro e w1 ⟨rfl, G1⟩; exact hK w1 G1) (fun w1 G1 K hK => by go_simp; go_at_call 39; refine (HC2.out w1 G1).2.mono ?_; rintro e w2 ⟨rfl, Q2⟩; exact hK w2 Q2) ?_
      intro w2 Q2
      have HQ2 := Lib.hid Q2
      obtain ⟨r1, r5, r6, r8, r9⟩ := Q2.cells (Up.refl _) HSL.out HPT.out HCK.out HCD.out HFI.out
      clear Q2
      simp only [Act.put, List.setIfInBounds_toArray, List.set_cons_zero, List.set_cons_succ]
      repeat (go_big_quiet_step ((first
        | (go_at_call 40; (with_reducible exact quiet_eq (HQ2.out.done (Up.drewN _ _) HFI.out)))
        | (go_at_call 41; (with_reducible exact quiet_eq (HQ2.out.point (Up.drewN _ _) HPT.out)))
        | (go_at_call 42; (with_reducible exact quiet_eq (HQ2.out.chunk (Up.drewN _ _) HCK.out))))))
      refine wpQuiet_nil ?_
      rintro _ ⟨nq2, rfl⟩
      have HUD := Lib.hid (Up.drewN w2 nq2)
      generalize w2.drewN nq2 = w3 at *
      obtain ⟨q1, q5, q6, q8, q9⟩ := HQ2.out.cells HUD.out HSL.out HPT.out HCK.out HCD.out HFI.out
      clear r1 r5 r6 r8 r9
      go_upto_region 16 with fail
      go_quiet (first
        | (go_at_call 43; (with_reducible exact quiet_eq (HQ2.out.code (HUD.out.trans (Up.drewN _ _)) HCD.out))))
      go_upto_region 19 with fail
      have HU4 := Lib.hid (HUD.out.trans (Up.drewN w3 nq))
      generalize w3.drewN nq = w4 at *
      obtain ⟨A0, c0, hv0⟩ := HSLI.out.slice
      have HV0 := Lib.hid hv0
      obtain ⟨k32, f32⟩ := HQ2.out.play.tab HU4.out (k := 32 + u) (by omega) hv0
      clear hv0
      clear q1 q5 q6 q8 q9
      obtain ⟨q1, q5, q6, q8, q9⟩ := HQ2.out.cells HU4.out HSL.out HPT.out HCK.out HCD.out HFI.out
      have HJ := Lib.hid (HQ2.out.play.slice hu HU4.out HV0.out)
      have hsn : sl < n := by rw [← HSL.out]; exact HSN.out
      have HSN2 := Lib.hid hsn
      have HU6 := Lib.hid ((HU4.out.trans (up_drew w4)).trans (Up.alloc _ (.cells #[.int .i64 (sl : Int)] 3)))
      have k32a := (Up.alloc w4 (.cells #[.int .i64 (sl : Int)] 3)).kept k32
      clear hsn
      go_region_law (refine step_app (by rfl) _ _ (by rfl) (by rfl) (by rfl) ((HJ.out.up (up_drew w4)).up (Up.alloc _ _)) (rd_one _ (sl : Int)) (by rw [I_len]; have := HLL.out; simp; omega) ?_; intro v7 w7 J7 G7 A7; obtain ⟨A7v, N7, c7, rfl⟩ := shapeI J7; rw [← HV0.out] at G7 A7; have QA := HQ2.out.play.appOut HY.out hu HU6.out J7 G7 A7 HSN2.out H0.out H1.out H2.out H3.out; have HQA := Lib.hid QA.2; obtain ⟨y1, g1, y2, g2⟩ := QA.1; clear QA J7 G7 A7)
      all_goals
        clear k32 k32a f32 q1 q5 q6 q8 q9
        go_wp2_with fail
        go_ret
        exact ⟨rfl, HQA.out⟩
    · have hcb : (cd == 0) = false := by simp [hc0]
      go_enter Tryz.func9, Tryz.ntmps9
      go_upto_region 12 with fail
      go_quiet (fail)
      go_upto_region 13 with fail
      obtain ⟨G, C1, C2⟩ := HT.out _ ((Up.drewN w nq).trans (up_drew _))
      have HC1 := Lib.hid C1
      have HC2 := Lib.hid C2
      clear C1 C2 k0 k1 kr
      refine wp_region_two (v0 := .pointer (some ⟨b, 0, none⟩)) (v2 := .pointer (some ⟨rb, 0, none⟩)) (v1 := .bool true) (fun w1 G1 => (HC2.out w1 G1).2) (by kernel_rfl) (by kernel_rfl) (fun _ _ _ h => h) (fun _ _ _ h => h) (Or.inl ⟨by rfl, fun _ => by rfl⟩) (Or.inl ⟨by rfl, fun _ => by rfl⟩) (fun K hK => by go_simp; go_at_call 38; refine HC1.out.mono ?_; rintro e w1 ⟨rfl, G1⟩; exact hK w1 G1) (fun w1 G1 K hK => by go_simp; go_at_call 39; refine (HC2.out w1 G1).2.mono ?_; rintro e w2 ⟨rfl, Q2⟩; exact hK w2 Q2) ?_
      intro w2 Q2
      have HQ2 := Lib.hid Q2
      obtain ⟨r1, r5, r6, r8, r9⟩ := Q2.cells (Up.refl _) HSL.out HPT.out HCK.out HCD.out HFI.out
      clear Q2
      simp only [Act.put, List.setIfInBounds_toArray, List.set_cons_zero, List.set_cons_succ]
      repeat (go_big_quiet_step ((first
        | (go_at_call 40; (with_reducible exact quiet_eq (HQ2.out.done (Up.drewN _ _) HFI.out)))
        | (go_at_call 41; (with_reducible exact quiet_eq (HQ2.out.point (Up.drewN _ _) HPT.out)))
        | (go_at_call 42; (with_reducible exact quiet_eq (HQ2.out.chunk (Up.drewN _ _) HCK.out))))))
      refine wpQuiet_nil ?_
      rintro _ ⟨nq2, rfl⟩
      have HUD := Lib.hid (Up.drewN w2 nq2)
      generalize w2.drewN nq2 = w3 at *
      obtain ⟨q1, q5, q6, q8, q9⟩ := HQ2.out.cells HUD.out HSL.out HPT.out HCK.out HCD.out HFI.out
      clear r1 r5 r6 r8 r9
      go_upto_region 16 with fail
      go_quiet (first
        | (go_at_call 43; (with_reducible exact quiet_eq (HQ2.out.code (HUD.out.trans (Up.drewN _ _)) HCD.out))))
      obtain ⟨kp, fp⟩ := HQ2.out.play.tab HUD.out (k := 4 + u) (by omega) H1.out
      go_wp2_with fail
      go_ret
      exact ⟨rfl, HQ2.out.play.strike HY.out hu (HUD.out.trans (Up.drewN _ _)) (.inr (.inl rfl)) (.inr H0.out) (.inl rfl) (.inr H2.out) (.inr H3.out)⟩
end
end Go.Proofs.YtalglhgngedjoaaGreat

/-
  RootsPlay: one of them goes on (hands.goes): a Look.
-/
namespace Go.Proofs.YtalglhgngedjoaaGreat
open Go.RowKit
open W64
set_option maxRecDepth 100000
section
variable {W w w' : World} {l : Lie} {n bH D T u : Nat} {m : Nat → PM} {V : Nat → Value} {o L : Nat → List Nat} {s : St}
theorem Play.lkTurn_at (X : Play W w l n bH D T m V o L s) (hu : u < 4) {K : Lk} (em : m u = .lk K) (hf : K.fin = false) (hk : K.slot < n) {b rb : Nat} (h0 : V (8 + u) = ptr b) (h4 : V (24 + u) = ptr rb) :
    B2 18 44 b rb w bH V (LkGot (TurnP W l n bH D T u m V o L (.lk (K.go 4 s.xs))) b rb l (K.go 4 s.xs)) := by
  obtain ⟨b', rb', e0, e1, e2, e3, e4, B⟩ := X.lkTurn hu em hf hk
  have hb : b' = b := by have := e2.symm.trans h0; simpa [ptr] using this
  have hr : rb' = rb := by have := e4.symm.trans h4; simpa [ptr] using this
  subst hb hr
  exact B
set_option maxHeartbeats 4000000 in
theorem goes_lk (X : Play W w l n bH D T m V o L s) (Y : ∀ u, u < 4 → (m u).live n T) (_hT : T ≤ 1000) (hu : u < 4) {K : Lk} (em : m u = .lk K) (z : Int) :
    Calls Tryz.prog 9 #[.pointer (some ⟨bH, 0, none⟩), .pointer (some ⟨l.q, 0, none⟩), .pointer (some ⟨l.k, 0, none⟩), .int .i64 (u : Int), .int .i64 z] w fun e w' => e = .returned (.bool true) ∧ PlayOut W l n bH D (T + 3) w' := by
  have hlv := Y u hu
  rw [em] at hlv
  obtain ⟨hf, hk⟩ : K.fin = false ∧ K.slot < n := hlv
  obtain ⟨b, rb, h0, h1, h2, h3, h4, _⟩ := X.lkTurn hu em hf hk
  have HT := Lib.hid (fun w1 (U : Up w w1) => (X.ups U).lkTurn_at hu em hf hk h2 h4)
  have hfi : (K.go 4 s.xs).fin = true := Lk.go_fin _ _ _
  obtain ⟨K', hK⟩ : ∃ K', K.go 4 s.xs = K' := ⟨_, rfl⟩
  rw [hK] at HT hfi
  clear hK
  obtain ⟨off, hoff⟩ : ∃ y, K'.off = y := ⟨_, rfl⟩
  obtain ⟨cd, hcd⟩ : ∃ y, K'.code = y := ⟨_, rfl⟩
  have HOF := Lib.hid hoff
  have HCD := Lib.hid hcd
  have HFI := Lib.hid hfi
  clear hoff hcd hfi
  have j0 : (0 : Int) ≤ (u : Int) := Int.natCast_nonneg _
  have j1 : (u : Int) < 4 := by omega
  have k0 := X.arr.cell (row36_get (V := V) (k := u) (by omega))
  rw [h0] at k0
  have k1 := X.arr.cell (row36_get (V := V) (k := 4 + u) (by omega))
  rw [h1] at k1
  have k2 := X.arr.cell (row36_get (V := V) (k := 8 + u) (by omega))
  rw [h2] at k2
  have kr := X.arr.cell (row36_get (V := V) (k := 24 + u) (by omega))
  rw [h4] at kr
  have H0 := Lib.hid h0
  have H1 := Lib.hid h1
  have H2 := Lib.hid h2
  have H3 := Lib.hid h3
  have HY := Lib.hid Y
  clear X Y h0 h1 h2 h3 h4 em
  go_enter Tryz.func9, Tryz.ntmps9
  go_upto_region 22 with fail
  go_quiet (fail)
  go_upto_region 23 with fail
  obtain ⟨G, C1, C2⟩ := HT.out _ ((Up.drewN w nq).trans (up_drew _))
  have HC1 := Lib.hid C1
  have HC2 := Lib.hid C2
  clear C1 C2 k0 k1 k2 kr
  refine wp_region_two (v0 := .pointer (some ⟨b, 0, none⟩)) (v2 := .pointer (some ⟨rb, 0, none⟩)) (v1 := .bool true) (fun w1 G1 => (HC2.out w1 G1).2) (by kernel_rfl) (by kernel_rfl) (fun _ _ _ h => h) (fun _ _ _ h => h) (Or.inl ⟨by rfl, fun _ => by rfl⟩) (Or.inl ⟨by rfl, fun _ => by rfl⟩) (fun K hK => by go_simp; go_at_call 18; refine HC1.out.mono ?_; rintro e w1 ⟨rfl, G1⟩; exact hK w1 G1) (fun w1 G1 K hK => by go_simp; go_at_call 44; refine (HC2.out w1 G1).2.mono ?_; rintro e w2 ⟨rfl, Q2⟩; exact hK w2 Q2) ?_
  intro w2 Q2
  have HQ2 := Lib.hid Q2
  obtain ⟨r3, r4⟩ := Q2.cells (Up.refl _) HOF.out HCD.out
  obtain ⟨kp, fp⟩ := Q2.play.tab (Up.refl _) (k := 8 + u) (by omega) H2.out
  clear Q2
  simp only [Act.put, List.setIfInBounds_toArray, List.set_cons_zero, List.set_cons_succ]
  repeat (go_big_quiet_step ((first
    | (go_at_call 19; (with_reducible exact quiet_eq (HQ2.out.done (Up.drewN _ _) HFI.out)))
    | (go_at_call 20; (with_reducible exact quiet_eq (HQ2.out.code (Up.drewN _ _) HCD.out)))
    | (go_at_call 45; (with_reducible exact quiet_eq (HQ2.out.off (Up.drewN _ _) HOF.out))))))
  refine wpQuiet_nil ?_
  rintro _ ⟨nq2, rfl⟩
  go_wp2_with fail
  go_ret
  exact ⟨rfl, HQ2.out.play.strike HY.out hu (Up.drewN _ _) (.inr (.inr (.inl rfl))) (.inr H0.out) (.inr H1.out) (.inl rfl) (.inr H3.out)⟩
end
end Go.Proofs.YtalglhgngedjoaaGreat

/-
  RootsPlay: one of them goes on (hands.goes): a Push.
-/
namespace Go.Proofs.YtalglhgngedjoaaGreat
open Go.RowKit
open W64
set_option maxRecDepth 100000
section
variable {W w w' : World} {l : Lie} {n bH D T u : Nat} {m : Nat → PM} {V : Nat → Value} {o L : Nat → List Nat} {s : St}
theorem Play.puTurn_at (X : Play W w l n bH D T m V o L s) (hu : u < 4) {K : Pu} (em : m u = .pu K) (hf : K.fin = false) {b rb : Nat} (h0 : V (12 + u) = ptr b) (h4 : V (28 + u) = ptr rb) :
    B2 46 47 b rb w bH V (PuGot (TurnP W l n bH D T u m V o L (.pu (K.go 1 s.xs))) b rb l n (K.go 1 s.xs)) := by
  obtain ⟨b', rb', e0, e1, e2, e3, e4, B⟩ := X.puTurn hu em hf
  have hb : b' = b := by have := e3.symm.trans h0; simpa [ptr] using this
  have hr : rb' = rb := by have := e4.symm.trans h4; simpa [ptr] using this
  subst hb hr
  exact B
set_option maxHeartbeats 4000000 in
theorem goes_pu (X : Play W w l n bH D T m V o L s) (Y : ∀ u, u < 4 → (m u).live n T) (_hT : T ≤ 1000) (hu : u < 4) {K : Pu} (em : m u = .pu K) (z : Int) :
    Calls Tryz.prog 9 #[.pointer (some ⟨bH, 0, none⟩), .pointer (some ⟨l.q, 0, none⟩), .pointer (some ⟨l.k, 0, none⟩), .int .i64 (u : Int), .int .i64 z] w fun e w' => e = .returned (.bool true) ∧ PlayOut W l n bH D (T + 3) w' := by
  have hlv := Y u hu
  rw [em] at hlv
  have hf : K.fin = false := hlv
  clear hlv
  obtain ⟨b, rb, h0, h1, h2, h3, h4, _⟩ := X.puTurn hu em hf
  have HT := Lib.hid (fun w1 (U : Up w w1) => (X.ups U).puTurn_at hu em hf h3 h4)
  obtain ⟨K', hK⟩ : ∃ K', K.go 1 s.xs = K' := ⟨_, rfl⟩
  rw [hK] at HT
  clear hK
  have H4 := Lib.hid h4
  have j0 : (0 : Int) ≤ (u : Int) := Int.natCast_nonneg _
  have j1 : (u : Int) < 4 := by omega
  have k0 := X.arr.cell (row36_get (V := V) (k := u) (by omega))
  rw [h0] at k0
  have k1 := X.arr.cell (row36_get (V := V) (k := 4 + u) (by omega))
  rw [h1] at k1
  have k2 := X.arr.cell (row36_get (V := V) (k := 8 + u) (by omega))
  rw [h2] at k2
  have k3 := X.arr.cell (row36_get (V := V) (k := 12 + u) (by omega))
  rw [h3] at k3
  have kr := X.arr.cell (row36_get (V := V) (k := 28 + u) (by omega))
  rw [h4] at kr
  have H0 := Lib.hid h0
  have H1 := Lib.hid h1
  have H2 := Lib.hid h2
  have H3 := Lib.hid h3
  have HY := Lib.hid Y
  clear X Y h0 h1 h2 h3 h4 em
  cases hfi : K'.fin
  · have HFI := Lib.hid hfi
    clear hfi
    go_enter Tryz.func9, Tryz.ntmps9
    go_upto_region 27 with fail
    obtain ⟨G, C1, C2⟩ := HT.out _ (up_drew w)
    have HC1 := Lib.hid C1
    have HC2 := Lib.hid C2
    have hS0 : w.drew.cell? ⟨bH, 12 + u, none⟩ = some (.pointer (some ⟨b, 0, none⟩)) ∧ w.drew.cell? ⟨bH, 28 + u, none⟩ = some (.pointer (some ⟨rb, 0, none⟩)) := ⟨(up_drew w).kept k3, (up_drew w).kept kr⟩
    have HS0 := Lib.hid hS0
    have HS1 := Lib.hid (fun w1 G1 => And.intro (tab_cell (HC2.out w1 G1).1 (k := 12 + u) (by omega) H3.out) (tab_cell (HC2.out w1 G1).1 (k := 28 + u) (by omega) H4.out))
    clear C1 C2 k0 k1 k2 k3 kr hS0
    refine wp_region_held_drew (S := fun w' => w'.cell? ⟨bH, 12 + u, none⟩ = some (.pointer (some ⟨b, 0, none⟩)) ∧ w'.cell? ⟨bH, 28 + u, none⟩ = some (.pointer (some ⟨rb, 0, none⟩))) (by kernel_rfl) HS0.out (fun _ => ?_)
    change wpAnyH _ _ _ _ _ (33 + 1) _ _ _
    refine take_on (i := 0) (v := .pointer (some ⟨bH, 0, none⟩)) rfl (by kernel_rfl) (by kernel_rfl) (by kernel_rfl) (fun _ _ _ h => h) (Or.inl ⟨by rfl, fun w hS => by (obtain ⟨s1, s2⟩ := hS; go_simp)⟩) (by simp only [Act.put, List.setIfInBounds_toArray, List.set_cons_zero, List.set_cons_succ]; rfl) HS0.out ?_
    refine take_on (i := 1) (v := .int .i64 (u : Int)) rfl (by kernel_rfl) (by kernel_rfl) (by kernel_rfl) (fun _ _ _ h => h) (Or.inl ⟨by rfl, fun w hS => by (obtain ⟨s1, s2⟩ := hS; go_simp)⟩) (by simp only [Act.put, List.setIfInBounds_toArray, List.set_cons_zero, List.set_cons_succ]; rfl) HS0.out ?_
    refine take_on (i := 2) (v := .pointer (some ⟨bH, 0, none⟩)) rfl (by kernel_rfl) (by kernel_rfl) (by kernel_rfl) (fun _ _ _ h => h) (Or.inl ⟨by rfl, fun w hS => by (obtain ⟨s1, s2⟩ := hS; go_simp)⟩) (by simp only [Act.put, List.setIfInBounds_toArray, List.set_cons_zero, List.set_cons_succ]; rfl) HS0.out ?_
    refine take_on (i := 3) (v := .pointer (some ⟨bH, 12, none⟩)) rfl (by kernel_rfl) (by kernel_rfl) (by kernel_rfl) (fun _ _ _ h => h) (Or.inl ⟨by rfl, fun w hS => by (obtain ⟨s1, s2⟩ := hS; go_simp)⟩) (by simp only [Act.put, List.setIfInBounds_toArray, List.set_cons_zero, List.set_cons_succ]; rfl) HS0.out ?_
    refine take_on (i := 4) (v := .pointer (some ⟨bH, 12 + u, none⟩)) rfl (by kernel_rfl) (by kernel_rfl) (by kernel_rfl) (fun _ _ _ h => h) (Or.inl ⟨by rfl, fun w hS => by (obtain ⟨s1, s2⟩ := hS; go_simp)⟩) (by simp only [Act.put, List.setIfInBounds_toArray, List.set_cons_zero, List.set_cons_succ]; rfl) HS0.out ?_
    refine take_on (i := 5) (v := .pointer (some ⟨b, 0, none⟩)) rfl (by kernel_rfl) (by kernel_rfl) (by kernel_rfl) (fun _ _ _ h => h) (Or.inl ⟨by rfl, fun w hS => by (obtain ⟨s1, s2⟩ := hS; go_simp)⟩) (by simp only [Act.put, List.setIfInBounds_toArray, List.set_cons_zero, List.set_cons_succ]; rfl) HS0.out ?_
    refine take_on (i := 7) (v := .pointer (some ⟨bH, 0, none⟩)) rfl (by kernel_rfl) (by kernel_rfl) (by kernel_rfl) (fun _ _ _ h => h) (Or.inl ⟨by rfl, fun w hS => by (obtain ⟨s1, s2⟩ := hS; go_simp)⟩) (by simp only [Act.put, List.setIfInBounds_toArray, List.set_cons_zero, List.set_cons_succ]; rfl) HS0.out ?_
    refine take_on (i := 8) (v := .int .i64 (u : Int)) rfl (by kernel_rfl) (by kernel_rfl) (by kernel_rfl) (fun _ _ _ h => h) (Or.inl ⟨by rfl, fun w hS => by (obtain ⟨s1, s2⟩ := hS; go_simp)⟩) (by simp only [Act.put, List.setIfInBounds_toArray, List.set_cons_zero, List.set_cons_succ]; rfl) HS0.out ?_
    refine take_on (i := 9) (v := .pointer (some ⟨bH, 0, none⟩)) rfl (by kernel_rfl) (by kernel_rfl) (by kernel_rfl) (fun _ _ _ h => h) (Or.inl ⟨by rfl, fun w hS => by (obtain ⟨s1, s2⟩ := hS; go_simp)⟩) (by simp only [Act.put, List.setIfInBounds_toArray, List.set_cons_zero, List.set_cons_succ]; rfl) HS0.out ?_
    refine take_on (i := 10) (v := .pointer (some ⟨bH, 28, none⟩)) rfl (by kernel_rfl) (by kernel_rfl) (by kernel_rfl) (fun _ _ _ h => h) (Or.inl ⟨by rfl, fun w hS => by (obtain ⟨s1, s2⟩ := hS; go_simp)⟩) (by simp only [Act.put, List.setIfInBounds_toArray, List.set_cons_zero, List.set_cons_succ]; rfl) HS0.out ?_
    refine take_on (i := 11) (v := .pointer (some ⟨bH, 28 + u, none⟩)) rfl (by kernel_rfl) (by kernel_rfl) (by kernel_rfl) (fun _ _ _ h => h) (Or.inl ⟨by rfl, fun w hS => by (obtain ⟨s1, s2⟩ := hS; go_simp)⟩) (by simp only [Act.put, List.setIfInBounds_toArray, List.set_cons_zero, List.set_cons_succ]; rfl) HS0.out ?_
    refine take_on (i := 12) (v := .pointer (some ⟨rb, 0, none⟩)) rfl (by kernel_rfl) (by kernel_rfl) (by kernel_rfl) (fun _ _ _ h => h) (Or.inl ⟨by rfl, fun w hS => by (obtain ⟨s1, s2⟩ := hS; go_simp)⟩) (by simp only [Act.put, List.setIfInBounds_toArray, List.set_cons_zero, List.set_cons_succ]; rfl) HS0.out ?_
    refine call_on (i := 6) (v := .bool true) rfl (by kernel_rfl) (fun K hK => by go_simp; go_at_call 46; refine HC1.out.mono ?_; rintro e w1 ⟨rfl, G1⟩; exact hK w1 G1) HS1.out ?_
    intro w1 G1
    simp only [Act.put, List.setIfInBounds_toArray, List.set_cons_zero, List.set_cons_succ]
    refine call_on (i := 13) (v := .bool true) rfl (by kernel_rfl) (fun K hK => by go_simp; go_at_call 47; refine (HC2.out w1 G1).2.mono ?_; rintro e w2 ⟨rfl, Q2⟩; exact hK w2 Q2) (fun w2 (Q2 : PuGot (TurnP W l n bH D T u m V o L (.pu K')) b rb l n K' w2) => ⟨(Q2.play.tab (Up.refl w2) (by omega) H3.out).1, (Q2.play.tab (Up.refl w2) (by omega) H4.out).1⟩) ?_
    intro w2 Q2
    simp only [Act.put, List.setIfInBounds_toArray, List.set_cons_zero, List.set_cons_succ]
    refine rest_on 14 rfl rfl (by kernel_rfl) (by kernel_rfl) (fun n => ⟨(Q2.play.tab (Up.drewN w2 n) (by omega) H3.out).1, (Q2.play.tab (Up.drewN w2 n) (by omega) H4.out).1⟩) ?_
    have HQ2 := Lib.hid Q2
    have r4 := Q2.cells (Up.refl _) HFI.out
    obtain ⟨kp2, fp2⟩ := Q2.play.tab (Up.refl _) (k := 12 + u) (by omega) H3.out
    obtain ⟨kr2, fr2⟩ := Q2.play.tab (Up.refl _) (k := 28 + u) (by omega) H4.out
    clear Q2 G1
    simp only [List.drop_succ_cons, List.drop_zero]
    repeat (go_big_quiet_step ((go_at_call 48; (with_reducible exact quiet_eq (HQ2.out.done (Up.drewN _ _) HFI.out)))))
    refine wpQuiet_nil ?_
    rintro _ ⟨nq2, rfl⟩
    go_wp2_with fail
    go_ret
    exact ⟨rfl, HQ2.out.play.out HY.out (Up.drewN _ _) HFI.out⟩
  · have HFI := Lib.hid hfi
    clear hfi
    go_enter Tryz.func9, Tryz.ntmps9
    go_upto_region 27 with fail
    obtain ⟨G, C1, C2⟩ := HT.out _ (up_drew w)
    have HC1 := Lib.hid C1
    have HC2 := Lib.hid C2
    have hS0 : w.drew.cell? ⟨bH, 12 + u, none⟩ = some (.pointer (some ⟨b, 0, none⟩)) ∧ w.drew.cell? ⟨bH, 28 + u, none⟩ = some (.pointer (some ⟨rb, 0, none⟩)) := ⟨(up_drew w).kept k3, (up_drew w).kept kr⟩
    have HS0 := Lib.hid hS0
    have HS1 := Lib.hid (fun w1 G1 => And.intro (tab_cell (HC2.out w1 G1).1 (k := 12 + u) (by omega) H3.out) (tab_cell (HC2.out w1 G1).1 (k := 28 + u) (by omega) H4.out))
    clear C1 C2 k0 k1 k2 k3 kr hS0
    refine wp_region_held_drew (S := fun w' => w'.cell? ⟨bH, 12 + u, none⟩ = some (.pointer (some ⟨b, 0, none⟩)) ∧ w'.cell? ⟨bH, 28 + u, none⟩ = some (.pointer (some ⟨rb, 0, none⟩))) (by kernel_rfl) HS0.out (fun _ => ?_)
    change wpAnyH _ _ _ _ _ (33 + 1) _ _ _
    refine take_on (i := 0) (v := .pointer (some ⟨bH, 0, none⟩)) rfl (by kernel_rfl) (by kernel_rfl) (by kernel_rfl) (fun _ _ _ h => h) (Or.inl ⟨by rfl, fun w hS => by (obtain ⟨s1, s2⟩ := hS; go_simp)⟩) (by simp only [Act.put, List.setIfInBounds_toArray, List.set_cons_zero, List.set_cons_succ]; rfl) HS0.out ?_
    refine take_on (i := 1) (v := .int .i64 (u : Int)) rfl (by kernel_rfl) (by kernel_rfl) (by kernel_rfl) (fun _ _ _ h => h) (Or.inl ⟨by rfl, fun w hS => by (obtain ⟨s1, s2⟩ := hS; go_simp)⟩) (by simp only [Act.put, List.setIfInBounds_toArray, List.set_cons_zero, List.set_cons_succ]; rfl) HS0.out ?_
    refine take_on (i := 2) (v := .pointer (some ⟨bH, 0, none⟩)) rfl (by kernel_rfl) (by kernel_rfl) (by kernel_rfl) (fun _ _ _ h => h) (Or.inl ⟨by rfl, fun w hS => by (obtain ⟨s1, s2⟩ := hS; go_simp)⟩) (by simp only [Act.put, List.setIfInBounds_toArray, List.set_cons_zero, List.set_cons_succ]; rfl) HS0.out ?_
    refine take_on (i := 3) (v := .pointer (some ⟨bH, 12, none⟩)) rfl (by kernel_rfl) (by kernel_rfl) (by kernel_rfl) (fun _ _ _ h => h) (Or.inl ⟨by rfl, fun w hS => by (obtain ⟨s1, s2⟩ := hS; go_simp)⟩) (by simp only [Act.put, List.setIfInBounds_toArray, List.set_cons_zero, List.set_cons_succ]; rfl) HS0.out ?_
    refine take_on (i := 4) (v := .pointer (some ⟨bH, 12 + u, none⟩)) rfl (by kernel_rfl) (by kernel_rfl) (by kernel_rfl) (fun _ _ _ h => h) (Or.inl ⟨by rfl, fun w hS => by (obtain ⟨s1, s2⟩ := hS; go_simp)⟩) (by simp only [Act.put, List.setIfInBounds_toArray, List.set_cons_zero, List.set_cons_succ]; rfl) HS0.out ?_
    refine take_on (i := 5) (v := .pointer (some ⟨b, 0, none⟩)) rfl (by kernel_rfl) (by kernel_rfl) (by kernel_rfl) (fun _ _ _ h => h) (Or.inl ⟨by rfl, fun w hS => by (obtain ⟨s1, s2⟩ := hS; go_simp)⟩) (by simp only [Act.put, List.setIfInBounds_toArray, List.set_cons_zero, List.set_cons_succ]; rfl) HS0.out ?_
    refine take_on (i := 7) (v := .pointer (some ⟨bH, 0, none⟩)) rfl (by kernel_rfl) (by kernel_rfl) (by kernel_rfl) (fun _ _ _ h => h) (Or.inl ⟨by rfl, fun w hS => by (obtain ⟨s1, s2⟩ := hS; go_simp)⟩) (by simp only [Act.put, List.setIfInBounds_toArray, List.set_cons_zero, List.set_cons_succ]; rfl) HS0.out ?_
    refine take_on (i := 8) (v := .int .i64 (u : Int)) rfl (by kernel_rfl) (by kernel_rfl) (by kernel_rfl) (fun _ _ _ h => h) (Or.inl ⟨by rfl, fun w hS => by (obtain ⟨s1, s2⟩ := hS; go_simp)⟩) (by simp only [Act.put, List.setIfInBounds_toArray, List.set_cons_zero, List.set_cons_succ]; rfl) HS0.out ?_
    refine take_on (i := 9) (v := .pointer (some ⟨bH, 0, none⟩)) rfl (by kernel_rfl) (by kernel_rfl) (by kernel_rfl) (fun _ _ _ h => h) (Or.inl ⟨by rfl, fun w hS => by (obtain ⟨s1, s2⟩ := hS; go_simp)⟩) (by simp only [Act.put, List.setIfInBounds_toArray, List.set_cons_zero, List.set_cons_succ]; rfl) HS0.out ?_
    refine take_on (i := 10) (v := .pointer (some ⟨bH, 28, none⟩)) rfl (by kernel_rfl) (by kernel_rfl) (by kernel_rfl) (fun _ _ _ h => h) (Or.inl ⟨by rfl, fun w hS => by (obtain ⟨s1, s2⟩ := hS; go_simp)⟩) (by simp only [Act.put, List.setIfInBounds_toArray, List.set_cons_zero, List.set_cons_succ]; rfl) HS0.out ?_
    refine take_on (i := 11) (v := .pointer (some ⟨bH, 28 + u, none⟩)) rfl (by kernel_rfl) (by kernel_rfl) (by kernel_rfl) (fun _ _ _ h => h) (Or.inl ⟨by rfl, fun w hS => by (obtain ⟨s1, s2⟩ := hS; go_simp)⟩) (by simp only [Act.put, List.setIfInBounds_toArray, List.set_cons_zero, List.set_cons_succ]; rfl) HS0.out ?_
    refine take_on (i := 12) (v := .pointer (some ⟨rb, 0, none⟩)) rfl (by kernel_rfl) (by kernel_rfl) (by kernel_rfl) (fun _ _ _ h => h) (Or.inl ⟨by rfl, fun w hS => by (obtain ⟨s1, s2⟩ := hS; go_simp)⟩) (by simp only [Act.put, List.setIfInBounds_toArray, List.set_cons_zero, List.set_cons_succ]; rfl) HS0.out ?_
    refine call_on (i := 6) (v := .bool true) rfl (by kernel_rfl) (fun K hK => by go_simp; go_at_call 46; refine HC1.out.mono ?_; rintro e w1 ⟨rfl, G1⟩; exact hK w1 G1) HS1.out ?_
    intro w1 G1
    simp only [Act.put, List.setIfInBounds_toArray, List.set_cons_zero, List.set_cons_succ]
    refine call_on (i := 13) (v := .bool true) rfl (by kernel_rfl) (fun K hK => by go_simp; go_at_call 47; refine (HC2.out w1 G1).2.mono ?_; rintro e w2 ⟨rfl, Q2⟩; exact hK w2 Q2) (fun w2 (Q2 : PuGot (TurnP W l n bH D T u m V o L (.pu K')) b rb l n K' w2) => ⟨(Q2.play.tab (Up.refl w2) (by omega) H3.out).1, (Q2.play.tab (Up.refl w2) (by omega) H4.out).1⟩) ?_
    intro w2 Q2
    simp only [Act.put, List.setIfInBounds_toArray, List.set_cons_zero, List.set_cons_succ]
    refine rest_on 14 rfl rfl (by kernel_rfl) (by kernel_rfl) (fun n => ⟨(Q2.play.tab (Up.drewN w2 n) (by omega) H3.out).1, (Q2.play.tab (Up.drewN w2 n) (by omega) H4.out).1⟩) ?_
    have HQ2 := Lib.hid Q2
    have r4 := Q2.cells (Up.refl _) HFI.out
    obtain ⟨kp2, fp2⟩ := Q2.play.tab (Up.refl _) (k := 12 + u) (by omega) H3.out
    obtain ⟨kr2, fr2⟩ := Q2.play.tab (Up.refl _) (k := 28 + u) (by omega) H4.out
    clear Q2 G1
    simp only [List.drop_succ_cons, List.drop_zero]
    repeat (go_big_quiet_step ((go_at_call 48; (with_reducible exact quiet_eq (HQ2.out.done (Up.drewN _ _) HFI.out)))))
    refine wpQuiet_nil ?_
    rintro _ ⟨nq2, rfl⟩
    go_wp2_with fail
    go_ret
    exact ⟨rfl, HQ2.out.play.strike HY.out hu (Up.drewN _ _) (.inr (.inr (.inr rfl))) (.inr H0.out) (.inr H1.out) (.inr H2.out) (.inl rfl)⟩
end
end Go.Proofs.YtalglhgngedjoaaGreat
