/-
  EpochPlays: one of them goes on (hands.goes), who has a machine.
-/
import Derived.Test.YtngaokhlcdlpfaaEpPlay
namespace Go.Proofs.Ytngaokhlcdlpfaa
open Go.RowKit
open W64
set_option maxRecDepth 100000
section
variable {W w w' : World} {p g q pr gr qr bH B C D u : Nat} {m : Nat → PM} {V : Nat → Value} {o : Nat → List Nat} {xs : List Int} {c : Int}
theorem en_one {E : Int} : decide ((⟨1, E⟩ : En).i = 2) = false := rfl
theorem en_two {E : Int} : decide ((⟨2, E⟩ : En).i = 2) = true := rfl
theorem en_i2 {E : Int} : (⟨2, E⟩ : En).i = 2 := rfl
theorem en_ep {E : Int} : (⟨2, E⟩ : En).ep = E := rfl
set_option maxHeartbeats 4000000 in
theorem goes_en0 (X : Play W w p g q pr gr qr bH B C D m V o xs c) (L : ∀ u, u < 4 → (m u).live) (hu : u < 4) {e : En} (em : m u = .en e) (h0 : e.i = 0) (z : Int) :
    Calls Try.prog 13 #[.pointer (some ⟨bH, 0, none⟩), .pointer (some ⟨q, 0, none⟩), .pointer (some ⟨qr, 0, none⟩), .int .i64 (u : Int), .int .i64 z] w fun e w' => e = .returned (.bool true) ∧ PlayOut W p g q pr gr qr bH B C D w' := by
  have hmw := X.mw u hu
  rw [em] at hmw
  generalize ho : o u = l at hmw
  cases hmw with
  | en h1 h2 h3 h4 P R =>
  rename_i b rb
  have hord := X.ord
  have hz := X.ord.2.2.2.2.2
  have lb := X.lo u hu b (by rw [ho]; simp)
  have lr := X.lo u hu rb (by rw [ho]; simp)
  obtain ⟨ob, _, wb⟩ := X.off (b := b) lb.1
  obtain ⟨_, or_, wr_⟩ := X.off (b := rb) lr.1
  have nbr : b ≠ rb := P.row.ne_type R.row (by decide)
  have X0 := X.up (up_drew w)
  have HS := Lib.hid (enStep_to X0.sit ob wb hu (P.up (up_drew w)) (by omega) rfl rfl rfl)
  have hbE : b ∉ [rb, pr, gr] := by simp; omega
  have hrE : rb ∉ [b, p, g] := by simp; omega
  have HR := Lib.hid (fun w1 (E1 : Else [b, p, g] w.drew w1) => renStep (X0.rsit.else E1 ⟨by simp; omega, by simp; omega, by simp; omega⟩) or_ hu ((R.else (Else.of_up (s := []) (up_drew w)) (by simp)).else E1 hrE) (by omega))
  have HX0 := Lib.hid X0
  have HL := Lib.hid L
  have k0 := X.arr.cell (row24_get (V := V) (k := u) (by omega))
  have k4 := X.arr.cell (row24_get (V := V) (k := 4 + u) (by omega))
  have k8 := X.arr.cell (row24_get (V := V) (k := 8 + u) (by omega))
  have kr := X.arr.cell (row24_get (V := V) (k := 12 + u) (by omega))
  rw [h1] at k0
  rw [h2] at k4
  rw [h3] at k8
  rw [h4] at kr
  have kp := k0
  have hbb : bH ∉ [b, p, g] := by simp; omega
  have hbr : bH ∉ [rb, pr, gr] := by simp; omega
  have j0 : (0 : Int) ≤ (u : Int) := Int.natCast_nonneg _
  have j1 : (u : Int) < 4 := by omega
  have H1 := Lib.hid h1
  have H2 := Lib.hid h2
  have H3 := Lib.hid h3
  have H4 := Lib.hid h4
  have HO := Lib.hid ho
  clear X X0 P R L h1 h2 h3 h4 ho ob or_ em
  go_enter Try.func13, Try.ntmps13
  go_upto_region 3 with fail
  clear k0 k4 k8
  go_region_held3 (fun w' => w'.cell? ⟨bH, u, none⟩ = some (.pointer (some ⟨b, 0, none⟩)) ∧ w'.cell? ⟨bH, 12 + u, none⟩ = some (.pointer (some ⟨rb, 0, none⟩))) ((first | exact ⟨kp, kr⟩ | exact ⟨E1.kept (p := ⟨bH, u, none⟩) kp hbb, E1.kept (p := ⟨bH, 12 + u, none⟩) kr hbb⟩ | exact ⟨E2.kept (p := ⟨bH, u, none⟩) (E1.kept (p := ⟨bH, u, none⟩) kp hbb) hbr, E2.kept (p := ⟨bH, 12 + u, none⟩) (E1.kept (p := ⟨bH, 12 + u, none⟩) kr hbb) hbr⟩))
    (first
      | (go_at_call 22; refine HS.out.mono ?_; rintro e w1 ⟨rfl, G1⟩; have E1 := G1.rest)
      | (go_at_call 33; refine (HR.out w1 E1).mono ?_; rintro e w2 ⟨rfl, R2⟩; have E2 := R2.rest))
  have HX2 := Lib.hid (HX0.out.both hu HO.out G1 R2 (.en H1.out H2.out H3.out H4.out (G1.mach.else R2.rest hbE) R2.mach)).1
  have HP2 := Lib.hid (G1.mach.else R2.rest hbE)
  have HR2 := Lib.hid R2.mach
  replace kp := HX2.out.arr.cell (row24_get (V := V) (k := u) (by omega))
  replace kr := HX2.out.arr.cell (row24_get (V := V) (k := 12 + u) (by omega))
  rw [H1.out] at kp
  rw [H4.out] at kr
  have fp := HX2.out.arr.frozen (u)
  clear G1 R2 E1 E2
  have e2 : e.go 0 xs = ⟨1, epN (xs.getD 0 0)⟩ := by unfold En.go; rw [if_pos h0]
  rw [e2] at HX2 HP2 HR2
  have r4 : w2.cell? ⟨rb, 4, none⟩ = some (.bool false) := HR2.out.row.cell rfl
  clear e2
  go_upto_region 4 with fail
  go_quiet (first
    | (go_at_call 21; (with_reducible exact quiet_eq (enDone (HP2.out.up (Up.drewN _ _)) en_one))))
  go_wp2_with fail
  go_ret
  exact ⟨rfl, _, _, _, _, _, HX2.out.up (Up.drewN _ _), live_upd HL.out (by show (1 : Nat) < 2; decide)⟩
set_option maxHeartbeats 4000000 in
theorem goes_en1 (X : Play W w p g q pr gr qr bH B C D m V o xs c) (L : ∀ u, u < 4 → (m u).live) (hu : u < 4) {e : En} (em : m u = .en e) (h0 : e.i = 1) (z : Int) :
    Calls Try.prog 13 #[.pointer (some ⟨bH, 0, none⟩), .pointer (some ⟨q, 0, none⟩), .pointer (some ⟨qr, 0, none⟩), .int .i64 (u : Int), .int .i64 z] w fun e w' => e = .returned (.bool true) ∧ PlayOut W p g q pr gr qr bH B C D w' := by
  have hmw := X.mw u hu
  rw [em] at hmw
  generalize ho : o u = l at hmw
  cases hmw with
  | en h1 h2 h3 h4 P R =>
  rename_i b rb
  have hord := X.ord
  have hz := X.ord.2.2.2.2.2
  have lb := X.lo u hu b (by rw [ho]; simp)
  have lr := X.lo u hu rb (by rw [ho]; simp)
  obtain ⟨ob, _, wb⟩ := X.off (b := b) lb.1
  obtain ⟨_, or_, wr_⟩ := X.off (b := rb) lr.1
  have nbr : b ≠ rb := P.row.ne_type R.row (by decide)
  have X0 := X.up (up_drew w)
  have HS := Lib.hid (enStep_to X0.sit ob wb hu (P.up (up_drew w)) (by omega) rfl rfl rfl)
  have hbE : b ∉ [rb, pr, gr] := by simp; omega
  have hrE : rb ∉ [b, p, g] := by simp; omega
  have HR := Lib.hid (fun w1 (E1 : Else [b, p, g] w.drew w1) => renStep (X0.rsit.else E1 ⟨by simp; omega, by simp; omega, by simp; omega⟩) or_ hu ((R.else (Else.of_up (s := []) (up_drew w)) (by simp)).else E1 hrE) (by omega))
  have HX0 := Lib.hid X0
  have HL := Lib.hid L
  have k0 := X.arr.cell (row24_get (V := V) (k := u) (by omega))
  have k4 := X.arr.cell (row24_get (V := V) (k := 4 + u) (by omega))
  have k8 := X.arr.cell (row24_get (V := V) (k := 8 + u) (by omega))
  have kr := X.arr.cell (row24_get (V := V) (k := 12 + u) (by omega))
  rw [h1] at k0
  rw [h2] at k4
  rw [h3] at k8
  rw [h4] at kr
  have kp := k0
  have hbb : bH ∉ [b, p, g] := by simp; omega
  have hbr : bH ∉ [rb, pr, gr] := by simp; omega
  have j0 : (0 : Int) ≤ (u : Int) := Int.natCast_nonneg _
  have j1 : (u : Int) < 4 := by omega
  have H1 := Lib.hid h1
  have H2 := Lib.hid h2
  have H3 := Lib.hid h3
  have H4 := Lib.hid h4
  have HO := Lib.hid ho
  clear X X0 P R L h1 h2 h3 h4 ho ob or_ em
  go_enter Try.func13, Try.ntmps13
  go_upto_region 3 with fail
  clear k0 k4 k8
  go_region_held3 (fun w' => w'.cell? ⟨bH, u, none⟩ = some (.pointer (some ⟨b, 0, none⟩)) ∧ w'.cell? ⟨bH, 12 + u, none⟩ = some (.pointer (some ⟨rb, 0, none⟩))) ((first | exact ⟨kp, kr⟩ | exact ⟨E1.kept (p := ⟨bH, u, none⟩) kp hbb, E1.kept (p := ⟨bH, 12 + u, none⟩) kr hbb⟩ | exact ⟨E2.kept (p := ⟨bH, u, none⟩) (E1.kept (p := ⟨bH, u, none⟩) kp hbb) hbr, E2.kept (p := ⟨bH, 12 + u, none⟩) (E1.kept (p := ⟨bH, 12 + u, none⟩) kr hbb) hbr⟩))
    (first
      | (go_at_call 22; refine HS.out.mono ?_; rintro e w1 ⟨rfl, G1⟩; have E1 := G1.rest)
      | (go_at_call 33; refine (HR.out w1 E1).mono ?_; rintro e w2 ⟨rfl, R2⟩; have E2 := R2.rest))
  have HX2 := Lib.hid (HX0.out.both hu HO.out G1 R2 (.en H1.out H2.out H3.out H4.out (G1.mach.else R2.rest hbE) R2.mach)).1
  have HP2 := Lib.hid (G1.mach.else R2.rest hbE)
  have HR2 := Lib.hid R2.mach
  replace kp := HX2.out.arr.cell (row24_get (V := V) (k := u) (by omega))
  replace kr := HX2.out.arr.cell (row24_get (V := V) (k := 12 + u) (by omega))
  rw [H1.out] at kp
  rw [H4.out] at kr
  have fp := HX2.out.arr.frozen (u)
  clear G1 R2 E1 E2
  have e2 : e.go 0 xs = ⟨2, e.ep⟩ := by unfold En.go; rw [if_neg (by omega)]
  rw [e2] at HX2 HP2 HR2
  have r4 : w2.cell? ⟨rb, 4, none⟩ = some (.bool true) := HR2.out.row.cell rfl
  have r3 : w2.cell? ⟨rb, 3, none⟩ = some (.int .i64 e.ep) := HR2.out.row.cell rfl
  clear e2
  obtain ⟨ep, hep⟩ : ∃ ep, e.ep = ep := ⟨_, rfl⟩
  rw [hep] at HX2 HP2 HR2 r3
  go_upto_region 4 with fail
  go_quiet (first
    | (go_at_call 21; (with_reducible exact quiet_eq (enDone (HP2.out.up (Up.drewN _ _)) en_two)))
    | (go_at_call 34; (with_reducible exact quiet_eq (enEpoch (HP2.out.up (Up.drewN _ _)) en_i2 en_ep))))
  go_wp2_with fail
  go_ret
  have X3 := (HX2.out.up (Up.drewN _ nq)).strike hu (k := u) (by omega) (.inl rfl) (.inr H2.out) (.inr H3.out)
  rw [updA_updA] at X3
  exact ⟨rfl, _, _, _, _, _, X3, live_upd HL.out trivial⟩
set_option maxHeartbeats 4000000 in
theorem goes_le (X : Play W w p g q pr gr qr bH B C D m V o xs c) (L : ∀ u, u < 4 → (m u).live) (hu : u < 4)  (em : m u = .le false) (z : Int) :
    Calls Try.prog 13 #[.pointer (some ⟨bH, 0, none⟩), .pointer (some ⟨q, 0, none⟩), .pointer (some ⟨qr, 0, none⟩), .int .i64 (u : Int), .int .i64 z] w fun e w' => e = .returned (.bool true) ∧ PlayOut W p g q pr gr qr bH B C D w' := by
  have hmw := X.mw u hu
  rw [em] at hmw
  generalize ho : o u = l at hmw
  cases hmw with
  | le h1 h2 h3 h4 P R =>
  rename_i b rb
  have hord := X.ord
  have hz := X.ord.2.2.2.2.2
  have lb := X.lo u hu b (by rw [ho]; simp)
  have lr := X.lo u hu rb (by rw [ho]; simp)
  obtain ⟨ob, _, wb⟩ := X.off (b := b) lb.1
  obtain ⟨_, or_, wr_⟩ := X.off (b := rb) lr.1
  have nbr : b ≠ rb := P.row.ne_type R.row (by decide)
  have X0 := X.up (up_drew w)
  have HS := Lib.hid (leStep_to X0.sit ob wb hu (P.up (up_drew w)) rfl rfl)
  have hbE : b ∉ [rb, pr, gr] := by simp; omega
  have hrE : rb ∉ [b, p, g] := by simp; omega
  have HR := Lib.hid (fun w1 (E1 : Else [b, p, g] w.drew w1) => rleStep (X0.rsit.else E1 ⟨by simp; omega, by simp; omega, by simp; omega⟩) or_ hu ((R.else (Else.of_up (s := []) (up_drew w)) (by simp)).else E1 hrE))
  have HX0 := Lib.hid X0
  have HL := Lib.hid L
  have k0 := X.arr.cell (row24_get (V := V) (k := u) (by omega))
  have k4 := X.arr.cell (row24_get (V := V) (k := 4 + u) (by omega))
  have k8 := X.arr.cell (row24_get (V := V) (k := 8 + u) (by omega))
  have kr := X.arr.cell (row24_get (V := V) (k := 16 + u) (by omega))
  rw [h1] at k0
  rw [h2] at k4
  rw [h3] at k8
  rw [h4] at kr
  have kp := k4
  have hbb : bH ∉ [b, p, g] := by simp; omega
  have hbr : bH ∉ [rb, pr, gr] := by simp; omega
  have j0 : (0 : Int) ≤ (u : Int) := Int.natCast_nonneg _
  have j1 : (u : Int) < 4 := by omega
  have H1 := Lib.hid h1
  have H2 := Lib.hid h2
  have H3 := Lib.hid h3
  have H4 := Lib.hid h4
  have HO := Lib.hid ho
  clear X X0 P R L h1 h2 h3 h4 ho ob or_ em
  go_enter Try.func13, Try.ntmps13
  go_upto_region 9 with fail
  clear k0 k4 k8
  go_region_held3 (fun w' => w'.cell? ⟨bH, 4 + u, none⟩ = some (.pointer (some ⟨b, 0, none⟩)) ∧ w'.cell? ⟨bH, 16 + u, none⟩ = some (.pointer (some ⟨rb, 0, none⟩))) ((first | exact ⟨kp, kr⟩ | exact ⟨E1.kept (p := ⟨bH, 4 + u, none⟩) kp hbb, E1.kept (p := ⟨bH, 16 + u, none⟩) kr hbb⟩ | exact ⟨E2.kept (p := ⟨bH, 4 + u, none⟩) (E1.kept (p := ⟨bH, 4 + u, none⟩) kp hbb) hbr, E2.kept (p := ⟨bH, 16 + u, none⟩) (E1.kept (p := ⟨bH, 16 + u, none⟩) kr hbb) hbr⟩))
    (first
      | (go_at_call 26; refine HS.out.mono ?_; rintro e w1 ⟨rfl, G1⟩; have E1 := G1.rest)
      | (go_at_call 35; refine (HR.out w1 E1).mono ?_; rintro e w2 ⟨rfl, R2⟩; have E2 := R2.rest))
  have HX2 := Lib.hid (HX0.out.both hu HO.out G1 R2 (.le H1.out H2.out H3.out H4.out (G1.mach.else R2.rest hbE) R2.mach)).1
  have HP2 := Lib.hid (G1.mach.else R2.rest hbE)
  have HR2 := Lib.hid R2.mach
  replace kp := HX2.out.arr.cell (row24_get (V := V) (k := 4 + u) (by omega))
  replace kr := HX2.out.arr.cell (row24_get (V := V) (k := 16 + u) (by omega))
  rw [H2.out] at kp
  rw [H4.out] at kr
  have fp := HX2.out.arr.frozen (4 + u)
  clear G1 R2 E1 E2
  go_wp2_with (first
    | (go_at_call 36; (with_reducible refine (leDone HP2.out).mono ?_); rintro r w' ⟨rfl, rfl⟩))
  go_ret
  have X3 := HX2.out.strike hu (k := 4 + u) (by omega) (.inr H1.out) (.inl rfl) (.inr H3.out)
  rw [updA_updA] at X3
  exact ⟨rfl, _, _, _, _, _, X3, live_upd HL.out trivial⟩
set_option maxHeartbeats 4000000 in
theorem goes_ad (X : Play W w p g q pr gr qr bH B C D m V o xs c) (L : ∀ u, u < 4 → (m u).live) (hu : u < 4) {a : Ad} (em : m u = .ad a) (hi : a.fin = false) (z : Int) :
    Calls Try.prog 13 #[.pointer (some ⟨bH, 0, none⟩), .pointer (some ⟨q, 0, none⟩), .pointer (some ⟨qr, 0, none⟩), .int .i64 (u : Int), .int .i64 z] w fun e w' => e = .returned (.bool true) ∧ PlayOut W p g q pr gr qr bH B C D w' := by
  have hmw := X.mw u hu
  rw [em] at hmw
  generalize ho : o u = l at hmw
  cases hmw with
  | ad h1 h2 h3 h4 P R =>
  rename_i b rb
  have hord := X.ord
  have hz := X.ord.2.2.2.2.2
  have lb := X.lo u hu b (by rw [ho]; simp)
  have lr := X.lo u hu rb (by rw [ho]; simp)
  obtain ⟨ob, _, wb⟩ := X.off (b := b) lb.1
  obtain ⟨_, or_, wr_⟩ := X.off (b := rb) lr.1
  have nbr : b ≠ rb := P.row.ne_type R.row (by decide)
  have X0 := X.up (up_drew w)
  have HS := Lib.hid (adStep_to X0.sit ob wb (P.up (up_drew w)) hi rfl rfl rfl)
  have hbE : b ∉ [rb, pr, gr] := by simp; omega
  have hrE : rb ∉ [b, p, g] := by simp; omega
  have HR := Lib.hid (fun w1 (E1 : Else [b, p, g] w.drew w1) => radStep (X0.rsit.else E1 ⟨by simp; omega, by simp; omega, by simp; omega⟩) or_ ((R.else (Else.of_up (s := []) (up_drew w)) (by simp)).else E1 hrE) hi)
  have HX0 := Lib.hid X0
  have HL := Lib.hid L
  have k0 := X.arr.cell (row24_get (V := V) (k := u) (by omega))
  have k4 := X.arr.cell (row24_get (V := V) (k := 4 + u) (by omega))
  have k8 := X.arr.cell (row24_get (V := V) (k := 8 + u) (by omega))
  have kr := X.arr.cell (row24_get (V := V) (k := 20 + u) (by omega))
  rw [h1] at k0
  rw [h2] at k4
  rw [h3] at k8
  rw [h4] at kr
  have kp := k8
  have hbb : bH ∉ [b, p, g] := by simp; omega
  have hbr : bH ∉ [rb, pr, gr] := by simp; omega
  have j0 : (0 : Int) ≤ (u : Int) := Int.natCast_nonneg _
  have j1 : (u : Int) < 4 := by omega
  have H1 := Lib.hid h1
  have H2 := Lib.hid h2
  have H3 := Lib.hid h3
  have H4 := Lib.hid h4
  have HO := Lib.hid ho
  clear X X0 P R L h1 h2 h3 h4 ho ob or_ em
  go_enter Try.func13, Try.ntmps13
  go_upto_region 14 with fail
  clear k0 k4 k8
  go_region_held3 (fun w' => w'.cell? ⟨bH, 8 + u, none⟩ = some (.pointer (some ⟨b, 0, none⟩)) ∧ w'.cell? ⟨bH, 20 + u, none⟩ = some (.pointer (some ⟨rb, 0, none⟩))) ((first | exact ⟨kp, kr⟩ | exact ⟨E1.kept (p := ⟨bH, 8 + u, none⟩) kp hbb, E1.kept (p := ⟨bH, 20 + u, none⟩) kr hbb⟩ | exact ⟨E2.kept (p := ⟨bH, 8 + u, none⟩) (E1.kept (p := ⟨bH, 8 + u, none⟩) kp hbb) hbr, E2.kept (p := ⟨bH, 20 + u, none⟩) (E1.kept (p := ⟨bH, 20 + u, none⟩) kr hbb) hbr⟩))
    (first
      | (go_at_call 23; refine HS.out.mono ?_; rintro e w1 ⟨rfl, G1⟩; have E1 := G1.rest)
      | (go_at_call 37; refine (HR.out w1 E1).mono ?_; rintro e w2 ⟨rfl, R2⟩; have E2 := R2.rest))
  have HX2 := Lib.hid (HX0.out.both hu HO.out G1 R2 (.ad H1.out H2.out H3.out H4.out (G1.mach.else R2.rest hbE) R2.mach)).1
  have HP2 := Lib.hid (G1.mach.else R2.rest hbE)
  have HR2 := Lib.hid R2.mach
  replace kp := HX2.out.arr.cell (row24_get (V := V) (k := 8 + u) (by omega))
  replace kr := HX2.out.arr.cell (row24_get (V := V) (k := 20 + u) (by omega))
  rw [H3.out] at kp
  rw [H4.out] at kr
  have fp := HX2.out.arr.frozen (8 + u)
  clear G1 R2 E1 E2
  obtain ⟨a', ha'⟩ : ∃ a', a.go 0 1 4 xs = a' := ⟨_, rfl⟩
  rw [ha'] at HX2 HP2 HR2
  have r4 : w2.cell? ⟨rb, 4, none⟩ = some (.bool a'.fin) := HR2.out.row.cell rfl
  have r3 : w2.cell? ⟨rb, 3, none⟩ = some (.bool a'.won) := HR2.out.row.cell rfl
  clear ha'
  cases hf : a'.fin
  · rw [hf] at r4
    have HF := Lib.hid hf
    clear hf
    go_upto_region 15 with fail
    go_quiet (first
      | (go_at_call 24; (with_reducible exact quiet_eq (adDone (HP2.out.up (Up.drewN _ _)) HF.out))))
    go_wp2_with fail
    go_ret
    exact ⟨rfl, _, _, _, _, _, HX2.out.up (Up.drewN _ _), live_upd HL.out HF.out⟩
  · rw [hf] at r4
    have HF := Lib.hid hf
    obtain ⟨won, hwon⟩ : ∃ won, a'.won = won := ⟨_, rfl⟩
    rw [hwon] at r3
    have HW := Lib.hid hwon
    clear hf hwon
    go_upto_region 15 with fail
    go_quiet (first
      | (go_at_call 24; (with_reducible exact quiet_eq (adDone (HP2.out.up (Up.drewN _ _)) HF.out)))
      | (go_at_call 28; (with_reducible exact quiet_eq (adWon (HP2.out.up (Up.drewN _ _)) HW.out))))
    go_wp2_with fail
    go_ret
    have X3 := (HX2.out.up (Up.drewN _ nq)).strike hu (k := 8 + u) (by omega) (.inr H1.out) (.inr H2.out) (.inl rfl)
    rw [updA_updA] at X3
    exact ⟨rfl, _, _, _, _, _, X3, live_upd HL.out trivial⟩
end
end Go.Proofs.Ytngaokhlcdlpfaa
