/-
  The reference's stack: one Step of a Pop, way by way.
-/
import Derived.Test.YtalhbebpoohgkaaRefPush
import Derived.Deep.RegionLaw
namespace Go.Proofs.Ytalhbebpoohgkaa
open Go.RowKit
open W64
set_option maxRecDepth 100000
section
variable {w w' : World} {p g q hd ln n b i most : Nat} {xs : List Int} {c : Int} {v v' : Value} {l l' : List Nat} {old deep : Int}
theorem RPopAt.at_ {d : Bool} (P : RPopAt w b q v l most i deep old d) (j : Nat) : RPopAt (w.setCell ⟨b, 2, none⟩ (.int .i64 j)) b q v l most j deep old d := ⟨P.top.set 2 _, row_self P.row P.away _, P.away⟩
theorem RPopAt.below {d : Bool} (P : RPopAt w b q v l most i deep old d) (x : Int) : RPopAt (w.setCell ⟨b, 3, none⟩ (.int .i64 x)) b q v l most i x old d := ⟨P.top.set 3 _, row_self P.row P.away _, P.away⟩
theorem RPopAt.seen {d : Bool} (P : RPopAt w b q v l most i deep old d) (o : Int) : RPopAt (w.setCell ⟨b, 4, none⟩ (.int .u64 o)) b q v l most i deep o d := ⟨P.top.set 4 _, row_self P.row P.away _, P.away⟩
theorem RPopAt.fin {d : Bool} (P : RPopAt w b q v l most i deep old d) (e : Bool) : RPopAt (w.setCell ⟨b, 6, none⟩ (.bool e)) b q v l most i deep old e := ⟨P.top.set 6 _, row_self P.row P.away _, P.away⟩
theorem RPopAt.items {d : Bool} (P : RPopAt w b q v l most i deep old d) (r : Ints w v' (I l')) (a : v'.ownBlock ≠ some b) : RPopAt (w.setCell ⟨b, 5, none⟩ v') b q v' l' most i deep old d := ⟨P.top.set 5 _, row_self r a _, a⟩
theorem REnv.self (E : REnv w p g q hd ln n xs c) (h1 : b ≠ p) (h2 : b ≠ g) (h3 : b ≠ q) (i : Nat) (u : Value) : REnv (w.setCell ⟨b, i, none⟩ u) p g q hd ln n xs c :=
  E.else (x := [b]) ((Else.refl [b] w).set (p := ⟨b, i, none⟩) (.inl (by simp)) u) (by simp [h1.symm]) (by simp [h2.symm]) (by simp [h3.symm])
set_option maxHeartbeats 4000000 in
theorem rpop_none (E : REnv w p g q hd ln n xs c) (P : RPopAt w b q v l most 0 deep old false) (A : Apart b p g q v) (ht : topN n (xs.getD hd 0) = -1) :
    Calls Try.prog 41 #[.pointer (some ⟨b, 0, none⟩)] w fun e w' => e = .returned (.bool true) ∧ RPopAt w' b q (.slice none 0 0) [] most 0 deep (xs.getD hd 0) true ∧ Ref w' p g xs (wrap64 (c + 1)) ∧ Else [b, p, g] w w' := by
  have hhx := E.hh
  have okx := E.ok hd
  obtain ⟨x, hx⟩ : ∃ x, xs.getD hd 0 = x := ⟨_, rfl⟩
  rw [hx] at okx ht ⊢
  have HX := Lib.hid hx
  have HT := Lib.hid ht
  clear hx ht
  have hb := A.b2
  have hbq := A.bq
  have hq : q ∉ [p, g] := by simp [E.np, E.ng]
  obtain ⟨c0, c1, c2, c3, c4, c5, c6⟩ := P.cells
  obtain ⟨k0, k1, k2, k3⟩ := E.cells
  have HP := Lib.hid P
  have HE := Lib.hid E
  have HA := Lib.hid A
  clear P E A
  go_enter Try.func41, Try.ntmps41
  go_upto_region 8 with fail
  go_region_held3 (fun w' => w'.cell? ⟨q, 0, none⟩ = some (.pointer (some ⟨p, 0, none⟩)) ∧ w'.cell? ⟨q, 1, none⟩ = some (.int .i64 hd)) ((first | exact ⟨k0, k1⟩ | exact ⟨E1.kept k0 hq, E1.kept k1 hq⟩ | exact ⟨kept_set (ad_ne hbq) (E1.kept k0 hq), kept_set (ad_ne hbq) (E1.kept k1 hq)⟩))
    (first
      | (go_at_call 58; refine (rload_to (k := hd) rfl (HE.out.mem.up (up_drew w)) hhx HX.out).mono ?_; rintro e w1 ⟨rfl, M1, E1⟩; have d3 := E1.kept (p := ⟨b, 4, none⟩) c4 hb; have g3 := ((HP.out.up (up_drew w)).else E1 HA.out.b2 HA.out.v2).top.frozen 4))
  have E2 := Lib.hid (else_self (b := b) (o := 4) (u := .int .u64 x) (((Else.of_up (up_drew w)).trans E1).wide b) (by simp))
  have P1 := Lib.hid (((HP.out.up (up_drew w)).else E1 HA.out.b2 HA.out.v2).seen x)
  have EE := Lib.hid ((HE.out.turn M1 ((Else.of_up (up_drew w)).trans E1) hq HE.out.ok rfl).self HA.out.bp HA.out.bg HA.out.bq 4 (.int .u64 x))
  clear M1 E1 c0 c1 c2 c3 c4 c5 c6 k0 k1 k2 k3 d3 g3
  go_upto_region 9 with fail
  generalize w1.setCell ⟨b, 4, none⟩ (.int .u64 x) = w2 at *
  have c5 := P1.out.cells.2.2.2.2.2.1
  have f5 := P1.out.top.frozen 5
  go_upto_region 10 with fail
  have P2 := Lib.hid (P1.out.items (l' := []) (Ints.nil _) (by simp [Value.ownBlock]))
  have EF := Lib.hid (EE.out.self HA.out.bp HA.out.bg HA.out.bq 5 (.slice none 0 0))
  have E3 := Lib.hid (else_self (b := b) (o := 5) (u := .slice none 0 0) E2.out (by simp))
  clear c5 f5 P1 EE E2
  generalize w2.setCell ⟨b, 5, none⟩ (.slice none 0 0) = w3 at *
  obtain ⟨c0, c1, c2, c3, c4, c5, c6⟩ := P2.out.cells
  go_upto_region 12 with (first
    | (go_at_call 47; refine (rtop_to EF.out okx.1 okx.2 HT.out).mono ?_; rintro e w4 ⟨rfl, U4⟩))
  have P4 := Lib.hid (P2.out.up U4)
  have EG := Lib.hid (EF.out.up U4)
  have E4 := Lib.hid (E3.out.up U4)
  clear c0 c1 c2 c3 c4 c5 c6 U4
  have c6 := P4.out.cells.2.2.2.2.2.2
  have f6 := P4.out.top.frozen 6
  go_wp2_with fail
  go_ret
  exact ⟨rfl, P4.out.fin true, EG.out.mem.self HA.out.bp HA.out.bg _ _, else_self E4.out (by simp)⟩
set_option maxHeartbeats 4000000 in
theorem rpop_head (E : REnv w p g q hd ln n xs c) (P : RPopAt w b q v l most 0 deep old false) (A : Apart b p g q v) {t : Nat} (ht : topN n (xs.getD hd 0) = t) :
    Calls Try.prog 41 #[.pointer (some ⟨b, 0, none⟩)] w fun e w' => e = .returned (.bool true) ∧ (∃ r cap, w.heap.size ≤ r ∧ RPopAt w' b q (.slice (some ⟨r, 0, none⟩) 1 cap) [t] most 1 deep (xs.getD hd 0) false) ∧ Ref w' p g xs (wrap64 (c + 1)) ∧ Else [b, p, g] w w' := by
  have hhx := E.hh
  have okx := E.ok hd
  obtain ⟨x, hx⟩ : ∃ x, xs.getD hd 0 = x := ⟨_, rfl⟩
  rw [hx] at okx ht ⊢
  have HX := Lib.hid hx
  have HT := Lib.hid ht
  clear hx ht
  have i0 : (0 : Int) ≤ (t : Int) := Int.natCast_nonneg _
  have i1 : ¬ (t : Int) < 0 := by omega
  have hb := A.b2
  have hbq := A.bq
  have hq : q ∉ [p, g] := by simp [E.np, E.ng]
  obtain ⟨c0, c1, c2, c3, c4, c5, c6⟩ := P.cells
  obtain ⟨k0, k1, k2, k3⟩ := E.cells
  have HP := Lib.hid P
  have HE := Lib.hid E
  have HA := Lib.hid A
  clear P E A
  go_enter Try.func41, Try.ntmps41
  go_upto_region 8 with fail
  go_region_held3 (fun w' => w'.cell? ⟨q, 0, none⟩ = some (.pointer (some ⟨p, 0, none⟩)) ∧ w'.cell? ⟨q, 1, none⟩ = some (.int .i64 hd)) ((first | exact ⟨k0, k1⟩ | exact ⟨E1.kept k0 hq, E1.kept k1 hq⟩ | exact ⟨kept_set (ad_ne hbq) (E1.kept k0 hq), kept_set (ad_ne hbq) (E1.kept k1 hq)⟩))
    (first
      | (go_at_call 58; refine (rload_to (k := hd) rfl (HE.out.mem.up (up_drew w)) hhx HX.out).mono ?_; rintro e w1 ⟨rfl, M1, E1⟩; have d3 := E1.kept (p := ⟨b, 4, none⟩) c4 hb; have g3 := ((HP.out.up (up_drew w)).else E1 HA.out.b2 HA.out.v2).top.frozen 4))
  have E2 := Lib.hid (else_self (b := b) (o := 4) (u := .int .u64 x) (((Else.of_up (up_drew w)).trans E1).wide b) (by simp))
  have P1 := Lib.hid (((HP.out.up (up_drew w)).else E1 HA.out.b2 HA.out.v2).seen x)
  have EE := Lib.hid ((HE.out.turn M1 ((Else.of_up (up_drew w)).trans E1) hq HE.out.ok rfl).self HA.out.bp HA.out.bg HA.out.bq 4 (.int .u64 x))
  clear M1 E1 c0 c1 c2 c3 c4 c5 c6 k0 k1 k2 k3 d3 g3
  go_upto_region 9 with fail
  generalize w1.setCell ⟨b, 4, none⟩ (.int .u64 x) = w2 at *
  have c5 := P1.out.cells.2.2.2.2.2.1
  have f5 := P1.out.top.frozen 5
  go_upto_region 10 with fail
  have P2 := Lib.hid (P1.out.items (l' := []) (Ints.nil _) (by simp [Value.ownBlock]))
  have EF := Lib.hid (EE.out.self HA.out.bp HA.out.bg HA.out.bq 5 (.slice none 0 0))
  have E3 := Lib.hid (else_self (b := b) (o := 5) (u := .slice none 0 0) E2.out (by simp))
  clear c5 f5 P1 EE E2
  generalize w2.setCell ⟨b, 5, none⟩ (.slice none 0 0) = w3 at *
  obtain ⟨c0, c1, c2, c3, c4, c5, c6⟩ := P2.out.cells
  go_upto_region 13 with (first
    | (go_at_call 47; refine (rtop_to EF.out okx.1 okx.2 HT.out).mono ?_; rintro e w4 ⟨rfl, U4⟩))
  have P4 := Lib.hid (P2.out.up U4)
  have EG := Lib.hid (EF.out.up U4)
  have E4 := Lib.hid (E3.out.up U4)
  clear c0 c1 c2 c3 c4 c5 c6 U4
  have c5 := P4.out.cells.2.2.2.2.2.1
  go_wp2_with (at_builtin; refine wpList_app (v := .slice none 0 0) rfl _ _ rfl rfl rfl (Ints.nil _) (rd_one _ (t : Int)) (by simp) ?_; intro v5 w5 J5 G5 A5; obtain ⟨r5, k5, e5, _⟩ := Ints.get (l := [t]) J5 (by simp); replace e5 : v5 = .slice (some ⟨r5, 0, none⟩) 1 k5 := e5; subst e5; have HJ5 := Lib.hid J5; have HU5 := Lib.hid (up_app (Up.alloc w4 _) G5 (fresh_nil' _)); have HF5 := Lib.hid (fresh_app (fresh_nil' w4) (Up.alloc w4 (.cells #[.int .i64 (t : Int)] 3)).size A5); have P5 := Lib.hid (P4.out.up HU5.out); have y5 := P5.out.cells.2.2.2.2.2.1; have g5 := P5.out.top.frozen 5; have y2 := (P5.out.top.set 5 (.slice (some ⟨r5, 0, none⟩) 1 k5)).cell (i := 2) rfl; have g2 := (P5.out.top.set 5 (.slice (some ⟨r5, 0, none⟩) 1 k5)).frozen 2; clear J5 G5 A5)
  go_ret
  have hr5 := HF5.out r5 rfl
  have z4 := E4.out.size
  have z5 := P4.out.top.lt
  have E6 := else_self (b := b) (o := 2) (u := .int .i64 1) (else_self (b := b) (o := 5) (u := .slice (some ⟨r5, 0, none⟩) 1 k5) (E4.out.up HU5.out) (by simp)) (by simp)
  exact ⟨rfl, ⟨r5, k5, by omega, (P5.out.items (l' := [t]) HJ5.out (by simp [Value.ownBlock]; omega)).at_ 1⟩, ((EG.out.up HU5.out).mem.self HA.out.bp HA.out.bg _ _).self HA.out.bp HA.out.bg _ _, E6⟩
end
end Go.Proofs.Ytalhbebpoohgkaa
