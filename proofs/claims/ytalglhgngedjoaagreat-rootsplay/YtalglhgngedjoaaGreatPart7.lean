/-
  Texts beneath RootsPlay, part 7: Pop, PopEnds, PushNew, StkData.
-/
import Derived.Test.YtalglhgngedjoaaGreatPart6
import Derived.Deep.RegionHeldLaw
/-
  Package stack: the machine Pop.
-/
namespace Go.Proofs.YtalglhgngedjoaaGreat
open Go.RowKit
open W64
set_option maxRecDepth 100000

/-- A Pop lies at b, over the stack at q: how many at most; its items l lie at v; the one below; the head that it loaded; the next access. -/
structure PopAt (w : World) (b q : Nat) (v : Value) (l : List Nat) (most : Nat) (deep old : Int) (nx : Value) : Prop where
  top : Whole w b 171 #[.pointer (some ⟨q, 0, none⟩), .int .i64 most, v, .int .i64 deep, .int .u64 old, nx]
  row : Ints w v (I l)
  away : v.ownBlock ≠ some b
section
variable {w w' : World} {p g q hd ln n b most : Nat} {s : St} {v v' : Value} {l l' : List Nat} {deep old : Int} {nx : Value}
theorem PopAt.up (P : PopAt w b q v l most deep old nx) (u : Up w w') : PopAt w' b q v l most deep old nx := ⟨P.top.up u, P.row.up u, P.away⟩
theorem PopAt.else (P : PopAt w b q v l most deep old nx) {t : List Nat} (u : Else t w w') (h1 : b ∉ t) (h2 : Away v t) : PopAt w' b q v l most deep old nx := ⟨u.whole P.top h1, P.row.else u h2, P.away⟩
theorem PopAt.cells (P : PopAt w b q v l most deep old nx) : w.cell? ⟨b, 0, none⟩ = some (.pointer (some ⟨q, 0, none⟩)) ∧ w.cell? ⟨b, 1, none⟩ = some (.int .i64 most) ∧ w.cell? ⟨b, 2, none⟩ = some v ∧ w.cell? ⟨b, 3, none⟩ = some (.int .i64 deep) ∧ w.cell? ⟨b, 4, none⟩ = some (.int .u64 old) ∧ w.cell? ⟨b, 5, none⟩ = some nx :=
  ⟨P.top.cell rfl, P.top.cell rfl, P.top.cell rfl, P.top.cell rfl, P.top.cell rfl, P.top.cell rfl⟩
theorem row_self {w : World} {v : Value} {xs : List Int} (h : Ints w v xs) (a : v.ownBlock ≠ some b) {i : Nat} (u : Value) : Ints (w.setCell ⟨b, i, none⟩ u) v xs :=
  h.else (Else.set (s := [b]) (Else.refl [b] w) (p := ⟨b, i, none⟩) (.inl (by simp)) u) (by intro k hk; simp at hk; subst hk; exact a)
theorem PopAt.next (P : PopAt w b q v l most deep old nx) (nx' : Value) : PopAt (w.setCell ⟨b, 5, none⟩ nx') b q v l most deep old nx' := ⟨P.top.set 5 nx', row_self P.row P.away _, P.away⟩
theorem PopAt.seen (P : PopAt w b q v l most deep old nx) (old' : Int) : PopAt (w.setCell ⟨b, 4, none⟩ (.int .u64 old')) b q v l most deep old' nx := ⟨P.top.set 4 _, row_self P.row P.away _, P.away⟩
theorem PopAt.below (P : PopAt w b q v l most deep old nx) (d : Int) : PopAt (w.setCell ⟨b, 3, none⟩ (.int .i64 d)) b q v l most d old nx := ⟨P.top.set 3 _, row_self P.row P.away _, P.away⟩
theorem PopAt.items (P : PopAt w b q v l most deep old nx) (r : Ints w v' (I l')) (a : v'.ownBlock ≠ some b) : PopAt (w.setCell ⟨b, 2, none⟩ v') b q v' l' most deep old nx := ⟨P.top.set 2 _, row_self r a _, a⟩
theorem Mem.self (M : Mem w p g s) (h1 : b ≠ p) (h2 : b ≠ g) (i : Nat) (u : Value) : Mem (w.setCell ⟨b, i, none⟩ u) p g s :=
  M.else (l := [b]) (Else.set (Else.refl [b] w) (p := ⟨b, i, none⟩) (.inl (by simp)) u) (by simp [h1.symm]) (by simp [h2.symm])
theorem Env.self (E : Env w p g q hd ln n s) (h1 : b ≠ p) (h2 : b ≠ g) (h3 : b ≠ q) (i : Nat) (u : Value) : Env (w.setCell ⟨b, i, none⟩ u) p g q hd ln n s :=
  E.else (l := [b]) (Else.set (Else.refl [b] w) (p := ⟨b, i, none⟩) (.inl (by simp)) u) (by simp [h1.symm]) (by simp [h2.symm]) (by simp [h3.symm])

set_option maxHeartbeats 2000000 in
theorem pop_load0 (E : Env w p g q hd ln n s) (P : PopAt w b q v l most deep old nx) (A : Apart b p g q v) (ht : topN n (s.get hd) = -1) :
    Calls Tryz.prog 110 #[.pointer (some ⟨b, 0, none⟩)] w fun e w' => e = .returned (.tuple #[]) ∧ PopAt w' b q (.slice none 0 0) [] most deep (s.get hd) .nilFunc ∧ Mem w' p g (s.hit 1 hd (s.get hd) true) ∧ Else [b, p, g] w w' := by
  obtain ⟨c0, _, c2, c3, c4, c5⟩ := P.cells
  obtain ⟨k0, k1, _, _⟩ := E.cells
  have hq : q ∉ [p, g] := by simp [E.np, E.ng]
  have hb := A.b2
  have hbq := A.bq
  have hk := E.ok hd
  have hh := Lib.hid E.hasH
  have HE := Lib.hid E
  have HP := Lib.hid P
  have HA := Lib.hid A
  have HT := Lib.hid ht
  have hf := run_func
  clear P E A ht
  go_enter Tryz.func110, Tryz.ntmps110
  go_upto_region 0 with fail
  go_region_held3 (fun w' => w'.cell? ⟨b, 0, none⟩ = some (.pointer (some ⟨q, 0, none⟩)) ∧ w'.cell? ⟨q, 0, none⟩ = some (.pointer (some ⟨p, 0, none⟩)) ∧ w'.cell? ⟨q, 1, none⟩ = some (.int .i64 hd)) ((first | exact ⟨c0, k0, k1⟩ | exact ⟨E1.kept c0 hb, E1.kept k0 hq, E1.kept k1 hq⟩ | exact ⟨kept_set (off_ne (by decide)) (E1.kept c0 hb), kept_set (ad_ne hbq) (E1.kept k0 hq), kept_set (ad_ne hbq) (E1.kept k1 hq)⟩))
    (first
      | (go_at_call 100; refine (load_in (HE.out.mem.up (up_drew w)) hh.out).mono ?_; rintro e w1 ⟨rfl, M1, E1⟩; have d3 := E1.kept (p := ⟨b, 4, none⟩) c4 hb; have g3 := (HP.out.else ((Else.of_up (up_drew w)).trans E1) HA.out.b2 HA.out.v2).top.frozen 4))
  have HE1 := Lib.hid ((Else.of_up (up_drew w)).trans E1)
  have P2 := Lib.hid ((HP.out.else HE1.out HA.out.b2 HA.out.v2).seen (s.get hd))
  have EE := Lib.hid ((HE.out.turn M1 HE1.out (HE.out.ok.hit 1 hd true hk.1 hk.2) (hit_len _ _ _ _ _)).self HA.out.bp HA.out.bg HA.out.bq 4 (.int .u64 (s.get hd)))
  have E3 : Else [b, p, g] w (w1.setCell ⟨b, 4, none⟩ (.int .u64 (s.get hd))) := else_self (HE1.out.wide b) (by simp)
  have E3 := Lib.hid E3
  clear d3 g3 M1 E1 HE1 c0 c2 c3 c4 c5 k0 k1
  generalize w1.setCell ⟨b, 4, none⟩ (.int .u64 (s.get hd)) = w2 at *
  have j2 := P2.out.cells.2.2.1
  have f2 := P2.out.top.frozen 2
  go_upto_region 2 with fail
  have P3 := Lib.hid (P2.out.items (v' := .slice none 0 0) (l' := []) (Ints.nil _) (by simp [Value.ownBlock]))
  have EF := Lib.hid (EE.out.self HA.out.bp HA.out.bg HA.out.bq 2 (.slice none 0 0))
  have E4 : Else [b, p, g] w (w2.setCell ⟨b, 2, none⟩ (.slice none 0 0)) := else_self E3.out (by simp)
  have E4 := Lib.hid E4
  clear j2 f2 P2 EE E3
  generalize w2.setCell ⟨b, 2, none⟩ (.slice none 0 0) = w3 at *
  have r0 := P3.out.cells.1
  have r4 := P3.out.cells.2.2.2.2.1
  go_region_held3 (fun w' => w'.cell? ⟨b, 0, none⟩ = some (.pointer (some ⟨q, 0, none⟩)) ∧ w'.cell? ⟨b, 4, none⟩ = some (.int .u64 (s.get hd))) ((first | exact ⟨r0, r4⟩ | exact ⟨U5.kept r0, U5.kept r4⟩))
    (first
      | (go_at_call 94; refine (ofHead_to (EF.out.up (up_drew w3)) hk.1 hk.2 HT.out).mono ?_; rintro e w5 ⟨rfl, U5⟩))
  have V := (up_drew w3).trans U5
  have P6 := Lib.hid (P3.out.up V)
  have M6 := Lib.hid (EF.out.mem.up V)
  have E6 := Lib.hid (E4.out.up V)
  have j5 := P6.out.cells.2.2.2.2.2
  have f5 := P6.out.top.frozen 5
  clear r0 r4 V U5
  go_wp2_with fail
  refine bodyPost_ret (v := .tuple #[]) (by simp [results, Tryz.results110, go_sem]) rfl ?_
  exact ⟨rfl, P6.out.next _, M6.out.self HA.out.bp HA.out.bg _ _, else_self E6.out (by simp)⟩

set_option maxHeartbeats 2000000 in
theorem pop_load1 (E : Env w p g q hd ln n s) (P : PopAt w b q v l most deep old nx) (A : Apart b p g q v) {t : Nat} (ht : topN n (s.get hd) = t) :
    Calls Tryz.prog 110 #[.pointer (some ⟨b, 0, none⟩)] w fun e w' => e = .returned (.tuple #[]) ∧ (∃ r cap, w.heap.size ≤ r ∧ PopAt w' b q (.slice (some ⟨r, 0, none⟩) 1 cap) [t] most deep (s.get hd) (meth 130 b)) ∧ Mem w' p g (s.hit 1 hd (s.get hd) true) ∧ Else [b, p, g] w w' := by
  obtain ⟨c0, _, c2, c3, c4, c5⟩ := P.cells
  obtain ⟨k0, k1, _, _⟩ := E.cells
  have hq : q ∉ [p, g] := by simp [E.np, E.ng]
  have hb := A.b2
  have hbq := A.bq
  have hk := E.ok hd
  have hh := Lib.hid E.hasH
  have HE := Lib.hid E
  have HP := Lib.hid P
  have HA := Lib.hid A
  have HT := Lib.hid ht
  have hf := run_func
  have ht0 : ((t : Int) == -1) = false := by simp
  clear P E A ht
  go_enter Tryz.func110, Tryz.ntmps110
  go_upto_region 0 with fail
  go_region_held3 (fun w' => w'.cell? ⟨b, 0, none⟩ = some (.pointer (some ⟨q, 0, none⟩)) ∧ w'.cell? ⟨q, 0, none⟩ = some (.pointer (some ⟨p, 0, none⟩)) ∧ w'.cell? ⟨q, 1, none⟩ = some (.int .i64 hd)) ((first | exact ⟨c0, k0, k1⟩ | exact ⟨E1.kept c0 hb, E1.kept k0 hq, E1.kept k1 hq⟩ | exact ⟨kept_set (off_ne (by decide)) (E1.kept c0 hb), kept_set (ad_ne hbq) (E1.kept k0 hq), kept_set (ad_ne hbq) (E1.kept k1 hq)⟩))
    (first
      | (go_at_call 100; refine (load_in (HE.out.mem.up (up_drew w)) hh.out).mono ?_; rintro e w1 ⟨rfl, M1, E1⟩; have d3 := E1.kept (p := ⟨b, 4, none⟩) c4 hb; have g3 := (HP.out.else ((Else.of_up (up_drew w)).trans E1) HA.out.b2 HA.out.v2).top.frozen 4))
  have HE1 := Lib.hid ((Else.of_up (up_drew w)).trans E1)
  have P2 := Lib.hid ((HP.out.else HE1.out HA.out.b2 HA.out.v2).seen (s.get hd))
  have EE := Lib.hid ((HE.out.turn M1 HE1.out (HE.out.ok.hit 1 hd true hk.1 hk.2) (hit_len _ _ _ _ _)).self HA.out.bp HA.out.bg HA.out.bq 4 (.int .u64 (s.get hd)))
  have E3 : Else [b, p, g] w (w1.setCell ⟨b, 4, none⟩ (.int .u64 (s.get hd))) := else_self (HE1.out.wide b) (by simp)
  have E3 := Lib.hid E3
  clear d3 g3 M1 E1 HE1 c0 c2 c3 c4 c5 k0 k1
  generalize w1.setCell ⟨b, 4, none⟩ (.int .u64 (s.get hd)) = w2 at *
  have j2 := P2.out.cells.2.2.1
  have f2 := P2.out.top.frozen 2
  go_upto_region 2 with fail
  have P3 := Lib.hid (P2.out.items (v' := .slice none 0 0) (l' := []) (Ints.nil _) (by simp [Value.ownBlock]))
  have EF := Lib.hid (EE.out.self HA.out.bp HA.out.bg HA.out.bq 2 (.slice none 0 0))
  have E4 : Else [b, p, g] w (w2.setCell ⟨b, 2, none⟩ (.slice none 0 0)) := else_self E3.out (by simp)
  have E4 := Lib.hid E4
  clear j2 f2 P2 EE E3
  generalize w2.setCell ⟨b, 2, none⟩ (.slice none 0 0) = w3 at *
  have r0 := P3.out.cells.1
  have r4 := P3.out.cells.2.2.2.2.1
  go_region_held3 (fun w' => w'.cell? ⟨b, 0, none⟩ = some (.pointer (some ⟨q, 0, none⟩)) ∧ w'.cell? ⟨b, 4, none⟩ = some (.int .u64 (s.get hd))) ((first | exact ⟨r0, r4⟩ | exact ⟨U5.kept r0, U5.kept r4⟩))
    (first
      | (go_at_call 94; refine (ofHead_to (EF.out.up (up_drew w3)) hk.1 hk.2 HT.out).mono ?_; rintro e w5 ⟨rfl, U5⟩))
  have V := (up_drew w3).trans U5
  have P6 := Lib.hid (P3.out.up V)
  have M6 := Lib.hid (EF.out.mem.up V)
  have E6 := Lib.hid (E4.out.up V)
  clear r0 r4 V U5 P3 EF E4
  have j2 := P6.out.cells.2.2.1
  obtain ⟨i9, hi, hz0, hz1, hz2⟩ := info_parts info_int
  have g63 : 0 + 1 ≤ maxLen := by unfold maxLen; omega
  have gby : (0 + 1) * 8 ≤ 140737488355328 := by omega
  have gba : 0 ≤ (w5.alloc (.cells #[.int .i64 (t : Int)] 3)).heap.size := Nat.zero_le _
  have hH : (w5.alloc (.cells #[.int .i64 (t : Int)] 3)).heap.size = w5.heap.size + 1 := by simp
  go_wp2_with (at_builtin; refine wpList_append_lies _ rfl _ _ 22 rfl 0 3 i9 (.int .i64 0) 1 8 Tryz.underlying22 hi hz0 hz1 hz2 rfl (by decide) (.slice none 0 0) 0 [] rfl (World.ownsRow_nil _ _ _ _) ⟨w5.heap.size, 0, none⟩ 1 1 [.int .i64 (t : Int)] rfl rfl (one_new _ _ _) (by simp [Value.oneCell']) (by decide) g63 gby gba _ hH ?_; intro gg cap2 wD hownD hgrow hat hltD; have HO := Lib.hid hownD; have VD := ((Up.refl w5).then_alloc (.cells #[.int .i64 (t : Int)] 3)).grown hgrow (fun k hk => by simp [Value.ownBlock] at hk); have P7 := Lib.hid (P6.out.up VD); have M7 := Lib.hid (M6.out.up VD); have E7 := Lib.hid (E6.out.up VD); have y2 := P7.out.cells.2.2.1; have y5 := P7.out.cells.2.2.2.2.2; have f2 := P7.out.top.frozen 2; have f5 := P7.out.top.frozen 5; have hgb : gg ≠ b := (by have h6 := P6.out.top.lt; rcases hat with h | h; simp [Value.ownBlock] at h; omega); clear hownD hgrow VD)
  go_end0
  have hg1 : gg = w5.heap.size + 1 := by
    rcases hat with h | h
    · simp [Value.ownBlock] at h
    · exact h
  have hsz := E6.out.size
  refine ⟨rfl, ⟨gg, cap2, by omega, ?_⟩, (M7.out.self HA.out.bp HA.out.bg _ _).self HA.out.bp HA.out.bg _ _, else_self (else_self E7.out (by simp)) (by simp)⟩
  exact (P7.out.items (v' := .slice (some ⟨gg, 0, none⟩) 1 cap2) (l' := [t]) (ints_of_own HO.out rfl rfl) (by simp [Value.ownBlock]; exact hgb)).next _
end
end Go.Proofs.YtalglhgngedjoaaGreat

/-
  Package stack: the machine Pop: the Load of a link, the exchange, Step, Done.
-/
namespace Go.Proofs.YtalglhgngedjoaaGreat
open Go.RowKit
open W64
set_option maxRecDepth 100000
section
variable {w w' : World} {p g q hd ln n b most : Nat} {s : St} {v v' : Value} {l l' : List Nat} {deep old : Int} {nx : Value}

theorem popDone_no {f : FuncId} (c5 : w.cell? ⟨b, 5, none⟩ = some (meth f b)) :
    Calls Tryz.prog 112 #[.pointer (some ⟨b, 0, none⟩)] w fun e w' => e = .returned (.bool false) ∧ w = w' := by
  unfold meth at c5
  have h1 := run_eql_func
  go_enter Tryz.func112, Tryz.ntmps112
  go_wp2_with fail
  go_ret
  exact ⟨rfl, rfl⟩
theorem popDone_yes (c5 : w.cell? ⟨b, 5, none⟩ = some .nilFunc) :
    Calls Tryz.prog 112 #[.pointer (some ⟨b, 0, none⟩)] w fun e w' => e = .returned (.bool true) ∧ w = w' := by
  have h1 := run_eql_nilFunc
  go_enter Tryz.func112, Tryz.ntmps112
  go_wp2_with fail
  go_ret
  exact ⟨rfl, rfl⟩
theorem popStep_end (c5 : w.cell? ⟨b, 5, none⟩ = some .nilFunc) :
    Calls Tryz.prog 111 #[.pointer (some ⟨b, 0, none⟩)] w fun e w' => e = .returned (.bool false) ∧ w = w' := by
  have h1 := Lib.hid c5
  go_enter Tryz.func111, Tryz.ntmps111
  go_wp2_with (go_at_call 112; refine (popDone_yes h1.out).mono ?_; rintro e w' ⟨rfl, rfl⟩)
  go_ret
  exact ⟨rfl, rfl⟩
theorem popStep_load {R : World → Prop} (c5 : w.cell? ⟨b, 5, none⟩ = some (meth 110 b)) (h : Calls Tryz.prog 110 #[.pointer (some ⟨b, 0, none⟩)] w fun e w' => e = .returned (.tuple #[]) ∧ R w') :
    Calls Tryz.prog 111 #[.pointer (some ⟨b, 0, none⟩)] w fun e w' => e = .returned (.bool true) ∧ R w' := by
  have h1 := Lib.hid c5
  have H := Lib.hid h
  unfold meth at c5
  clear h
  go_enter Tryz.func111, Tryz.ntmps111
  go_wp2_with (first
    | (go_at_call 112; refine (popDone_no h1.out).mono ?_; rintro e w' ⟨rfl, rfl⟩)
    | (go_at_call 110; refine H.out.mono ?_; rintro e w2 ⟨rfl, r2⟩))
  go_ret
  exact ⟨rfl, r2⟩
theorem popStep_link {R : World → Prop} (c5 : w.cell? ⟨b, 5, none⟩ = some (meth 130 b)) (h : Calls Tryz.prog 130 #[.pointer (some ⟨b, 0, none⟩)] w fun e w' => e = .returned (.tuple #[]) ∧ R w') :
    Calls Tryz.prog 111 #[.pointer (some ⟨b, 0, none⟩)] w fun e w' => e = .returned (.bool true) ∧ R w' := by
  have h1 := Lib.hid c5
  have H := Lib.hid h
  unfold meth at c5
  clear h
  go_enter Tryz.func111, Tryz.ntmps111
  go_wp2_with (first
    | (go_at_call 112; refine (popDone_no h1.out).mono ?_; rintro e w' ⟨rfl, rfl⟩)
    | (go_at_call 130; refine H.out.mono ?_; rintro e w2 ⟨rfl, r2⟩))
  go_ret
  exact ⟨rfl, r2⟩
theorem popStep_turn {R : World → Prop} (c5 : w.cell? ⟨b, 5, none⟩ = some (meth 139 b)) (h : Calls Tryz.prog 139 #[.pointer (some ⟨b, 0, none⟩)] w fun e w' => e = .returned (.tuple #[]) ∧ R w') :
    Calls Tryz.prog 111 #[.pointer (some ⟨b, 0, none⟩)] w fun e w' => e = .returned (.bool true) ∧ R w' := by
  have h1 := Lib.hid c5
  have H := Lib.hid h
  unfold meth at c5
  clear h
  go_enter Tryz.func111, Tryz.ntmps111
  go_wp2_with (first
    | (go_at_call 112; refine (popDone_no h1.out).mono ?_; rintro e w' ⟨rfl, rfl⟩)
    | (go_at_call 139; refine H.out.mono ?_; rintro e w2 ⟨rfl, r2⟩))
  go_ret
  exact ⟨rfl, r2⟩

set_option maxHeartbeats 1000000 in
theorem spop_in (m : Int) {most : Nat} (hm : min (max m 1) 8 = most) :
    Calls Tryz.prog 67 #[.pointer (some ⟨q, 0, none⟩), .int .i64 m] w fun e w' => e = .returned (.pointer (some ⟨w.heap.size, 0, none⟩)) ∧ PopAt w' w.heap.size q (.slice none 0 0) [] most 0 0 (meth 110 w.heap.size) ∧ Up w w' := by
  have hf := run_func
  have key : ∀ w1 : World, w1 = (w.alloc (.cells #[.pointer (some ⟨q, 0, none⟩), .int .i64 most, .slice none 0 0, .int .i64 0, .int .u64 0, meth 110 w.heap.size] 171)) → PopAt w1 w.heap.size q (.slice none 0 0) [] most 0 0 (meth 110 w.heap.size) ∧ Up w w1 := by
    rintro w1 rfl
    exact ⟨⟨Whole.new _ _ _, Ints.nil _, by simp [Value.ownBlock]⟩, Up.alloc _ _⟩
  have HK := Lib.hid key
  clear key
  rcases (show m < 1 ∨ m = 1 ∨ (1 < m ∧ m < 8) ∨ m = 8 ∨ 8 < m by omega) with h | rfl | ⟨h, h2⟩ | rfl | h
  · have e : (most : Int) = 1 := by omega
    rw [e] at HK
    clear hm e
    go_enter Tryz.func67, Tryz.ntmps67
    go_wp2_with fail
    go_ret
    exact ⟨rfl, HK.out _ rfl⟩
  · have e : (most : Int) = 1 := by omega
    rw [e] at HK
    clear hm e
    go_enter Tryz.func67, Tryz.ntmps67
    go_wp2_with fail
    go_ret
    exact ⟨rfl, HK.out _ rfl⟩
  · have e : (most : Int) = m := by omega
    rw [e] at HK
    clear hm e
    go_enter Tryz.func67, Tryz.ntmps67
    go_wp2_with fail
    go_ret
    exact ⟨rfl, HK.out _ rfl⟩
  · have e : (most : Int) = 8 := by omega
    rw [e] at HK
    clear hm e
    go_enter Tryz.func67, Tryz.ntmps67
    go_wp2_with fail
    go_ret
    exact ⟨rfl, HK.out _ rfl⟩
  · have e : (most : Int) = 8 := by omega
    rw [e] at HK
    clear hm e
    go_enter Tryz.func67, Tryz.ntmps67
    go_wp2_with fail
    go_ret
    exact ⟨rfl, HK.out _ rfl⟩
set_option maxHeartbeats 1000000 in
theorem got_not {f : FuncId} (c5 : w.cell? ⟨b, 5, none⟩ = some (meth f b)) :
    Calls Tryz.prog 113 #[.pointer (some ⟨b, 0, none⟩)] w fun e w' => e = .returned (.slice none 0 0) ∧ w = w' := by
  have h1 := Lib.hid c5
  go_enter Tryz.func113, Tryz.ntmps113
  go_wp2_with (go_at_call 112; refine (popDone_no h1.out).mono ?_; rintro e w' ⟨rfl, rfl⟩)
  go_ret
  exact ⟨rfl, rfl⟩
set_option maxHeartbeats 1000000 in
theorem got_nil (P : PopAt w b q (.slice none 0 0) l most deep old .nilFunc) :
    Calls Tryz.prog 113 #[.pointer (some ⟨b, 0, none⟩)] w fun e w' => e = .returned (.slice none 0 0) ∧ w = w' := by
  have h1 := Lib.hid P.cells.2.2.2.2.2
  have h2 := P.cells.2.2.1
  go_enter Tryz.func113, Tryz.ntmps113
  go_wp2_with (first
    | (go_at_call 112; refine (popDone_yes h1.out).mono ?_; rintro e w' ⟨rfl, rfl⟩)
    | (go_at_call 108; refine (clone_nil _).mono ?_; rintro e w' ⟨rfl, rfl⟩))
  go_ret
  exact ⟨rfl, rfl⟩
set_option maxHeartbeats 1000000 in
theorem got_in (P : PopAt w b q v l most deep old .nilFunc) (hl0 : l ≠ []) (hl : l.length ≤ 8192) :
    Calls Tryz.prog 113 #[.pointer (some ⟨b, 0, none⟩)] w fun e w' => ∃ r cap, e = .returned (.slice (some ⟨r, 0, none⟩) l.length cap) ∧ Ints w' (.slice (some ⟨r, 0, none⟩) l.length cap) (I l) ∧ w.heap.size ≤ r ∧ r < w'.heap.size ∧ Up w w' := by
  have h1 := Lib.hid P.cells.2.2.2.2.2
  have h2 := P.cells.2.2.1
  have hc := clone_in P.row.rd (by simpa [I] using hl0) (by rw [I_len]; exact hl)
  rw [I_len] at hc
  have HC := Lib.hid hc
  clear hc
  go_enter Tryz.func113, Tryz.ntmps113
  go_wp2_with (first
    | (go_at_call 112; refine (popDone_yes h1.out).mono ?_; rintro e w' ⟨rfl, rfl⟩)
    | (go_at_call 108; refine HC.out.mono ?_; rintro e w' ⟨r, cap, rfl, i1, i2, i3, i4⟩))
  go_ret
  exact ⟨r, cap, rfl, i1, i2, i3, i4⟩
end
end Go.Proofs.YtalglhgngedjoaaGreat

/-
  Package stack: Push begins.
-/
namespace Go.Proofs.YtalglhgngedjoaaGreat
open Go.RowKit
set_option maxRecDepth 100000
section
variable {w : World} {p g q hd ln n : Nat} {s : St} {l : List Nat} {v : Value}
set_option maxHeartbeats 2000000 in
theorem spush_no (E : Env w p g q hd ln n s) {xs : List Int} (R : Rd w v xs) (h : ¬ Good n xs) :
    Calls Tryz.prog 66 #[.pointer (some ⟨q, 0, none⟩), v] w fun e w' => e = .returned (.tuple #[.pointer none, .int .i64 1]) ∧ Up w w' := by
  have hc := Lib.hid (areItems_to E R (decide_eq_false h))
  clear E R h
  go_enter Tryz.func66, Tryz.ntmps66
  go_wp2_with (go_at_call 107; refine hc.out.mono ?_; rintro e w1 ⟨rfl, U1⟩)
  go_ret2
  exact ⟨rfl, U1⟩
set_option maxHeartbeats 2000000 in
theorem spush_nil (E : Env w p g q hd ln n s) :
    Calls Tryz.prog 66 #[.pointer (some ⟨q, 0, none⟩), .slice none 0 0] w fun e w' => ∃ b, e = .returned (.tuple #[.pointer (some ⟨b, 0, none⟩), .int .i64 0]) ∧ PushAt w' b q (.slice none 0 0) [] 0 0 .nilFunc ∧ w.heap.size ≤ b ∧ Up w w' := by
  have hc := Lib.hid (areItems_to E (Rd.nil w) (decide_eq_true (good_nil n)))
  clear E
  go_enter Tryz.func66, Tryz.ntmps66
  go_wp2_with (first
    | (go_at_call 107; refine hc.out.mono ?_; rintro e w1 ⟨rfl, U1⟩)
    | (go_at_call 108; refine (clone_nil _).mono ?_; rintro e w' ⟨rfl, rfl⟩))
  go_ret2
  exact ⟨w1.heap.size, rfl, ⟨Whole.new _ _ _, Ints.nil _, by simp [Value.ownBlock]⟩, U1.size, U1.then_alloc _⟩
set_option maxHeartbeats 2000000 in
theorem spush_yes (E : Env w p g q hd ln n s) (R : Rd w v (I l)) (h0 : l ≠ []) (h : Good n (I l)) (hl : l.length ≤ 8192) :
    Calls Tryz.prog 66 #[.pointer (some ⟨q, 0, none⟩), v] w fun e w' => ∃ b r cap, e = .returned (.tuple #[.pointer (some ⟨b, 0, none⟩), .int .i64 0]) ∧ PushAt w' b q (.slice (some ⟨r, 0, none⟩) l.length cap) l 0 0 (nxL b l.length 0) ∧ w.heap.size ≤ b ∧ w.heap.size ≤ r ∧ Up w w' := by
  have hc := Lib.hid (areItems_to E R (decide_eq_true h))
  have HR := Lib.hid R
  have lp := List.length_pos_iff.2 h0
  have hI : I l ≠ [] := by simpa [I] using h0
  have HI := Lib.hid hI
  obtain ⟨A, cap, e⟩ := R.slice
  rw [I_len] at e
  subst e
  have g1 : (0 : Int) < (l.length : Int) := by omega
  have key : ∀ {w1 w2 : World} {r cap' : Nat} {o : Obj}, Ints w2 (.slice (some ⟨r, 0, none⟩) (I l).length cap') (I l) → r < w2.heap.size → o = .cells #[.pointer (some ⟨q, 0, none⟩), .slice (some ⟨r, 0, none⟩) (I l).length cap', .int .i64 0, .int .u64 0, .nilFunc] 151 → w1 = w2.alloc o → PushAt w1 w2.heap.size q (.slice (some ⟨r, 0, none⟩) l.length cap') l 0 0 .nilFunc := by
    rintro w1 w2 r cap' o hi hr rfl rfl
    rw [I_len] at hi ⊢
    exact ⟨Whole.new _ _ _, hi.up (Up.alloc _ _), by simp [Value.ownBlock]; omega⟩
  have HK := Lib.hid (fun w1 w2 r cap' o => @key w1 w2 r cap' o)
  clear key hI R h E
  go_enter Tryz.func66, Tryz.ntmps66
  go_wp2_with (first
    | (go_at_call 107; refine hc.out.mono ?_; rintro e w1 ⟨rfl, U1⟩)
    | (go_at_call 108; refine (clone_in (HR.out.up U1) HI.out (by rw [I_len]; exact hl)).mono ?_; rintro e w2 ⟨r, cap', rfl, i1, i2, i3, i4⟩)
    | (go_at_call 109; refine (linkOrLoad_in (HK.out _ w2 r cap' _ i1 i3 rfl rfl) hl lp).mono ?_; rintro e w3 ⟨rfl, P3, E3⟩))
  go_ret2
  have u1 := U1.size
  have u4 := i4.size
  refine ⟨w2.heap.size, r, cap', rfl, P3, by omega, by omega, Else.up_new ((U1.trans i4).then_alloc _) E3 ?_⟩
  intro k hk; simp at hk; omega
end
end Go.Proofs.YtalglhgngedjoaaGreat

/-
  The machines of package stack as plain data: what they are behind each access, what the cells are. No function of the program is named here.
-/
namespace Go.Proofs.YtalglhgngedjoaaGreat
open Go.RowKit
open W64
set_option maxRecDepth 100000
/-- A Pop: 0: the Load of the head is next, 1: of a link, 2: the Cas. -/
structure Po where
  most : Nat
  i : Nat
  deep : Int
  old : Int
  l : List Nat
  fin : Bool
/-- A Push: i below len - 1: a link is next; len - 1: the Load of the head; len: the last link; len + 1: the Cas. -/
structure Pu where
  l : List Nat
  i : Nat
  old : Int
  fin : Bool
def Po.last (P : Po) : Nat := P.l.getD (P.l.length - 1) 0
def Po.go (n hd ln : Nat) (xs : List Int) (P : Po) : Po :=
  if P.i = 0 then
    if topN n (xs.getD hd 0) = -1 then ⟨P.most, 0, P.deep, xs.getD hd 0, [], true⟩
    else ⟨P.most, 1, P.deep, xs.getD hd 0, [(topN n (xs.getD hd 0)).toNat], false⟩
  else if P.i = 1 then
    if belowN n (xs.getD (ln + P.last) 0) = -1 ∨ P.l.length = P.most then ⟨P.most, 2, belowN n (xs.getD (ln + P.last) 0), P.old, P.l, false⟩
    else ⟨P.most, 1, belowN n (xs.getD (ln + P.last) 0), P.old, P.l ++ [(belowN n (xs.getD (ln + P.last) 0)).toNat], false⟩
  else ⟨P.most, 0, P.deep, P.old, P.l, decide (xs.getD hd 0 = P.old)⟩
def Po.xs (hd : Nat) (xs : List Int) (P : Po) : List Int := if P.i = 2 ∧ xs.getD hd 0 = P.old then xs.set hd (nextW P.old P.deep) else xs
def Pu.go (hd : Nat) (xs : List Int) (P : Pu) : Pu :=
  if P.i + 1 < P.l.length then ⟨P.l, P.i + 1, P.old, false⟩
  else if P.i + 1 = P.l.length then ⟨P.l, P.i + 1, xs.getD hd 0, false⟩
  else if P.i = P.l.length then ⟨P.l, P.i + 1, P.old, false⟩
  else ⟨P.l, P.l.length - 1, P.old, decide (xs.getD hd 0 = P.old)⟩
def Pu.xs (n hd ln : Nat) (xs : List Int) (P : Pu) : List Int :=
  if P.i + 1 < P.l.length then xs.set (ln + P.l.getD P.i 0) ((P.l.getD (P.i + 1) 0 : Nat) + 1)
  else if P.i + 1 = P.l.length then xs
  else if P.i = P.l.length then xs.set (ln + P.l.getD (P.l.length - 1) 0) (topN n P.old + 1)
  else if xs.getD hd 0 = P.old then xs.set hd (nextW P.old (P.l.getD 0 0 : Nat)) else xs
/-- What a Pop's numbers keep to. -/
structure Po.Ok (n : Nat) (P : Po) : Prop where
  m1 : 1 ≤ P.most
  m8 : P.most ≤ 8
  len : P.l.length ≤ P.most
  lt : ∀ x ∈ P.l, x < n
  i2 : P.i ≤ 2
  ne : P.i ≠ 0 → P.l ≠ []
  d2 : P.i = 2 → -1 ≤ P.deep ∧ P.deep < n
  o0 : 0 ≤ P.old
  o1 : P.old < 18446744073709551616
structure Pu.Ok (n : Nat) (P : Pu) : Prop where
  ne : P.l ≠ []
  lt : ∀ x ∈ P.l, x < n
  len : P.l.length ≤ 8192
  top : P.i ≤ P.l.length + 1
  o0 : 0 ≤ P.old
  o1 : P.old < 18446744073709551616
section
variable {n hd ln : Nat} {xs : List Int} {P : Po} {U : Pu}
abbrev Words (xs : List Int) : Prop := ∀ i : Nat, 0 ≤ xs.getD i 0 ∧ xs.getD i 0 < 18446744073709551616
theorem topN_nat {x : Int} (h0 : 0 ≤ x) (hn : 1 ≤ n) (h : ¬ topN n x = -1) : topN n x = ((topN n x).toNat : Int) ∧ (topN n x).toNat < n := by
  have := topN_in (n := n) h0 hn
  omega
theorem belowN_nat {x : Int} (h0 : 0 ≤ x) (hn : 1 ≤ n) (h : ¬ belowN n x = -1) : belowN n x = ((belowN n x).toNat : Int) ∧ (belowN n x).toNat < n := by
  have := belowN_in (n := n) h0 hn
  omega
theorem Po.Ok.go (K : P.Ok n) (hw : Words xs) (hn : 1 ≤ n) : (P.go n hd ln xs).Ok n := by
  obtain ⟨h1, h2, h3, h4, h5, h6, h7, h8, h9⟩ := K
  have a := hw hd
  have c := hw (ln + P.last)
  unfold Po.go
  split
  · split
    · exact ⟨h1, h2, by simp, by simp, by simp, by simp, by simp, a.1, a.2⟩
    · rename_i h
      have t := topN_nat a.1 hn h
      exact ⟨h1, h2, by simpa using h1, by simpa using t.2, by simp, by simp, by simp, a.1, a.2⟩
  · split
    · rename_i hi0 hi
      split
      · have b := belowN_in (n := n) c.1 hn
        exact ⟨h1, h2, h3, h4, by simp, fun _ => h6 (by omega), fun _ => b, h8, h9⟩
      · rename_i h
        have hb : ¬ belowN n (xs.getD (ln + P.last) 0) = -1 := fun e => h (.inl e)
        have hm : ¬ P.l.length = P.most := fun e => h (.inr e)
        have b := belowN_nat c.1 hn hb
        refine ⟨h1, h2, by simp; omega, ?_, by simp, by simp, by simp, h8, h9⟩
        intro x hx
        rcases List.mem_append.1 hx with hx | hx
        · exact h4 x hx
        · rw [List.mem_singleton] at hx; subst hx; exact b.2
    · exact ⟨h1, h2, h3, h4, by simp, by simp, by simp, h8, h9⟩
theorem Pu.Ok.go (K : U.Ok n) (hw : Words xs) : (U.go hd xs).Ok n := by
  obtain ⟨h1, h2, h3, h4, h5, h6⟩ := K
  have a := hw hd
  have hl := List.length_pos_iff.2 h1
  unfold Pu.go
  split
  · exact ⟨h1, h2, h3, by dsimp only; omega, h5, h6⟩
  · split
    · exact ⟨h1, h2, h3, by dsimp only; omega, a.1, a.2⟩
    · split
      · exact ⟨h1, h2, h3, by dsimp only; omega, h5, h6⟩
      · exact ⟨h1, h2, h3, by dsimp only; omega, h5, h6⟩
end
end Go.Proofs.YtalglhgngedjoaaGreat
