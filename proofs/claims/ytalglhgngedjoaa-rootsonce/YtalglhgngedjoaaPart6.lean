/-
  Texts beneath RootsOnce, part 6: Pop, PopEnds, PushNew, StkData, LayMath.
-/
import Derived.Test.YtalglhgngedjoaaPart5
import Derived.Deep.RegionHeldLaw
import Derived.WalkKit
import Derived.ProofKit
/-
  Package stack: the machine Pop.
-/
namespace Go.Proofs.Ytalglhgngedjoaa
open Go.RowKit
open W64
set_option maxRecDepth 100000

/-- A Pop lies at b, over the stack at q: how many at most; its items l lie at v; the one below; the head that it loaded; the next access. -/
structure PopAt (w : World) (b q : Nat) (v : Value) (l : List Nat) (most : Nat) (deep old : Int) (nx : Value) : Prop where
  top : Whole w b 99 #[.pointer (some ⟨q, 0, none⟩), .int .i64 most, v, .int .i64 deep, .int .u64 old, nx]
  row : Ints w v (I l)
  away : v.ownBlock ≠ some b
section
variable {w w' : World} {p g q hd ln n b most : Nat} {s : St} {v v' : Value} {l l' : List Nat} {deep old : Int} {nx : Value}
theorem PopAt.up (P : PopAt w b q v l most deep old nx) (u : Up w w') : PopAt w' b q v l most deep old nx := ⟨P.top.up u, P.row.up u, P.away⟩
theorem PopAt.else (P : PopAt w b q v l most deep old nx) {t : List Nat} (u : Else t w w') (h1 : b ∉ t) (h2 : Away v t) : PopAt w' b q v l most deep old nx := ⟨u.whole P.top h1, P.row.else u h2, P.away⟩
theorem PopAt.cells (P : PopAt w b q v l most deep old nx) : w.cell? ⟨b, 0, none⟩ = some (.pointer (some ⟨q, 0, none⟩)) ∧ w.cell? ⟨b, 1, none⟩ = some (.int .i64 most) ∧ w.cell? ⟨b, 2, none⟩ = some v ∧ w.cell? ⟨b, 3, none⟩ = some (.int .i64 deep) ∧ w.cell? ⟨b, 4, none⟩ = some (.int .u64 old) ∧ w.cell? ⟨b, 5, none⟩ = some nx :=
  ⟨P.top.cell rfl, P.top.cell rfl, P.top.cell rfl, P.top.cell rfl, P.top.cell rfl, P.top.cell rfl⟩
theorem row_self {w : World} {v : Value} {xs : List Int} (h : Ints w v xs) (a : v.ownBlock ≠ some b) {i : Nat} (u : Value) : Ints (w.setCell ⟨b, i, none⟩ u) v xs :=
  h.else (Else.set (s := [b]) (Else.refl [b] w) (p := ⟨b, i, none⟩) (.inl (by simp)) u) (by intro k hk; simp at hk; subst hk; exact a)
theorem PopAt.next (P : PopAt w b q v l most deep old nx) (nx' : Value) : PopAt (w.setCell ⟨b, 5, none⟩ nx') b q v l most deep old nx' := ⟨P.top.set 5 nx', row_self P.row P.away _, P.away⟩
theorem PopAt.seen (P : PopAt w b q v l most deep old nx) (old' : Int) : PopAt (w.setCell ⟨b, 4, none⟩ (.int .u64 old')) b q v l most deep old' nx := ⟨P.top.set 4 _, row_self P.row P.away _, P.away⟩
theorem PopAt.below (P : PopAt w b q v l most deep old nx) (d : Int) : PopAt (w.setCell ⟨b, 3, none⟩ (.int .i64 d)) b q v l most d old nx := ⟨P.top.set 3 _, row_self P.row P.away _, P.away⟩
theorem PopAt.items (P : PopAt w b q v l most deep old nx) (r : Ints w v' (I l')) (a : v'.ownBlock ≠ some b) : PopAt (w.setCell ⟨b, 2, none⟩ v') b q v' l' most deep old nx := ⟨P.top.set 2 _, row_self r a _, a⟩
theorem Mem.self (M : Mem w p g s) (h1 : b ≠ p) (h2 : b ≠ g) (i : Nat) (u : Value) : Mem (w.setCell ⟨b, i, none⟩ u) p g s :=
  M.else (l := [b]) (Else.set (Else.refl [b] w) (p := ⟨b, i, none⟩) (.inl (by simp)) u) (by simp [h1.symm]) (by simp [h2.symm])
theorem Env.self (E : Env w p g q hd ln n s) (h1 : b ≠ p) (h2 : b ≠ g) (h3 : b ≠ q) (i : Nat) (u : Value) : Env (w.setCell ⟨b, i, none⟩ u) p g q hd ln n s :=
  E.else (l := [b]) (Else.set (Else.refl [b] w) (p := ⟨b, i, none⟩) (.inl (by simp)) u) (by simp [h1.symm]) (by simp [h2.symm]) (by simp [h3.symm])

set_option maxHeartbeats 2000000 in
theorem pop_load0 (E : Env w p g q hd ln n s) (P : PopAt w b q v l most deep old nx) (A : Apart b p g q v) (ht : topN n (s.get hd) = -1) :
    Calls Try.prog 55 #[.pointer (some ⟨b, 0, none⟩)] w fun e w' => e = .returned (.tuple #[]) ∧ PopAt w' b q (.slice none 0 0) [] most deep (s.get hd) .nilFunc ∧ Mem w' p g (s.hit 1 hd (s.get hd) true) ∧ Else [b, p, g] w w' := by
  obtain ⟨c0, _, c2, c3, c4, c5⟩ := P.cells
  obtain ⟨k0, k1, _, _⟩ := E.cells
  have hq : q ∉ [p, g] := by simp [E.np, E.ng]
  have hb := A.b2
  have hbq := A.bq
  have hk := E.ok hd
  have hh := Lib.hid E.hasH
  have HE := Lib.hid E
  have HP := Lib.hid P
  have HA := Lib.hid A
  have HT := Lib.hid ht
  have hf := run_func
  clear P E A ht
  go_enter Try.func55, Try.ntmps55
  go_upto_region 0 with fail
  go_region_held3 (fun w' => w'.cell? ⟨b, 0, none⟩ = some (.pointer (some ⟨q, 0, none⟩)) ∧ w'.cell? ⟨q, 0, none⟩ = some (.pointer (some ⟨p, 0, none⟩)) ∧ w'.cell? ⟨q, 1, none⟩ = some (.int .i64 hd)) ((first | exact ⟨c0, k0, k1⟩ | exact ⟨E1.kept c0 hb, E1.kept k0 hq, E1.kept k1 hq⟩ | exact ⟨kept_set (off_ne (by decide)) (E1.kept c0 hb), kept_set (ad_ne hbq) (E1.kept k0 hq), kept_set (ad_ne hbq) (E1.kept k1 hq)⟩))
    (first
      | (go_at_call 50; refine (load_in (HE.out.mem.up (up_drew w)) hh.out).mono ?_; rintro e w1 ⟨rfl, M1, E1⟩; have d3 := E1.kept (p := ⟨b, 4, none⟩) c4 hb; have g3 := (HP.out.else ((Else.of_up (up_drew w)).trans E1) HA.out.b2 HA.out.v2).top.frozen 4))
  have HE1 := Lib.hid ((Else.of_up (up_drew w)).trans E1)
  have P2 := Lib.hid ((HP.out.else HE1.out HA.out.b2 HA.out.v2).seen (s.get hd))
  have EE := Lib.hid ((HE.out.turn M1 HE1.out (HE.out.ok.hit 1 hd true hk.1 hk.2) (hit_len _ _ _ _ _)).self HA.out.bp HA.out.bg HA.out.bq 4 (.int .u64 (s.get hd)))
  have E3 : Else [b, p, g] w (w1.setCell ⟨b, 4, none⟩ (.int .u64 (s.get hd))) := else_self (HE1.out.wide b) (by simp)
  have E3 := Lib.hid E3
  clear d3 g3 M1 E1 HE1 c0 c2 c3 c4 c5 k0 k1
  generalize w1.setCell ⟨b, 4, none⟩ (.int .u64 (s.get hd)) = w2 at *
  have j2 := P2.out.cells.2.2.1
  have f2 := P2.out.top.frozen 2
  go_upto_region 2 with fail
  have P3 := Lib.hid (P2.out.items (v' := .slice none 0 0) (l' := []) (Ints.nil _) (by simp [Value.ownBlock]))
  have EF := Lib.hid (EE.out.self HA.out.bp HA.out.bg HA.out.bq 2 (.slice none 0 0))
  have E4 : Else [b, p, g] w (w2.setCell ⟨b, 2, none⟩ (.slice none 0 0)) := else_self E3.out (by simp)
  have E4 := Lib.hid E4
  clear j2 f2 P2 EE E3
  generalize w2.setCell ⟨b, 2, none⟩ (.slice none 0 0) = w3 at *
  have r0 := P3.out.cells.1
  have r4 := P3.out.cells.2.2.2.2.1
  go_region_held3 (fun w' => w'.cell? ⟨b, 0, none⟩ = some (.pointer (some ⟨q, 0, none⟩)) ∧ w'.cell? ⟨b, 4, none⟩ = some (.int .u64 (s.get hd))) ((first | exact ⟨r0, r4⟩ | exact ⟨U5.kept r0, U5.kept r4⟩))
    (first
      | (go_at_call 73; refine (ofHead_to (EF.out.up (up_drew w3)) hk.1 hk.2 HT.out).mono ?_; rintro e w5 ⟨rfl, U5⟩))
  have V := (up_drew w3).trans U5
  have P6 := Lib.hid (P3.out.up V)
  have M6 := Lib.hid (EF.out.mem.up V)
  have E6 := Lib.hid (E4.out.up V)
  have j5 := P6.out.cells.2.2.2.2.2
  have f5 := P6.out.top.frozen 5
  clear r0 r4 V U5
  go_wp2_with fail
  refine bodyPost_ret (v := .tuple #[]) (by simp [results, Try.results55, go_sem]) rfl ?_
  exact ⟨rfl, P6.out.next _, M6.out.self HA.out.bp HA.out.bg _ _, else_self E6.out (by simp)⟩

set_option maxHeartbeats 2000000 in
theorem pop_load1 (E : Env w p g q hd ln n s) (P : PopAt w b q v l most deep old nx) (A : Apart b p g q v) {t : Nat} (ht : topN n (s.get hd) = t) :
    Calls Try.prog 55 #[.pointer (some ⟨b, 0, none⟩)] w fun e w' => e = .returned (.tuple #[]) ∧ (∃ r cap, w.heap.size ≤ r ∧ PopAt w' b q (.slice (some ⟨r, 0, none⟩) 1 cap) [t] most deep (s.get hd) (meth 74 b)) ∧ Mem w' p g (s.hit 1 hd (s.get hd) true) ∧ Else [b, p, g] w w' := by
  obtain ⟨c0, _, c2, c3, c4, c5⟩ := P.cells
  obtain ⟨k0, k1, _, _⟩ := E.cells
  have hq : q ∉ [p, g] := by simp [E.np, E.ng]
  have hb := A.b2
  have hbq := A.bq
  have hk := E.ok hd
  have hh := Lib.hid E.hasH
  have HE := Lib.hid E
  have HP := Lib.hid P
  have HA := Lib.hid A
  have HT := Lib.hid ht
  have hf := run_func
  have ht0 : ((t : Int) == -1) = false := by simp
  clear P E A ht
  go_enter Try.func55, Try.ntmps55
  go_upto_region 0 with fail
  go_region_held3 (fun w' => w'.cell? ⟨b, 0, none⟩ = some (.pointer (some ⟨q, 0, none⟩)) ∧ w'.cell? ⟨q, 0, none⟩ = some (.pointer (some ⟨p, 0, none⟩)) ∧ w'.cell? ⟨q, 1, none⟩ = some (.int .i64 hd)) ((first | exact ⟨c0, k0, k1⟩ | exact ⟨E1.kept c0 hb, E1.kept k0 hq, E1.kept k1 hq⟩ | exact ⟨kept_set (off_ne (by decide)) (E1.kept c0 hb), kept_set (ad_ne hbq) (E1.kept k0 hq), kept_set (ad_ne hbq) (E1.kept k1 hq)⟩))
    (first
      | (go_at_call 50; refine (load_in (HE.out.mem.up (up_drew w)) hh.out).mono ?_; rintro e w1 ⟨rfl, M1, E1⟩; have d3 := E1.kept (p := ⟨b, 4, none⟩) c4 hb; have g3 := (HP.out.else ((Else.of_up (up_drew w)).trans E1) HA.out.b2 HA.out.v2).top.frozen 4))
  have HE1 := Lib.hid ((Else.of_up (up_drew w)).trans E1)
  have P2 := Lib.hid ((HP.out.else HE1.out HA.out.b2 HA.out.v2).seen (s.get hd))
  have EE := Lib.hid ((HE.out.turn M1 HE1.out (HE.out.ok.hit 1 hd true hk.1 hk.2) (hit_len _ _ _ _ _)).self HA.out.bp HA.out.bg HA.out.bq 4 (.int .u64 (s.get hd)))
  have E3 : Else [b, p, g] w (w1.setCell ⟨b, 4, none⟩ (.int .u64 (s.get hd))) := else_self (HE1.out.wide b) (by simp)
  have E3 := Lib.hid E3
  clear d3 g3 M1 E1 HE1 c0 c2 c3 c4 c5 k0 k1
  generalize w1.setCell ⟨b, 4, none⟩ (.int .u64 (s.get hd)) = w2 at *
  have j2 := P2.out.cells.2.2.1
  have f2 := P2.out.top.frozen 2
  go_upto_region 2 with fail
  have P3 := Lib.hid (P2.out.items (v' := .slice none 0 0) (l' := []) (Ints.nil _) (by simp [Value.ownBlock]))
  have EF := Lib.hid (EE.out.self HA.out.bp HA.out.bg HA.out.bq 2 (.slice none 0 0))
  have E4 : Else [b, p, g] w (w2.setCell ⟨b, 2, none⟩ (.slice none 0 0)) := else_self E3.out (by simp)
  have E4 := Lib.hid E4
  clear j2 f2 P2 EE E3
  generalize w2.setCell ⟨b, 2, none⟩ (.slice none 0 0) = w3 at *
  have r0 := P3.out.cells.1
  have r4 := P3.out.cells.2.2.2.2.1
  go_region_held3 (fun w' => w'.cell? ⟨b, 0, none⟩ = some (.pointer (some ⟨q, 0, none⟩)) ∧ w'.cell? ⟨b, 4, none⟩ = some (.int .u64 (s.get hd))) ((first | exact ⟨r0, r4⟩ | exact ⟨U5.kept r0, U5.kept r4⟩))
    (first
      | (go_at_call 73; refine (ofHead_to (EF.out.up (up_drew w3)) hk.1 hk.2 HT.out).mono ?_; rintro e w5 ⟨rfl, U5⟩))
  have V := (up_drew w3).trans U5
  have P6 := Lib.hid (P3.out.up V)
  have M6 := Lib.hid (EF.out.mem.up V)
  have E6 := Lib.hid (E4.out.up V)
  clear r0 r4 V U5 P3 EF E4
  have j2 := P6.out.cells.2.2.1
  obtain ⟨i9, hi, hz0, hz1, hz2⟩ := info_parts info_int
  have g63 : 0 + 1 ≤ maxLen := by unfold maxLen; omega
  have gby : (0 + 1) * 8 ≤ 140737488355328 := by omega
  have gba : 0 ≤ (w5.alloc (.cells #[.int .i64 (t : Int)] 3)).heap.size := Nat.zero_le _
  have hH : (w5.alloc (.cells #[.int .i64 (t : Int)] 3)).heap.size = w5.heap.size + 1 := by simp
  go_wp2_with (at_builtin; refine wpList_append_lies _ rfl _ _ 22 rfl 0 3 i9 (.int .i64 0) 1 8 Try.underlying22 hi hz0 hz1 hz2 rfl (by decide) (.slice none 0 0) 0 [] rfl (World.ownsRow_nil _ _ _ _) ⟨w5.heap.size, 0, none⟩ 1 1 [.int .i64 (t : Int)] rfl rfl (one_new _ _ _) (by simp [Value.oneCell']) (by decide) g63 gby gba _ hH ?_; intro gg cap2 wD hownD hgrow hat hltD; have HO := Lib.hid hownD; have VD := ((Up.refl w5).then_alloc (.cells #[.int .i64 (t : Int)] 3)).grown hgrow (fun k hk => by simp [Value.ownBlock] at hk); have P7 := Lib.hid (P6.out.up VD); have M7 := Lib.hid (M6.out.up VD); have E7 := Lib.hid (E6.out.up VD); have y2 := P7.out.cells.2.2.1; have y5 := P7.out.cells.2.2.2.2.2; have f2 := P7.out.top.frozen 2; have f5 := P7.out.top.frozen 5; have hgb : gg ≠ b := (by have h6 := P6.out.top.lt; rcases hat with h | h; simp [Value.ownBlock] at h; omega); clear hownD hgrow VD)
  go_end0
  have hg1 : gg = w5.heap.size + 1 := by
    rcases hat with h | h
    · simp [Value.ownBlock] at h
    · exact h
  have hsz := E6.out.size
  refine ⟨rfl, ⟨gg, cap2, by omega, ?_⟩, (M7.out.self HA.out.bp HA.out.bg _ _).self HA.out.bp HA.out.bg _ _, else_self (else_self E7.out (by simp)) (by simp)⟩
  exact (P7.out.items (v' := .slice (some ⟨gg, 0, none⟩) 1 cap2) (l' := [t]) (ints_of_own HO.out rfl rfl) (by simp [Value.ownBlock]; exact hgb)).next _
end
end Go.Proofs.Ytalglhgngedjoaa

/-
  Package stack: the machine Pop: the Load of a link, the exchange, Step, Done.
-/
namespace Go.Proofs.Ytalglhgngedjoaa
open Go.RowKit
open W64
set_option maxRecDepth 100000
section
variable {w w' : World} {p g q hd ln n b most : Nat} {s : St} {v v' : Value} {l l' : List Nat} {deep old : Int} {nx : Value}

theorem popDone_no {f : FuncId} (c5 : w.cell? ⟨b, 5, none⟩ = some (meth f b)) :
    Calls Try.prog 57 #[.pointer (some ⟨b, 0, none⟩)] w fun e w' => e = .returned (.bool false) ∧ w = w' := by
  unfold meth at c5
  have h1 := run_eql_func
  go_enter Try.func57, Try.ntmps57
  go_wp2_with fail
  go_ret
  exact ⟨rfl, rfl⟩
theorem popDone_yes (c5 : w.cell? ⟨b, 5, none⟩ = some .nilFunc) :
    Calls Try.prog 57 #[.pointer (some ⟨b, 0, none⟩)] w fun e w' => e = .returned (.bool true) ∧ w = w' := by
  have h1 := run_eql_nilFunc
  go_enter Try.func57, Try.ntmps57
  go_wp2_with fail
  go_ret
  exact ⟨rfl, rfl⟩
theorem popStep_end (c5 : w.cell? ⟨b, 5, none⟩ = some .nilFunc) :
    Calls Try.prog 56 #[.pointer (some ⟨b, 0, none⟩)] w fun e w' => e = .returned (.bool false) ∧ w = w' := by
  have h1 := Lib.hid c5
  go_enter Try.func56, Try.ntmps56
  go_wp2_with (go_at_call 57; refine (popDone_yes h1.out).mono ?_; rintro e w' ⟨rfl, rfl⟩)
  go_ret
  exact ⟨rfl, rfl⟩
theorem popStep_load {R : World → Prop} (c5 : w.cell? ⟨b, 5, none⟩ = some (meth 55 b)) (h : Calls Try.prog 55 #[.pointer (some ⟨b, 0, none⟩)] w fun e w' => e = .returned (.tuple #[]) ∧ R w') :
    Calls Try.prog 56 #[.pointer (some ⟨b, 0, none⟩)] w fun e w' => e = .returned (.bool true) ∧ R w' := by
  have h1 := Lib.hid c5
  have H := Lib.hid h
  unfold meth at c5
  clear h
  go_enter Try.func56, Try.ntmps56
  go_wp2_with (first
    | (go_at_call 57; refine (popDone_no h1.out).mono ?_; rintro e w' ⟨rfl, rfl⟩)
    | (go_at_call 55; refine H.out.mono ?_; rintro e w2 ⟨rfl, r2⟩))
  go_ret
  exact ⟨rfl, r2⟩
theorem popStep_link {R : World → Prop} (c5 : w.cell? ⟨b, 5, none⟩ = some (meth 74 b)) (h : Calls Try.prog 74 #[.pointer (some ⟨b, 0, none⟩)] w fun e w' => e = .returned (.tuple #[]) ∧ R w') :
    Calls Try.prog 56 #[.pointer (some ⟨b, 0, none⟩)] w fun e w' => e = .returned (.bool true) ∧ R w' := by
  have h1 := Lib.hid c5
  have H := Lib.hid h
  unfold meth at c5
  clear h
  go_enter Try.func56, Try.ntmps56
  go_wp2_with (first
    | (go_at_call 57; refine (popDone_no h1.out).mono ?_; rintro e w' ⟨rfl, rfl⟩)
    | (go_at_call 74; refine H.out.mono ?_; rintro e w2 ⟨rfl, r2⟩))
  go_ret
  exact ⟨rfl, r2⟩
theorem popStep_turn {R : World → Prop} (c5 : w.cell? ⟨b, 5, none⟩ = some (meth 85 b)) (h : Calls Try.prog 85 #[.pointer (some ⟨b, 0, none⟩)] w fun e w' => e = .returned (.tuple #[]) ∧ R w') :
    Calls Try.prog 56 #[.pointer (some ⟨b, 0, none⟩)] w fun e w' => e = .returned (.bool true) ∧ R w' := by
  have h1 := Lib.hid c5
  have H := Lib.hid h
  unfold meth at c5
  clear h
  go_enter Try.func56, Try.ntmps56
  go_wp2_with (first
    | (go_at_call 57; refine (popDone_no h1.out).mono ?_; rintro e w' ⟨rfl, rfl⟩)
    | (go_at_call 85; refine H.out.mono ?_; rintro e w2 ⟨rfl, r2⟩))
  go_ret
  exact ⟨rfl, r2⟩

set_option maxHeartbeats 1000000 in
theorem spop_in (m : Int) {most : Nat} (hm : min (max m 1) 8 = most) :
    Calls Try.prog 33 #[.pointer (some ⟨q, 0, none⟩), .int .i64 m] w fun e w' => e = .returned (.pointer (some ⟨w.heap.size, 0, none⟩)) ∧ PopAt w' w.heap.size q (.slice none 0 0) [] most 0 0 (meth 55 w.heap.size) ∧ Up w w' := by
  have hf := run_func
  have key : ∀ w1 : World, w1 = (w.alloc (.cells #[.pointer (some ⟨q, 0, none⟩), .int .i64 most, .slice none 0 0, .int .i64 0, .int .u64 0, meth 55 w.heap.size] 99)) → PopAt w1 w.heap.size q (.slice none 0 0) [] most 0 0 (meth 55 w.heap.size) ∧ Up w w1 := by
    rintro w1 rfl
    exact ⟨⟨Whole.new _ _ _, Ints.nil _, by simp [Value.ownBlock]⟩, Up.alloc _ _⟩
  have HK := Lib.hid key
  clear key
  rcases (show m < 1 ∨ m = 1 ∨ (1 < m ∧ m < 8) ∨ m = 8 ∨ 8 < m by omega) with h | rfl | ⟨h, h2⟩ | rfl | h
  · have e : (most : Int) = 1 := by omega
    rw [e] at HK
    clear hm e
    go_enter Try.func33, Try.ntmps33
    go_wp2_with fail
    go_ret
    exact ⟨rfl, HK.out _ rfl⟩
  · have e : (most : Int) = 1 := by omega
    rw [e] at HK
    clear hm e
    go_enter Try.func33, Try.ntmps33
    go_wp2_with fail
    go_ret
    exact ⟨rfl, HK.out _ rfl⟩
  · have e : (most : Int) = m := by omega
    rw [e] at HK
    clear hm e
    go_enter Try.func33, Try.ntmps33
    go_wp2_with fail
    go_ret
    exact ⟨rfl, HK.out _ rfl⟩
  · have e : (most : Int) = 8 := by omega
    rw [e] at HK
    clear hm e
    go_enter Try.func33, Try.ntmps33
    go_wp2_with fail
    go_ret
    exact ⟨rfl, HK.out _ rfl⟩
  · have e : (most : Int) = 8 := by omega
    rw [e] at HK
    clear hm e
    go_enter Try.func33, Try.ntmps33
    go_wp2_with fail
    go_ret
    exact ⟨rfl, HK.out _ rfl⟩
set_option maxHeartbeats 1000000 in
theorem got_not {f : FuncId} (c5 : w.cell? ⟨b, 5, none⟩ = some (meth f b)) :
    Calls Try.prog 58 #[.pointer (some ⟨b, 0, none⟩)] w fun e w' => e = .returned (.slice none 0 0) ∧ w = w' := by
  have h1 := Lib.hid c5
  go_enter Try.func58, Try.ntmps58
  go_wp2_with (go_at_call 57; refine (popDone_no h1.out).mono ?_; rintro e w' ⟨rfl, rfl⟩)
  go_ret
  exact ⟨rfl, rfl⟩
set_option maxHeartbeats 1000000 in
theorem got_nil (P : PopAt w b q (.slice none 0 0) l most deep old .nilFunc) :
    Calls Try.prog 58 #[.pointer (some ⟨b, 0, none⟩)] w fun e w' => e = .returned (.slice none 0 0) ∧ w = w' := by
  have h1 := Lib.hid P.cells.2.2.2.2.2
  have h2 := P.cells.2.2.1
  go_enter Try.func58, Try.ntmps58
  go_wp2_with (first
    | (go_at_call 57; refine (popDone_yes h1.out).mono ?_; rintro e w' ⟨rfl, rfl⟩)
    | (go_at_call 75; refine (clone_nil _).mono ?_; rintro e w' ⟨rfl, rfl⟩))
  go_ret
  exact ⟨rfl, rfl⟩
set_option maxHeartbeats 1000000 in
theorem got_in (P : PopAt w b q v l most deep old .nilFunc) (hl0 : l ≠ []) (hl : l.length ≤ 8192) :
    Calls Try.prog 58 #[.pointer (some ⟨b, 0, none⟩)] w fun e w' => ∃ r cap, e = .returned (.slice (some ⟨r, 0, none⟩) l.length cap) ∧ Ints w' (.slice (some ⟨r, 0, none⟩) l.length cap) (I l) ∧ w.heap.size ≤ r ∧ r < w'.heap.size ∧ Up w w' := by
  have h1 := Lib.hid P.cells.2.2.2.2.2
  have h2 := P.cells.2.2.1
  have hc := clone_in P.row.rd (by simpa [I] using hl0) (by rw [I_len]; exact hl)
  rw [I_len] at hc
  have HC := Lib.hid hc
  clear hc
  go_enter Try.func58, Try.ntmps58
  go_wp2_with (first
    | (go_at_call 57; refine (popDone_yes h1.out).mono ?_; rintro e w' ⟨rfl, rfl⟩)
    | (go_at_call 75; refine HC.out.mono ?_; rintro e w' ⟨r, cap, rfl, i1, i2, i3, i4⟩))
  go_ret
  exact ⟨r, cap, rfl, i1, i2, i3, i4⟩
end
end Go.Proofs.Ytalglhgngedjoaa

/-
  Package stack: Push begins.
-/
namespace Go.Proofs.Ytalglhgngedjoaa
open Go.RowKit
set_option maxRecDepth 100000
section
variable {w : World} {p g q hd ln n : Nat} {s : St} {l : List Nat} {v : Value}
end
end Go.Proofs.Ytalglhgngedjoaa

/-
  The machines of package stack as plain data: what they are behind each access, what the cells are. No function of the program is named here.
-/
namespace Go.Proofs.Ytalglhgngedjoaa
open Go.RowKit
open W64
set_option maxRecDepth 100000
/-- A Pop: 0: the Load of the head is next, 1: of a link, 2: the Cas. -/
structure Po where
  most : Nat
  i : Nat
  deep : Int
  old : Int
  l : List Nat
  fin : Bool
/-- A Push: i below len - 1: a link is next; len - 1: the Load of the head; len: the last link; len + 1: the Cas. -/
structure Pu where
  l : List Nat
  i : Nat
  old : Int
  fin : Bool
def Po.last (P : Po) : Nat := P.l.getD (P.l.length - 1) 0
def Po.go (n hd ln : Nat) (xs : List Int) (P : Po) : Po :=
  if P.i = 0 then
    if topN n (xs.getD hd 0) = -1 then ⟨P.most, 0, P.deep, xs.getD hd 0, [], true⟩
    else ⟨P.most, 1, P.deep, xs.getD hd 0, [(topN n (xs.getD hd 0)).toNat], false⟩
  else if P.i = 1 then
    if belowN n (xs.getD (ln + P.last) 0) = -1 ∨ P.l.length = P.most then ⟨P.most, 2, belowN n (xs.getD (ln + P.last) 0), P.old, P.l, false⟩
    else ⟨P.most, 1, belowN n (xs.getD (ln + P.last) 0), P.old, P.l ++ [(belowN n (xs.getD (ln + P.last) 0)).toNat], false⟩
  else ⟨P.most, 0, P.deep, P.old, P.l, decide (xs.getD hd 0 = P.old)⟩
def Po.xs (hd : Nat) (xs : List Int) (P : Po) : List Int := if P.i = 2 ∧ xs.getD hd 0 = P.old then xs.set hd (nextW P.old P.deep) else xs
def Pu.go (hd : Nat) (xs : List Int) (P : Pu) : Pu :=
  if P.i + 1 < P.l.length then ⟨P.l, P.i + 1, P.old, false⟩
  else if P.i + 1 = P.l.length then ⟨P.l, P.i + 1, xs.getD hd 0, false⟩
  else if P.i = P.l.length then ⟨P.l, P.i + 1, P.old, false⟩
  else ⟨P.l, P.l.length - 1, P.old, decide (xs.getD hd 0 = P.old)⟩
def Pu.xs (n hd ln : Nat) (xs : List Int) (P : Pu) : List Int :=
  if P.i + 1 < P.l.length then xs.set (ln + P.l.getD P.i 0) ((P.l.getD (P.i + 1) 0 : Nat) + 1)
  else if P.i + 1 = P.l.length then xs
  else if P.i = P.l.length then xs.set (ln + P.l.getD (P.l.length - 1) 0) (topN n P.old + 1)
  else if xs.getD hd 0 = P.old then xs.set hd (nextW P.old (P.l.getD 0 0 : Nat)) else xs
/-- What a Pop's numbers keep to. -/
structure Po.Ok (n : Nat) (P : Po) : Prop where
  m1 : 1 ≤ P.most
  m8 : P.most ≤ 8
  len : P.l.length ≤ P.most
  lt : ∀ x ∈ P.l, x < n
  i2 : P.i ≤ 2
  ne : P.i ≠ 0 → P.l ≠ []
  d2 : P.i = 2 → -1 ≤ P.deep ∧ P.deep < n
  o0 : 0 ≤ P.old
  o1 : P.old < 18446744073709551616
structure Pu.Ok (n : Nat) (P : Pu) : Prop where
  ne : P.l ≠ []
  lt : ∀ x ∈ P.l, x < n
  len : P.l.length ≤ 8192
  top : P.i ≤ P.l.length + 1
  o0 : 0 ≤ P.old
  o1 : P.old < 18446744073709551616
section
variable {n hd ln : Nat} {xs : List Int} {P : Po} {U : Pu}
abbrev Words (xs : List Int) : Prop := ∀ i : Nat, 0 ≤ xs.getD i 0 ∧ xs.getD i 0 < 18446744073709551616
theorem topN_nat {x : Int} (h0 : 0 ≤ x) (hn : 1 ≤ n) (h : ¬ topN n x = -1) : topN n x = ((topN n x).toNat : Int) ∧ (topN n x).toNat < n := by
  have := topN_in (n := n) h0 hn
  omega
theorem belowN_nat {x : Int} (h0 : 0 ≤ x) (hn : 1 ≤ n) (h : ¬ belowN n x = -1) : belowN n x = ((belowN n x).toNat : Int) ∧ (belowN n x).toNat < n := by
  have := belowN_in (n := n) h0 hn
  omega
theorem Po.Ok.go (K : P.Ok n) (hw : Words xs) (hn : 1 ≤ n) : (P.go n hd ln xs).Ok n := by
  obtain ⟨h1, h2, h3, h4, h5, h6, h7, h8, h9⟩ := K
  have a := hw hd
  have c := hw (ln + P.last)
  unfold Po.go
  split
  · split
    · exact ⟨h1, h2, by simp, by simp, by simp, by simp, by simp, a.1, a.2⟩
    · rename_i h
      have t := topN_nat a.1 hn h
      exact ⟨h1, h2, by simpa using h1, by simpa using t.2, by simp, by simp, by simp, a.1, a.2⟩
  · split
    · rename_i hi0 hi
      split
      · have b := belowN_in (n := n) c.1 hn
        exact ⟨h1, h2, h3, h4, by simp, fun _ => h6 (by omega), fun _ => b, h8, h9⟩
      · rename_i h
        have hb : ¬ belowN n (xs.getD (ln + P.last) 0) = -1 := fun e => h (.inl e)
        have hm : ¬ P.l.length = P.most := fun e => h (.inr e)
        have b := belowN_nat c.1 hn hb
        refine ⟨h1, h2, by simp; omega, ?_, by simp, by simp, by simp, h8, h9⟩
        intro x hx
        rcases List.mem_append.1 hx with hx | hx
        · exact h4 x hx
        · rw [List.mem_singleton] at hx; subst hx; exact b.2
    · exact ⟨h1, h2, h3, h4, by simp, by simp, by simp, h8, h9⟩
theorem Pu.Ok.go (K : U.Ok n) (hw : Words xs) : (U.go hd xs).Ok n := by
  obtain ⟨h1, h2, h3, h4, h5, h6⟩ := K
  have a := hw hd
  have hl := List.length_pos_iff.2 h1
  unfold Pu.go
  split
  · exact ⟨h1, h2, h3, by dsimp only; omega, h5, h6⟩
  · split
    · exact ⟨h1, h2, h3, by dsimp only; omega, a.1, a.2⟩
    · split
      · exact ⟨h1, h2, h3, by dsimp only; omega, h5, h6⟩
      · exact ⟨h1, h2, h3, by dsimp only; omega, h5, h6⟩
end
end Go.Proofs.Ytalglhgngedjoaa

/-
  Chapter 4 in plain numbers: configurations, which cell is what. No program is named here.
-/
namespace Go.Proofs.Ytalglhgngedjoaa

/-- A configuration: workers, chunks, words, slots, cache, batch. -/
structure Cf where
  wk : Int
  ch : Int
  wo : Int
  sl : Int
  ca : Int
  ba : Int

/-- It may be. -/
def Cf.May (c : Cf) : Prop := (1 ≤ c.wk ∧ c.wk ≤ 64) ∧ (1 ≤ c.ch ∧ c.ch ≤ 4096) ∧ (8 ≤ c.wo ∧ c.wo ≤ 1024 ∧ c.wo % 8 = 0) ∧ (1 ≤ c.sl ∧ c.sl ≤ 4096) ∧ (0 ≤ c.ca ∧ c.ca ≤ 64) ∧ (1 ≤ c.ba ∧ c.ba ≤ 8)
instance (c : Cf) : Decidable c.May := by unfold Cf.May; infer_instance
def mayB (c : Cf) : Bool := decide c.May
theorem mayB_iff {c : Cf} : mayB c = true ↔ c.May := by simp [mayB]
theorem mayB_not {c : Cf} : mayB c = false ↔ ¬ c.May := by simp [mayB]

theorem dec_no {p : Prop} [Decidable p] (h : ¬ p) : decide p = false := by simp [h]
theorem dec_yes {p : Prop} [Decidable p] (h : p) : decide p = true := by simp [h]
/-- The ways in which it may be or not, test by test. -/
theorem may_ways (c : Cf) :
    (decide (1 ≤ c.wk ∧ c.wk ≤ 64) = false ∧ mayB c = false) ∨
    (decide (1 ≤ c.wk ∧ c.wk ≤ 64) = true ∧ decide (1 ≤ c.ch ∧ c.ch ≤ 4096) = false ∧ mayB c = false) ∨
    (decide (1 ≤ c.wk ∧ c.wk ≤ 64) = true ∧ decide (1 ≤ c.ch ∧ c.ch ≤ 4096) = true ∧ decide (8 ≤ c.wo ∧ c.wo ≤ 1024) = false ∧ mayB c = false) ∨
    (decide (1 ≤ c.wk ∧ c.wk ≤ 64) = true ∧ decide (1 ≤ c.ch ∧ c.ch ≤ 4096) = true ∧ decide (8 ≤ c.wo ∧ c.wo ≤ 1024) = true ∧ 8 ≤ c.wo ∧ c.wo ≤ 1024 ∧ ¬ c.wo % 8 = 0 ∧ mayB c = false) ∨
    (decide (1 ≤ c.wk ∧ c.wk ≤ 64) = true ∧ decide (1 ≤ c.ch ∧ c.ch ≤ 4096) = true ∧ decide (8 ≤ c.wo ∧ c.wo ≤ 1024) = true ∧ 8 ≤ c.wo ∧ c.wo ≤ 1024 ∧ c.wo % 8 = 0 ∧ decide (1 ≤ c.sl ∧ c.sl ≤ 4096) = false ∧ mayB c = false) ∨
    (decide (1 ≤ c.wk ∧ c.wk ≤ 64) = true ∧ decide (1 ≤ c.ch ∧ c.ch ≤ 4096) = true ∧ decide (8 ≤ c.wo ∧ c.wo ≤ 1024) = true ∧ 8 ≤ c.wo ∧ c.wo ≤ 1024 ∧ c.wo % 8 = 0 ∧ decide (1 ≤ c.sl ∧ c.sl ≤ 4096) = true ∧ decide (0 ≤ c.ca ∧ c.ca ≤ 64) = false ∧ mayB c = false) ∨
    (decide (1 ≤ c.wk ∧ c.wk ≤ 64) = true ∧ decide (1 ≤ c.ch ∧ c.ch ≤ 4096) = true ∧ decide (8 ≤ c.wo ∧ c.wo ≤ 1024) = true ∧ 8 ≤ c.wo ∧ c.wo ≤ 1024 ∧ c.wo % 8 = 0 ∧ decide (1 ≤ c.sl ∧ c.sl ≤ 4096) = true ∧ decide (0 ≤ c.ca ∧ c.ca ≤ 64) = true ∧ decide (1 ≤ c.ba ∧ c.ba ≤ 8) = mayB c) := by
  by_cases q1 : 1 ≤ c.wk ∧ c.wk ≤ 64
  · by_cases q2 : 1 ≤ c.ch ∧ c.ch ≤ 4096
    · by_cases q3 : 8 ≤ c.wo ∧ c.wo ≤ 1024
      · by_cases q4 : c.wo % 8 = 0
        · by_cases q5 : 1 ≤ c.sl ∧ c.sl ≤ 4096
          · by_cases q6 : 0 ≤ c.ca ∧ c.ca ≤ 64
            · refine .inr (.inr (.inr (.inr (.inr (.inr ⟨dec_yes q1, dec_yes q2, dec_yes q3, q3.1, q3.2, q4, dec_yes q5, dec_yes q6, ?_⟩)))))
              by_cases q7 : 1 ≤ c.ba ∧ c.ba ≤ 8
              · rw [dec_yes q7]; exact (mayB_iff.2 ⟨q1, q2, ⟨q3.1, q3.2, q4⟩, q5, q6, q7⟩).symm
              · rw [dec_no q7]; exact (mayB_not.2 fun m => q7 m.2.2.2.2.2).symm
            · exact .inr (.inr (.inr (.inr (.inr (.inl ⟨dec_yes q1, dec_yes q2, dec_yes q3, q3.1, q3.2, q4, dec_yes q5, dec_no q6, mayB_not.2 fun m => q6 m.2.2.2.2.1⟩)))))
          · exact .inr (.inr (.inr (.inr (.inl ⟨dec_yes q1, dec_yes q2, dec_yes q3, q3.1, q3.2, q4, dec_no q5, mayB_not.2 fun m => q5 m.2.2.2.1⟩))))
        · exact .inr (.inr (.inr (.inl ⟨dec_yes q1, dec_yes q2, dec_yes q3, q3.1, q3.2, q4, mayB_not.2 fun m => q4 m.2.2.1.2.2⟩)))
      · exact .inr (.inr (.inl ⟨dec_yes q1, dec_yes q2, dec_no q3, mayB_not.2 fun m => q3 ⟨m.2.2.1.1, m.2.2.1.2.1⟩⟩))
    · exact .inr (.inl ⟨dec_yes q1, dec_no q2, mayB_not.2 fun m => q2 m.2.1⟩)
  · exact .inl ⟨dec_no q1, mayB_not.2 fun m => q1 m.1⟩

/-- Where the words begin. -/
def fwN (c : Cf) : Int := 3 + c.wk + 2 * c.sl + c.ch
def lenN (c : Cf) : Int := if mayB c = true then fwN c + c.ch * c.wo else 0
def atN (c : Cf) (first many i : Int) : Int := if mayB c = true ∧ 0 ≤ i ∧ i < many then first + i else -1
def lpinN (c : Cf) (i : Int) : Int := atN c 3 c.wk i
def lrootN (c : Cf) (i : Int) : Int := atN c (3 + c.wk) c.sl i
def lslotN (c : Cf) (i : Int) : Int := atN c (3 + c.wk + c.sl) c.sl i
def llinkN (c : Cf) (i : Int) : Int := atN c (3 + c.wk + 2 * c.sl) c.ch i
def lwordN (c : Cf) (k i : Int) : Int := if mayB c = true ∧ (0 ≤ k ∧ k < c.ch) ∧ 0 ≤ i ∧ i < c.wo then fwN c + k * c.wo + i else -1
/-- What a cell is. -/
def whatT (c : Cf) (x : Int) : Int × Int × Int :=
  if x < 0 ∨ lenN c ≤ x then (0, 0, 0) else if x < 2 then (1, x, 0) else if x = 2 then (2, 0, 0)
  else if x < 3 + c.wk then (3, x - 3, 0) else if x < 3 + c.wk + c.sl then (4, x - (3 + c.wk), 0)
  else if x < 3 + c.wk + 2 * c.sl then (5, x - (3 + c.wk + c.sl), 0) else if x < fwN c then (6, x - (3 + c.wk + 2 * c.sl), 0)
  else (7, (x - fwN c) / c.wo, (x - fwN c) % c.wo)

theorem lenN_no {c : Cf} (h : mayB c = false) : lenN c = 0 := by unfold lenN; rw [h]; rfl
theorem lenN_is {c : Cf} (h : mayB c = true) : lenN c = fwN c + c.ch * c.wo := by unfold lenN; rw [h]; rfl
theorem atN_no {c : Cf} {f m i : Int} (h : mayB c = false ∨ ¬ (0 ≤ i ∧ i < m)) : atN c f m i = -1 := by
  unfold atN
  rcases h with h | h
  · rw [h]; rfl
  · rw [if_neg (fun h1 => h h1.2)]
theorem atN_is {c : Cf} {f m i : Int} (h : mayB c = true) (h0 : 0 ≤ i) (h1 : i < m) : atN c f m i = f + i := by
  unfold atN; rw [if_pos ⟨h, h0, h1⟩]
theorem lwordN_no {c : Cf} {k i : Int} (h : mayB c = false ∨ ¬ (0 ≤ k ∧ k < c.ch) ∨ ¬ (0 ≤ i ∧ i < c.wo)) : lwordN c k i = -1 := by
  unfold lwordN
  rcases h with h | h | h
  · rw [h]; rfl
  · rw [if_neg (fun h1 => h h1.2.1)]
  · rw [if_neg (fun h1 => h h1.2.2)]
theorem lwordN_is {c : Cf} {k i : Int} (h : mayB c = true) (h0 : 0 ≤ k) (h1 : k < c.ch) (h2 : 0 ≤ i) (h3 : i < c.wo) : lwordN c k i = fwN c + k * c.wo + i := by
  unfold lwordN; rw [if_pos ⟨h, ⟨h0, h1⟩, h2, h3⟩]
/-- A product of two numbers that are small. -/
theorem mul_in {a b A B : Int} (a0 : 0 ≤ a) (a1 : a ≤ A) (b0 : 0 ≤ b) (b1 : b ≤ B) : 0 ≤ a * b ∧ a * b ≤ A * B :=
  ⟨Int.mul_nonneg a0 b0, Int.mul_le_mul a1 b1 b0 (by omega)⟩
/-- The rows of words: row k ends where the next one begins. -/
theorem row_in {a n b i : Int} (a0 : 0 ≤ a) (a1 : a < n) (b0 : 0 ≤ i) (b1 : i < b) : 0 ≤ a * b + i ∧ a * b + i < n * b := by
  have h1 := Int.mul_nonneg a0 (show 0 ≤ b by omega)
  have h2 := Int.mul_le_mul_of_nonneg_right (show a + 1 ≤ n by omega) (show 0 ≤ b by omega)
  rw [Int.add_mul] at h2
  omega

theorem len_may {c : Cf} {x : Int} (h0 : 0 ≤ x) (h1 : x < lenN c) : mayB c = true := by
  cases hm : mayB c
  · rw [lenN_no hm] at h1; omega
  · rfl
/-- The ways in which a cell may be something. -/
theorem what_ways (c : Cf) (x : Int) :
    (x < 0 ∧ whatT c x = (0, 0, 0)) ∨ (0 ≤ x ∧ lenN c ≤ x ∧ whatT c x = (0, 0, 0)) ∨
    (0 ≤ x ∧ x < lenN c ∧ mayB c = true ∧ ((x < 2 ∧ whatT c x = (1, x, 0)) ∨ (x = 2 ∧ whatT c x = (2, 0, 0)) ∨
      (3 ≤ x ∧ x < 3 + c.wk ∧ whatT c x = (3, x - 3, 0)) ∨ (3 + c.wk ≤ x ∧ x < 3 + c.wk + c.sl ∧ whatT c x = (4, x - (3 + c.wk), 0)) ∨
      (3 + c.wk + c.sl ≤ x ∧ x < 3 + c.wk + 2 * c.sl ∧ whatT c x = (5, x - (3 + c.wk + c.sl), 0)) ∨
      (3 + c.wk + 2 * c.sl ≤ x ∧ x < fwN c ∧ whatT c x = (6, x - (3 + c.wk + 2 * c.sl), 0)) ∨
      (fwN c ≤ x ∧ whatT c x = (7, (x - fwN c) / c.wo, (x - fwN c) % c.wo)))) := by
  unfold whatT
  by_cases q0 : x < 0
  · exact .inl ⟨q0, if_pos (.inl q0)⟩
  by_cases q1 : lenN c ≤ x
  · exact .inr (.inl ⟨by omega, q1, if_pos (.inr q1)⟩)
  have hm := len_may (c := c) (x := x) (by omega) (by omega)
  refine .inr (.inr ⟨by omega, by omega, hm, ?_⟩)
  rw [if_neg (by omega)]
  by_cases q2 : x < 2
  · exact .inl ⟨q2, if_pos q2⟩
  rw [if_neg q2]
  by_cases q3 : x = 2
  · exact .inr (.inl ⟨q3, if_pos q3⟩)
  rw [if_neg q3]
  by_cases q4 : x < 3 + c.wk
  · exact .inr (.inr (.inl ⟨by omega, q4, if_pos q4⟩))
  rw [if_neg q4]
  by_cases q5 : x < 3 + c.wk + c.sl
  · exact .inr (.inr (.inr (.inl ⟨by omega, q5, if_pos q5⟩)))
  rw [if_neg q5]
  by_cases q6 : x < 3 + c.wk + 2 * c.sl
  · exact .inr (.inr (.inr (.inr (.inl ⟨by omega, q6, if_pos q6⟩))))
  rw [if_neg q6]
  by_cases q7 : x < fwN c
  · exact .inr (.inr (.inr (.inr (.inr (.inl ⟨by omega, q7, if_pos q7⟩)))))
  rw [if_neg q7]
  exact .inr (.inr (.inr (.inr (.inr (.inr ⟨by omega, rfl⟩)))))
theorem word_ways (c : Cf) (k i : Int) :
    (mayB c = false ∧ lwordN c k i = -1) ∨ (mayB c = true ∧ ¬ (0 ≤ k ∧ k ≤ c.ch - 1) ∧ lwordN c k i = -1) ∨ (mayB c = true ∧ (0 ≤ k ∧ k ≤ c.ch - 1) ∧ ¬ (0 ≤ i ∧ i ≤ c.wo - 1) ∧ lwordN c k i = -1) ∨
    (mayB c = true ∧ (0 ≤ k ∧ k ≤ c.ch - 1) ∧ (0 ≤ i ∧ i ≤ c.wo - 1) ∧ lwordN c k i = fwN c + k * c.wo + i) := by
  cases hm : mayB c
  · exact .inl ⟨rfl, lwordN_no (.inl hm)⟩
  by_cases q1 : 0 ≤ k ∧ k ≤ c.ch - 1
  · by_cases q2 : 0 ≤ i ∧ i ≤ c.wo - 1
    · exact .inr (.inr (.inr ⟨rfl, q1, q2, lwordN_is hm q1.1 (by omega) q2.1 (by omega)⟩))
    · exact .inr (.inr (.inl ⟨rfl, q1, q2, lwordN_no (.inr (.inr (by omega)))⟩))
  · exact .inr (.inl ⟨rfl, q1, lwordN_no (.inr (.inl (by omega)))⟩)
/-- A configuration that may be: its numbers, and those that are reckoned from them, are small. -/
theorem may_small {c : Cf} (hm : mayB c = true) : (1 ≤ c.wk ∧ c.wk ≤ 64) ∧ (1 ≤ c.ch ∧ c.ch ≤ 4096) ∧ (8 ≤ c.wo ∧ c.wo ≤ 1024) ∧ (1 ≤ c.sl ∧ c.sl ≤ 4096) ∧ (7 ≤ fwN c ∧ fwN c ≤ 20000) ∧ (8 ≤ c.ch * c.wo ∧ c.ch * c.wo ≤ 4194304) := by
  obtain ⟨p1, p2, ⟨p3, p4, _⟩, p5, _⟩ := mayB_iff.1 hm
  have h := Int.mul_le_mul p2.2 p4 (by omega) (by omega)
  have h2 := Int.mul_le_mul p2.1 p3 (by omega) (by omega)
  refine ⟨p1, p2, ⟨p3, p4⟩, p5, ?_, by omega⟩
  unfold fwN; omega
theorem lenN_small {c : Cf} (hm : mayB c = true) : 15 ≤ lenN c ∧ lenN c ≤ 5000000 := by
  obtain ⟨_, _, _, _, _, _⟩ := may_small hm
  rw [lenN_is hm]; omega

theorem pin_back {c : Cf} {x : Int} (hm : mayB c = true) (h0 : 3 ≤ x) (h1 : x < 3 + c.wk) : lpinN c (x - 3) = x := by
  unfold lpinN; rw [atN_is hm (by omega) (by omega)]; omega
theorem root_back {c : Cf} {x : Int} (hm : mayB c = true) (h0 : 3 + c.wk ≤ x) (h1 : x < 3 + c.wk + c.sl) : lrootN c (x - (3 + c.wk)) = x := by
  unfold lrootN; rw [atN_is hm (by omega) (by omega)]; omega
theorem slot_back {c : Cf} {x : Int} (hm : mayB c = true) (h0 : 3 + c.wk + c.sl ≤ x) (h1 : x < 3 + c.wk + 2 * c.sl) : lslotN c (x - (3 + c.wk + c.sl)) = x := by
  unfold lslotN; rw [atN_is hm (by omega) (by omega)]; omega
theorem link_back {c : Cf} {x : Int} (hm : mayB c = true) (h0 : 3 + c.wk + 2 * c.sl ≤ x) (h1 : x < fwN c) : llinkN c (x - (3 + c.wk + 2 * c.sl)) = x := by
  unfold fwN at h1
  unfold llinkN; rw [atN_is hm (by omega) (by omega)]; omega
/-- Of a word of the rows: which row, where in it. -/
theorem row_of {y n b : Int} (b0 : 0 < b) (y0 : 0 ≤ y) (y1 : y < n * b) : (0 ≤ y / b ∧ y / b < n) ∧ (0 ≤ y % b ∧ y % b < b) ∧ y / b * b + y % b = y :=
  ⟨⟨Int.ediv_nonneg y0 (by omega), Int.ediv_lt_of_lt_mul b0 y1⟩, ⟨Int.emod_nonneg _ (by omega), Int.emod_lt_of_pos _ b0⟩, Int.ediv_mul_add_emod y b⟩
theorem word_back {c : Cf} {x : Int} (hm : mayB c = true) (h0 : fwN c ≤ x) (h1 : x < lenN c) : lwordN c ((x - fwN c) / c.wo) ((x - fwN c) % c.wo) = x := by
  obtain ⟨_, _, ⟨w0, _⟩, _⟩ := may_small hm
  rw [lenN_is hm] at h1
  obtain ⟨⟨a0, a1⟩, ⟨b0, b1⟩, e⟩ := row_of (y := x - fwN c) (n := c.ch) (b := c.wo) (by omega) (by omega) (by omega)
  rw [lwordN_is hm a0 a1 b0 b1, Int.add_assoc, e]; omega
end Go.Proofs.Ytalglhgngedjoaa
