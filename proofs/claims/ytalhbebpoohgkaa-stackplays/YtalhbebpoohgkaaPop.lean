/-
  Package stack: the machine Pop.
-/
import Derived.Test.YtalhbebpoohgkaaPush3
import Derived.Deep.RegionHeldLaw
namespace Go.Proofs.Ytalhbebpoohgkaa
open Go.RowKit
open W64
set_option maxRecDepth 100000

/-- A Pop lies at b, over the stack at q: how many at most; its items l lie at v; the one below; the head that it loaded; the next access. -/
structure PopAt (w : World) (b q : Nat) (v : Value) (l : List Nat) (most : Nat) (deep old : Int) (nx : Value) : Prop where
  top : Whole w b 93 #[.pointer (some ⟨q, 0, none⟩), .int .i64 most, v, .int .i64 deep, .int .u64 old, nx]
  row : Ints w v (I l)
  away : v.ownBlock ≠ some b
section
variable {w w' : World} {p g q hd ln n b most : Nat} {s : St} {v v' : Value} {l l' : List Nat} {deep old : Int} {nx : Value}
theorem PopAt.up (P : PopAt w b q v l most deep old nx) (u : Up w w') : PopAt w' b q v l most deep old nx := ⟨P.top.up u, P.row.up u, P.away⟩
theorem PopAt.else (P : PopAt w b q v l most deep old nx) {t : List Nat} (u : Else t w w') (h1 : b ∉ t) (h2 : Away v t) : PopAt w' b q v l most deep old nx := ⟨u.whole P.top h1, P.row.else u h2, P.away⟩
theorem PopAt.cells (P : PopAt w b q v l most deep old nx) : w.cell? ⟨b, 0, none⟩ = some (.pointer (some ⟨q, 0, none⟩)) ∧ w.cell? ⟨b, 1, none⟩ = some (.int .i64 most) ∧ w.cell? ⟨b, 2, none⟩ = some v ∧ w.cell? ⟨b, 3, none⟩ = some (.int .i64 deep) ∧ w.cell? ⟨b, 4, none⟩ = some (.int .u64 old) ∧ w.cell? ⟨b, 5, none⟩ = some nx :=
  ⟨P.top.cell rfl, P.top.cell rfl, P.top.cell rfl, P.top.cell rfl, P.top.cell rfl, P.top.cell rfl⟩
theorem row_self {w : World} {v : Value} {xs : List Int} (h : Ints w v xs) (a : v.ownBlock ≠ some b) {i : Nat} (u : Value) : Ints (w.setCell ⟨b, i, none⟩ u) v xs :=
  h.else (Else.set (s := [b]) (Else.refl [b] w) (p := ⟨b, i, none⟩) (.inl (by simp)) u) (by intro k hk; simp at hk; subst hk; exact a)
theorem PopAt.next (P : PopAt w b q v l most deep old nx) (nx' : Value) : PopAt (w.setCell ⟨b, 5, none⟩ nx') b q v l most deep old nx' := ⟨P.top.set 5 nx', row_self P.row P.away _, P.away⟩
theorem PopAt.seen (P : PopAt w b q v l most deep old nx) (old' : Int) : PopAt (w.setCell ⟨b, 4, none⟩ (.int .u64 old')) b q v l most deep old' nx := ⟨P.top.set 4 _, row_self P.row P.away _, P.away⟩
theorem PopAt.below (P : PopAt w b q v l most deep old nx) (d : Int) : PopAt (w.setCell ⟨b, 3, none⟩ (.int .i64 d)) b q v l most d old nx := ⟨P.top.set 3 _, row_self P.row P.away _, P.away⟩
theorem PopAt.items (P : PopAt w b q v l most deep old nx) (r : Ints w v' (I l')) (a : v'.ownBlock ≠ some b) : PopAt (w.setCell ⟨b, 2, none⟩ v') b q v' l' most deep old nx := ⟨P.top.set 2 _, row_self r a _, a⟩
theorem Mem.self (M : Mem w p g s) (h1 : b ≠ p) (h2 : b ≠ g) (i : Nat) (u : Value) : Mem (w.setCell ⟨b, i, none⟩ u) p g s :=
  M.else (l := [b]) (Else.set (Else.refl [b] w) (p := ⟨b, i, none⟩) (.inl (by simp)) u) (by simp [h1.symm]) (by simp [h2.symm])
theorem Env.self (E : Env w p g q hd ln n s) (h1 : b ≠ p) (h2 : b ≠ g) (h3 : b ≠ q) (i : Nat) (u : Value) : Env (w.setCell ⟨b, i, none⟩ u) p g q hd ln n s :=
  E.else (l := [b]) (Else.set (Else.refl [b] w) (p := ⟨b, i, none⟩) (.inl (by simp)) u) (by simp [h1.symm]) (by simp [h2.symm]) (by simp [h3.symm])

set_option maxHeartbeats 2000000 in
theorem pop_load0 (E : Env w p g q hd ln n s) (P : PopAt w b q v l most deep old nx) (A : Apart b p g q v) (ht : topN n (s.get hd) = -1) :
    Calls Try.prog 52 #[.pointer (some ⟨b, 0, none⟩)] w fun e w' => e = .returned (.tuple #[]) ∧ PopAt w' b q (.slice none 0 0) [] most deep (s.get hd) .nilFunc ∧ Mem w' p g (s.hit 1 hd (s.get hd) true) ∧ Else [b, p, g] w w' := by
  obtain ⟨c0, _, c2, c3, c4, c5⟩ := P.cells
  obtain ⟨k0, k1, _, _⟩ := E.cells
  have hq : q ∉ [p, g] := by simp [E.np, E.ng]
  have hb := A.b2
  have hbq := A.bq
  have hk := E.ok hd
  have hh := Lib.hid E.hasH
  have HE := Lib.hid E
  have HP := Lib.hid P
  have HA := Lib.hid A
  have HT := Lib.hid ht
  have hf := run_func
  clear P E A ht
  go_enter Try.func52, Try.ntmps52
  go_upto_region 0 with fail
  go_region_held3 (fun w' => w'.cell? ⟨b, 0, none⟩ = some (.pointer (some ⟨q, 0, none⟩)) ∧ w'.cell? ⟨q, 0, none⟩ = some (.pointer (some ⟨p, 0, none⟩)) ∧ w'.cell? ⟨q, 1, none⟩ = some (.int .i64 hd)) ((first | exact ⟨c0, k0, k1⟩ | exact ⟨E1.kept c0 hb, E1.kept k0 hq, E1.kept k1 hq⟩ | exact ⟨kept_set (off_ne (by decide)) (E1.kept c0 hb), kept_set (ad_ne hbq) (E1.kept k0 hq), kept_set (ad_ne hbq) (E1.kept k1 hq)⟩))
    (first
      | (go_at_call 65; refine (load_in (HE.out.mem.up (up_drew w)) hh.out).mono ?_; rintro e w1 ⟨rfl, M1, E1⟩; have d3 := E1.kept (p := ⟨b, 4, none⟩) c4 hb; have g3 := (HP.out.else ((Else.of_up (up_drew w)).trans E1) HA.out.b2 HA.out.v2).top.frozen 4))
  have HE1 := Lib.hid ((Else.of_up (up_drew w)).trans E1)
  have P2 := Lib.hid ((HP.out.else HE1.out HA.out.b2 HA.out.v2).seen (s.get hd))
  have EE := Lib.hid ((HE.out.turn M1 HE1.out (HE.out.ok.hit 1 hd true hk.1 hk.2) (hit_len _ _ _ _ _)).self HA.out.bp HA.out.bg HA.out.bq 4 (.int .u64 (s.get hd)))
  have E3 : Else [b, p, g] w (w1.setCell ⟨b, 4, none⟩ (.int .u64 (s.get hd))) := else_self (HE1.out.wide b) (by simp)
  have E3 := Lib.hid E3
  clear d3 g3 M1 E1 HE1 c0 c2 c3 c4 c5 k0 k1
  generalize w1.setCell ⟨b, 4, none⟩ (.int .u64 (s.get hd)) = w2 at *
  have j2 := P2.out.cells.2.2.1
  have f2 := P2.out.top.frozen 2
  go_upto_region 2 with fail
  have P3 := Lib.hid (P2.out.items (v' := .slice none 0 0) (l' := []) (Ints.nil _) (by simp [Value.ownBlock]))
  have EF := Lib.hid (EE.out.self HA.out.bp HA.out.bg HA.out.bq 2 (.slice none 0 0))
  have E4 : Else [b, p, g] w (w2.setCell ⟨b, 2, none⟩ (.slice none 0 0)) := else_self E3.out (by simp)
  have E4 := Lib.hid E4
  clear j2 f2 P2 EE E3
  generalize w2.setCell ⟨b, 2, none⟩ (.slice none 0 0) = w3 at *
  have r0 := P3.out.cells.1
  have r4 := P3.out.cells.2.2.2.2.1
  go_region_held3 (fun w' => w'.cell? ⟨b, 0, none⟩ = some (.pointer (some ⟨q, 0, none⟩)) ∧ w'.cell? ⟨b, 4, none⟩ = some (.int .u64 (s.get hd))) ((first | exact ⟨r0, r4⟩ | exact ⟨U5.kept r0, U5.kept r4⟩))
    (first
      | (go_at_call 45; refine (ofHead_to (EF.out.up (up_drew w3)) hk.1 hk.2 HT.out).mono ?_; rintro e w5 ⟨rfl, U5⟩))
  have V := (up_drew w3).trans U5
  have P6 := Lib.hid (P3.out.up V)
  have M6 := Lib.hid (EF.out.mem.up V)
  have E6 := Lib.hid (E4.out.up V)
  have j5 := P6.out.cells.2.2.2.2.2
  have f5 := P6.out.top.frozen 5
  clear r0 r4 V U5
  go_wp2_with fail
  refine bodyPost_ret (v := .tuple #[]) (by simp [results, Try.results52, go_sem]) rfl ?_
  exact ⟨rfl, P6.out.next _, M6.out.self HA.out.bp HA.out.bg _ _, else_self E6.out (by simp)⟩

set_option maxHeartbeats 2000000 in
theorem pop_load1 (E : Env w p g q hd ln n s) (P : PopAt w b q v l most deep old nx) (A : Apart b p g q v) {t : Nat} (ht : topN n (s.get hd) = t) :
    Calls Try.prog 52 #[.pointer (some ⟨b, 0, none⟩)] w fun e w' => e = .returned (.tuple #[]) ∧ (∃ r cap, w.heap.size ≤ r ∧ PopAt w' b q (.slice (some ⟨r, 0, none⟩) 1 cap) [t] most deep (s.get hd) (meth 66 b)) ∧ Mem w' p g (s.hit 1 hd (s.get hd) true) ∧ Else [b, p, g] w w' := by
  obtain ⟨c0, _, c2, c3, c4, c5⟩ := P.cells
  obtain ⟨k0, k1, _, _⟩ := E.cells
  have hq : q ∉ [p, g] := by simp [E.np, E.ng]
  have hb := A.b2
  have hbq := A.bq
  have hk := E.ok hd
  have hh := Lib.hid E.hasH
  have HE := Lib.hid E
  have HP := Lib.hid P
  have HA := Lib.hid A
  have HT := Lib.hid ht
  have hf := run_func
  have ht0 : ((t : Int) == -1) = false := by simp
  clear P E A ht
  go_enter Try.func52, Try.ntmps52
  go_upto_region 0 with fail
  go_region_held3 (fun w' => w'.cell? ⟨b, 0, none⟩ = some (.pointer (some ⟨q, 0, none⟩)) ∧ w'.cell? ⟨q, 0, none⟩ = some (.pointer (some ⟨p, 0, none⟩)) ∧ w'.cell? ⟨q, 1, none⟩ = some (.int .i64 hd)) ((first | exact ⟨c0, k0, k1⟩ | exact ⟨E1.kept c0 hb, E1.kept k0 hq, E1.kept k1 hq⟩ | exact ⟨kept_set (off_ne (by decide)) (E1.kept c0 hb), kept_set (ad_ne hbq) (E1.kept k0 hq), kept_set (ad_ne hbq) (E1.kept k1 hq)⟩))
    (first
      | (go_at_call 65; refine (load_in (HE.out.mem.up (up_drew w)) hh.out).mono ?_; rintro e w1 ⟨rfl, M1, E1⟩; have d3 := E1.kept (p := ⟨b, 4, none⟩) c4 hb; have g3 := (HP.out.else ((Else.of_up (up_drew w)).trans E1) HA.out.b2 HA.out.v2).top.frozen 4))
  have HE1 := Lib.hid ((Else.of_up (up_drew w)).trans E1)
  have P2 := Lib.hid ((HP.out.else HE1.out HA.out.b2 HA.out.v2).seen (s.get hd))
  have EE := Lib.hid ((HE.out.turn M1 HE1.out (HE.out.ok.hit 1 hd true hk.1 hk.2) (hit_len _ _ _ _ _)).self HA.out.bp HA.out.bg HA.out.bq 4 (.int .u64 (s.get hd)))
  have E3 : Else [b, p, g] w (w1.setCell ⟨b, 4, none⟩ (.int .u64 (s.get hd))) := else_self (HE1.out.wide b) (by simp)
  have E3 := Lib.hid E3
  clear d3 g3 M1 E1 HE1 c0 c2 c3 c4 c5 k0 k1
  generalize w1.setCell ⟨b, 4, none⟩ (.int .u64 (s.get hd)) = w2 at *
  have j2 := P2.out.cells.2.2.1
  have f2 := P2.out.top.frozen 2
  go_upto_region 2 with fail
  have P3 := Lib.hid (P2.out.items (v' := .slice none 0 0) (l' := []) (Ints.nil _) (by simp [Value.ownBlock]))
  have EF := Lib.hid (EE.out.self HA.out.bp HA.out.bg HA.out.bq 2 (.slice none 0 0))
  have E4 : Else [b, p, g] w (w2.setCell ⟨b, 2, none⟩ (.slice none 0 0)) := else_self E3.out (by simp)
  have E4 := Lib.hid E4
  clear j2 f2 P2 EE E3
  generalize w2.setCell ⟨b, 2, none⟩ (.slice none 0 0) = w3 at *
  have r0 := P3.out.cells.1
  have r4 := P3.out.cells.2.2.2.2.1
  go_region_held3 (fun w' => w'.cell? ⟨b, 0, none⟩ = some (.pointer (some ⟨q, 0, none⟩)) ∧ w'.cell? ⟨b, 4, none⟩ = some (.int .u64 (s.get hd))) ((first | exact ⟨r0, r4⟩ | exact ⟨U5.kept r0, U5.kept r4⟩))
    (first
      | (go_at_call 45; refine (ofHead_to (EF.out.up (up_drew w3)) hk.1 hk.2 HT.out).mono ?_; rintro e w5 ⟨rfl, U5⟩))
  have V := (up_drew w3).trans U5
  have P6 := Lib.hid (P3.out.up V)
  have M6 := Lib.hid (EF.out.mem.up V)
  have E6 := Lib.hid (E4.out.up V)
  clear r0 r4 V U5 P3 EF E4
  have j2 := P6.out.cells.2.2.1
  obtain ⟨i9, hi, hz0, hz1, hz2⟩ := info_parts info_int
  have g63 : 0 + 1 ≤ maxLen := by unfold maxLen; omega
  have gby : (0 + 1) * 8 ≤ 140737488355328 := by omega
  have gba : 0 ≤ (w5.alloc (.cells #[.int .i64 (t : Int)] 3)).heap.size := Nat.zero_le _
  have hH : (w5.alloc (.cells #[.int .i64 (t : Int)] 3)).heap.size = w5.heap.size + 1 := by simp
  go_wp2_with (at_builtin; refine wpList_append_lies _ rfl _ _ 22 rfl 0 3 i9 (.int .i64 0) 1 8 Try.underlying22 hi hz0 hz1 hz2 rfl (by decide) (.slice none 0 0) 0 [] rfl (World.ownsRow_nil _ _ _ _) ⟨w5.heap.size, 0, none⟩ 1 1 [.int .i64 (t : Int)] rfl rfl (one_new _ _ _) (by simp [Value.oneCell']) (by decide) g63 gby gba _ hH ?_; intro gg cap2 wD hownD hgrow hat hltD; have HO := Lib.hid hownD; have VD := ((Up.refl w5).then_alloc (.cells #[.int .i64 (t : Int)] 3)).grown hgrow (fun k hk => by simp [Value.ownBlock] at hk); have P7 := Lib.hid (P6.out.up VD); have M7 := Lib.hid (M6.out.up VD); have E7 := Lib.hid (E6.out.up VD); have y2 := P7.out.cells.2.2.1; have y5 := P7.out.cells.2.2.2.2.2; have f2 := P7.out.top.frozen 2; have f5 := P7.out.top.frozen 5; have hgb : gg ≠ b := (by have h6 := P6.out.top.lt; rcases hat with h | h; simp [Value.ownBlock] at h; omega); clear hownD hgrow VD)
  go_end0
  have hg1 : gg = w5.heap.size + 1 := by
    rcases hat with h | h
    · simp [Value.ownBlock] at h
    · exact h
  have hsz := E6.out.size
  refine ⟨rfl, ⟨gg, cap2, by omega, ?_⟩, (M7.out.self HA.out.bp HA.out.bg _ _).self HA.out.bp HA.out.bg _ _, else_self (else_self E7.out (by simp)) (by simp)⟩
  exact (P7.out.items (v' := .slice (some ⟨gg, 0, none⟩) 1 cap2) (l' := [t]) (ints_of_own HO.out rfl rfl) (by simp [Value.ownBlock]; exact hgb)).next _
end
end Go.Proofs.Ytalhbebpoohgkaa
