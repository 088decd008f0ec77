/-
  Package stack: the machine Push, its accesses.
-/
import Derived.Test.YtalhbebpoohgkaaPush
namespace Go.Proofs.Ytalhbebpoohgkaa
open Go.RowKit
open W64
set_option maxRecDepth 100000
section
variable {w w' : World} {p g q hd ln n b : Nat} {s : St} {v : Value} {l : List Nat} {i : Nat} {old : Int} {nx : Value}
theorem not_three {a b c d : Nat} (h1 : a ≠ b) (h2 : a ≠ c) (h3 : a ≠ d) : a ∉ [b, c, d] := by simp [h1, h2, h3]
/-- A machine lies apart from the stack and its memory. -/
structure Apart (b p g q : Nat) (v : Value) : Prop where
  bp : b ≠ p
  bg : b ≠ g
  bq : b ≠ q
  vp : v.ownBlock ≠ some p
  vg : v.ownBlock ≠ some g
  vq : v.ownBlock ≠ some q
theorem Apart.b2 {v : Value} (A : Apart b p g q v) : b ∉ [p, g] := by simp [A.bp, A.bg]
theorem Apart.v2 {v : Value} (A : Apart b p g q v) : Away v [p, g] := by
  intro k hk; simp at hk; rcases hk with rfl | rfl
  · exact A.vp
  · exact A.vg
theorem Else.wide {a c : World} (h : Else [p, g] a c) (b : Nat) : Else [b, p, g] a c := h.more (by intro k hk; simp at hk ⊢; exact .inr hk)
theorem Else.wide1 {a c : World} (h : Else [b] a c) (p g : Nat) : Else [b, p, g] a c := h.more (by intro k hk; simp at hk ⊢; exact .inl hk)

theorem PushAt.count1 (P : PushAt w b q v l i old nx) : PushAt (w.setCell ⟨b, 2, none⟩ (.int .i64 ((i : Int) + 1))) b q v l (i + 1) old nx := P.count (i + 1)
theorem kept_set {w : World} {p a : Addr} {v x : Value} (h : p ≠ a) (hc : w.cell? a = some x) : (w.setCell p v).cell? a = some x := by rw [World.cell?_setCell_other (h := h)]; exact hc
theorem ad_ne {a b i j : Nat} (h : a ≠ b) : (⟨a, i, none⟩ : Addr) ≠ ⟨b, j, none⟩ := fun e => h (congrArg Addr.block e)
theorem off_ne {a i j : Nat} (h : i ≠ j) : (⟨a, i, none⟩ : Addr) ≠ ⟨a, j, none⟩ := fun e => h (congrArg Addr.off e)
set_option maxHeartbeats 2000000 in
theorem push_link (E : Env w p g q hd ln n s) (P : PushAt w b q v l i old nx) (A : Apart b p g q v) (hi : i + 1 < l.length) (hn : ∀ x ∈ l, x < n) (hl : l.length ≤ 8192) :
    Calls Try.prog 63 #[.pointer (some ⟨b, 0, none⟩)] w fun e w' => e = .returned (.tuple #[]) ∧ PushAt w' b q v l (i + 1) old (nxL b l.length (i + 1)) ∧ Mem w' p g (s.hit 2 (ln + (l.getD i 0 : Nat)) ((l.getD (i + 1) 0 : Nat) + 1) true) ∧ Else [b, p, g] w w' := by
  obtain ⟨r, cap, rfl, ds⟩ := P.row.get (by intro e; simp [e] at hi)
  have d0 := ds i (by omega)
  have d1 := ds (i + 1) (by omega)
  clear ds
  obtain ⟨c0, c1, c2, _, _⟩ := P.cells
  have m0 := hn _ (Stk.getD_mem (show i < l.length by omega))
  have m1 := hn _ (Stk.getD_mem (show i + 1 < l.length by omega))
  generalize l.getD i 0 = x at *
  generalize l.getD (i + 1) 0 = y at *
  have i0 : (0 : Int) ≤ (i : Int) := Int.natCast_nonneg _
  have i1 : (i : Int) < (l.length : Int) := by omega
  have i2 : (i : Int) + 1 < (l.length : Int) := by omega
  have i3 : (0 : Int) ≤ (i : Int) + 1 := by omega
  have s2 : IntKind.i64.wrap ((i : Int) + 1) = (i : Int) + 1 := IntWalk.i64_in _ (by omega)
  have hb := A.b2
  have hr : r ∉ [p, g] := fun hk => A.v2 r hk rfl
  have HP := Lib.hid P
  have HE := Lib.hid E
  have HA := Lib.hid A
  clear P E A hn
  go_enter Try.func63, Try.ntmps63
  go_upto_region 0 with fail
  go_region_held3 (fun w' => w'.cell? ⟨b, 0, none⟩ = some (.pointer (some ⟨q, 0, none⟩)) ∧ w'.cell? ⟨b, 1, none⟩ = some (.slice (some ⟨r, 0, none⟩) l.length cap) ∧ w'.cell? ⟨b, 2, none⟩ = some (.int .i64 i) ∧ w'.cell? ⟨r, i, none⟩ = some (.int .i64 x) ∧ w'.cell? ⟨r, i + 1, none⟩ = some (.int .i64 y)) ((first | exact ⟨c0, c1, c2, d0, d1⟩ | exact ⟨E1.kept c0 hb, E1.kept c1 hb, E1.kept c2 hb, E1.kept d0 hr, E1.kept d1 hr⟩))
    (first
      | (go_at_call 71; refine (sstoreLink_in (HE.out.up (up_drew w)) (x := x) (y := y) (by omega) (by omega) (by omega) (by omega)).mono ?_; rintro e w1 ⟨rfl, M1, E1⟩))
  have E2 := Lib.hid ((Else.of_up (up_drew w)).trans E1)
  have P1 := Lib.hid (HP.out.else E2.out HA.out.b2 HA.out.v2)
  have k2 := P1.out.cells.2.2.1
  have f2 := P1.out.top.frozen 2
  have M2 := Lib.hid M1
  clear M1 E1
  go_wp2_with (go_at_call 51; refine (linkOrLoad_in (i := i + 1) (P1.out.count1) hl (by omega)).mono ?_; rintro e w3 ⟨rfl, P3, E3⟩)
  go_end0
  have E4 : Else [b, p, g] w (w1.setCell ⟨b, 2, none⟩ (.int .i64 ((i : Int) + 1))) := else_self (E2.out.wide b) (by simp)
  refine ⟨rfl, P3, ?_, E4.trans (E3.wide1 p g)⟩
  have M3 := M2.out.else (l := [b]) (Else.set (Else.refl [b] w1) (p := ⟨b, 2, none⟩) (.inl (by simp)) (.int .i64 ((i : Int) + 1))) (by simp [HA.out.bp.symm]) (by simp [HA.out.bg.symm])
  exact M3.else E3 (by simp [HA.out.bp.symm]) (by simp [HA.out.bg.symm])

set_option maxHeartbeats 2000000 in
theorem push_load (E : Env w p g q hd ln n s) (P : PushAt w b q v l i old nx) (A : Apart b p g q v) :
    Calls Try.prog 64 #[.pointer (some ⟨b, 0, none⟩)] w fun e w' => e = .returned (.tuple #[]) ∧ PushAt w' b q v l i (s.get hd) (meth 72 b) ∧ Mem w' p g (s.hit 1 hd (s.get hd) true) ∧ Else [b, p, g] w w' := by
  obtain ⟨c0, _, _, c3, c4⟩ := P.cells
  obtain ⟨k0, k1, _, _⟩ := E.cells
  have hq : q ∉ [p, g] := by simp [E.np, E.ng]
  have hb := A.b2
  have hbq := A.bq
  have f3 := P.top.frozen 3
  have hh := Lib.hid E.hasH
  have HM := Lib.hid E.mem
  have HP := Lib.hid P
  have HA := Lib.hid A
  have hf := run_func
  clear P E A
  go_enter Try.func64, Try.ntmps64
  go_upto_region 0 with fail
  go_region_held3 (fun w' => w'.cell? ⟨b, 0, none⟩ = some (.pointer (some ⟨q, 0, none⟩)) ∧ w'.cell? ⟨q, 0, none⟩ = some (.pointer (some ⟨p, 0, none⟩)) ∧ w'.cell? ⟨q, 1, none⟩ = some (.int .i64 hd)) ((first | exact ⟨c0, k0, k1⟩ | exact ⟨E1.kept c0 hb, E1.kept k0 hq, E1.kept k1 hq⟩ | exact ⟨kept_set (off_ne (by decide)) (E1.kept c0 hb), kept_set (ad_ne hbq) (E1.kept k0 hq), kept_set (ad_ne hbq) (E1.kept k1 hq)⟩))
    (first
      | (go_at_call 65; refine (load_in (HM.out.up (up_drew w)) hh.out).mono ?_; rintro e w1 ⟨rfl, M1, E1⟩; have d3 := E1.kept (p := ⟨b, 3, none⟩) c3 hb; have g3 := (HP.out.else ((Else.of_up (up_drew w)).trans E1) HA.out.b2 HA.out.v2).top.frozen 3))
  have P2 := Lib.hid ((HP.out.else ((Else.of_up (up_drew w)).trans E1) HA.out.b2 HA.out.v2).seen (s.get hd))
  have j4 := P2.out.cells.2.2.2.2
  have f4 := P2.out.top.frozen 4
  clear d3 g3
  go_wp2_with fail
  go_end0
  have E3 : Else [b, p, g] w (w1.setCell ⟨b, 3, none⟩ (.int .u64 (s.get hd))) := else_self (((Else.of_up (up_drew w)).trans E1).wide b) (by simp)
  refine ⟨rfl, P2.out.next _, ?_, else_self E3 (by simp)⟩
  have M3 := M1.else (l := [b]) (Else.set (Else.refl [b] w1) (p := ⟨b, 3, none⟩) (.inl (by simp)) (.int .u64 (s.get hd))) (by simp [HA.out.bp.symm]) (by simp [HA.out.bg.symm])
  exact M3.else (l := [b]) (Else.set (Else.refl [b] _) (p := ⟨b, 4, none⟩) (.inl (by simp)) _) (by simp [HA.out.bp.symm]) (by simp [HA.out.bg.symm])
end
end Go.Proofs.Ytalhbebpoohgkaa
