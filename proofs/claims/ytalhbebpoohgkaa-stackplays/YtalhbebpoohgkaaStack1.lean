/-
  Package stack: areItems; slices.Clone of ints.
-/
import Derived.Test.YtalhbebpoohgkaaInts
import Derived.Lib.SliceRun
namespace Go.Proofs.Ytalhbebpoohgkaa
open Go.RowKit
set_option maxRecDepth 100000

/-- Items, none twice. -/
def Good (n : Nat) (xs : List Int) : Prop := (∀ x ∈ xs, 0 ≤ x ∧ x < n) ∧ xs.Nodup
instance (n : Nat) (xs : List Int) : Decidable (Good n xs) := inferInstanceAs (Decidable (_ ∧ _))
theorem good_nil (n : Nat) : Good n [] := ⟨by simp, List.nodup_nil⟩
theorem take_get {xs : List Int} {k : Nat} (h : k < xs.length) : xs.take (k + 1) = xs.take k ++ [xs.getD k 0] := by
  rw [List.take_add_one]; simp [List.getD, h]
theorem get_mem {xs : List Int} {k : Nat} (h : k < xs.length) : xs.getD k 0 ∈ xs := by simp [List.getD, h]
theorem good_step {n k : Nat} {xs : List Int} (h : Good n (xs.take k)) (hk : k < xs.length) {x : Int} (hx : xs.getD k 0 = x) (h0 : 0 ≤ x) (h1 : x < n) (h2 : x ∉ xs.take k) : Good n (xs.take (k + 1)) := by
  rw [take_get hk, hx]
  refine ⟨fun y hy => ?_, ?_⟩
  · rcases List.mem_append.1 hy with hy | hy
    · exact h.1 y hy
    · simp at hy; subst hy; exact ⟨h0, h1⟩
  · rw [List.nodup_append]
    refine ⟨h.2, by simp, fun a ha b hb => ?_⟩
    simp at hb; subst hb
    intro e; subst e; exact h2 ha
theorem not_good {n k : Nat} {xs : List Int} (hk : k < xs.length) {x : Int} (hx : xs.getD k 0 = x) (h : x < 0 ∨ (n : Int) ≤ x ∨ x ∈ xs.take k) : ¬ Good n xs := by
  intro ⟨g1, g2⟩
  have hm := g1 _ (get_mem hk)
  rw [hx] at hm
  rcases h with h | h | h
  · omega
  · omega
  · have e : xs = xs.take k ++ xs.getD k 0 :: xs.drop (k + 1) := by
      simp [List.getD, hk]
    rw [e, List.nodup_append] at g2
    exact g2.2.2 x h _ (by simp) hx.symm
theorem wf_small {x : Int} (h0 : 0 ≤ x) (h1 : x < 4096) : (Lit.int .i64 x).wf = true := WalkArith.wf_i64 (by omega)

section
variable {w : World} {p g q hd ln n : Nat} {s : St}
set_option maxHeartbeats 2000000 in
theorem areItems_any (E : Env w p g q hd ln n s) {v : Value} {xs : List Int} (R : Rd w v xs) :
    Calls Try.prog 50 #[.pointer (some ⟨q, 0, none⟩), v] w fun e w' => e = .returned (.bool (decide (Good n xs))) ∧ Up w w' := by
  obtain ⟨A, cap, rfl⟩ := R.slice
  have hm := R.len
  unfold maxLen at hm
  have HR := Lib.hid R
  have c3 := Lib.hid E.cells.2.2.2
  have n1 := E.n1
  have hmm := @run_makeMap Try.prog
  clear R E
  go_enter Try.func50, Try.ntmps50
  go_wp2_with fail
  go_loopw [11] (fun i wr => ∃ k : Nat, k ≤ xs.length ∧ i = .int .i64 k ∧ Good n (xs.take k) ∧ SetAt wr w.heap.size k (xs.take k) ∧ Up w wr) (fun i _ => xs.length - (intOf i).toNat)
  case atStart => exact ⟨0, Nat.zero_le _, rfl, good_nil _, SetAt.made w, Up.alloc _ _⟩
  case round =>
    obtain ⟨k, hk, rfl, hg, hs, hu⟩ := hrel
    have HG := Lib.hid hg
    have HS := Lib.hid hs
    have HU := Lib.hid hu
    clear hg hs hu
    by_cases hlt : k < xs.length
    · obtain ⟨b, off, rfl, hc⟩ := HR.out.cell hlt
      have c4 := HU.out.kept c3.out
      replace hc := HU.out.kept hc
      obtain ⟨x, hx⟩ : ∃ x, xs.getD k 0 = x := ⟨_, rfl⟩
      rw [hx] at hc
      have HX := Lib.hid hx
      clear hx
      have i0 : (0 : Int) ≤ (k : Int) := Int.natCast_nonneg _
      have i1 : (k : Int) < (xs.length : Int) := by omega
      by_cases x0 : x < 0
      · go_wp2_with fail
        go_ret
        exact ⟨ret_bool (decide_eq_false (not_good hlt HX.out (.inl x0))).symm, HU.out⟩
      by_cases x1 : (n : Int) ≤ x
      · go_wp2_with fail
        go_ret
        exact ⟨ret_bool (decide_eq_false (not_good hlt HX.out (.inr (.inl x1)))).symm, HU.out⟩
      have hw := wf_small (x := x) (by omega) (by omega)
      by_cases x2 : x ∈ xs.take k
      · have hl := HS.out.look hw (decide_eq_true x2)
        have X2 := Lib.hid x2
        clear x2 hw
        go_wp2_with fail
        go_ret
        exact ⟨ret_bool (decide_eq_false (not_good hlt HX.out (.inr (.inr X2.out)))).symm, HU.out⟩
      · have hl := HS.out.look hw (decide_eq_false x2)
        obtain ⟨w2, hrun, hs2, hgr⟩ := HS.out.put hw (by unfold maxLen; omega)
        have X2 := Lib.hid x2
        have HS2 := Lib.hid hs2
        have HG2 := Lib.hid hgr
        clear x2 hw hs2 hgr
        go_wp2_with fail
        go_roundw
        case rel =>
          refine ⟨k + 1, by omega, by go_num, good_step HG.out hlt HX.out (by omega) (by omega) X2.out, ?_, HU.out.grown HG2.out (fun j hj => by cases hj; exact Nat.le_refl _)⟩
          rw [take_get hlt, HX.out]; exact HS2.out
        case measure => simp [intOf]; omega
    · have e : xs.take k = xs := List.take_of_length_le (by omega)
      have i1 : ¬ (k : Int) < (xs.length : Int) := by omega
      go_wp2_with fail
      go_ret
      exact ⟨ret_bool (decide_eq_true (e ▸ HG.out)).symm, HU.out⟩
theorem areItems_to (E : Env w p g q hd ln n s) {v : Value} {xs : List Int} (R : Rd w v xs) {b : Bool} (h : decide (Good n xs) = b) :
    Calls Try.prog 50 #[.pointer (some ⟨q, 0, none⟩), v] w fun e w' => e = .returned (.bool b) ∧ Up w w' := h ▸ areItems_any E R
end

theorem info_int : (Try.prog.info? 3).map (fun i => (i.zero, i.size, i.bytes)) = some (some (.int .i64 0), 1, 8) := by kernel_rfl
theorem one_ints (xs : List Int) : ∀ u ∈ xs.map (Value.int .i64), u.oneCell' = true := by
  intro u hu; obtain ⟨x, _, rfl⟩ := List.mem_map.1 hu; rfl
theorem Rd.news {w w' : World} {b off n cap : Nat} {xs : List Int} (h : Rd w (.slice (some ⟨b, off, none⟩) n cap) xs) (u : Up w w') : ∀ j x, (xs.map (Value.int .i64))[j]? = some x → w'.cell? ((⟨b, off, none⟩ : Addr).add j) = some x := by
  intro j x hx
  have hj : j < xs.length := by
    rcases Nat.lt_or_ge j xs.length with h | h
    · exact h
    · rw [List.getElem?_eq_none (by simpa using h)] at hx; cases hx
  obtain ⟨g, o, e, hc⟩ := h.cell hj
  injection e with e; injection e with e1 e2; subst e1 e2
  have hadd : (⟨b, off, none⟩ : Addr).add j = ⟨b, off + j, none⟩ := by
    unfold Addr.add; split
    · subst_vars; rfl
    · rfl
  rw [hadd, u.kept hc]
  simp [hj] at hx
  rw [← hx]
  simp [List.getD, hj]
theorem own_empty (w : World) : (w.alloc (.cells #[] 3)).ownsRow w.heap.size 3 1 (.slice (some ⟨w.heap.size, 0, none⟩) 0 0) 0 [] :=
  ⟨rfl, .inr ⟨w.heap.size, 0, #[], rfl, Nat.le_refl _, heap_alloc_new w _, Nat.le_refl _, Nat.zero_le _, rfl, rfl⟩⟩
theorem ints_of_own {w : World} {base n : Nat} {v : Value} {vs : List Value} {xs : List Int} (h : w.ownsRow base 3 1 v n vs) (hn : n = xs.length) (hv : vs = xs.map (Value.int .i64)) : Ints w v xs := by
  subst hn hv
  refine ⟨h.1, h.2.imp id fun ⟨g, cap, cur, hv, hb, r⟩ => ⟨g, cap, cur, hv, Nat.zero_le _, r⟩⟩
set_option maxHeartbeats 1000000 in
theorem clone_nil (w : World) : Calls Try.prog 49 #[.slice none 0 0] w fun e w' => e = .returned (.slice none 0 0) ∧ w = w' := by
  have q1 : ∀ (w : World) (a : Option Addr) (n c n' c' : Nat), (binOp .eql 22 (.slice a n c) (.slice none n' c')).run Try.prog w = .ok (.bool a.isNone) w := fun w a n c n' c' => Lib.run_eql_slice_nil w _ _ a n c n' c' Try.underlying22
  go_enter Try.func49, Try.ntmps49
  go_wp2_with fail
  go_ret
  exact ⟨rfl, rfl⟩
set_option maxHeartbeats 1000000 in
theorem clone_in {w : World} {v : Value} {xs : List Int} (R : Rd w v xs) (h : xs ≠ []) (hl : xs.length ≤ 8192) :
    Calls Try.prog 49 #[v] w fun e w' => ∃ b cap, e = .returned (.slice (some ⟨b, 0, none⟩) xs.length cap) ∧ Ints w' (.slice (some ⟨b, 0, none⟩) xs.length cap) xs ∧ w.heap.size ≤ b ∧ b < w'.heap.size ∧ Up w w' := by
  have hp := List.length_pos_iff.2 h
  obtain ⟨A, cap, rfl⟩ := R.slice
  obtain ⟨b, off, rfl, _⟩ := R.cell hp
  have HN := Lib.hid (R.news (Up.alloc w (.cells #[] 3)))
  have q1 : ∀ (w : World) (a : Option Addr) (n c n' c' : Nat), (binOp .eql 22 (.slice a n c) (.slice none n' c')).run Try.prog w = .ok (.bool a.isNone) w := fun w a n c n' c' => Lib.run_eql_slice_nil w _ _ a n c n' c' Try.underlying22
  obtain ⟨i9, hi, hz0, hz1, hz2⟩ := info_parts info_int
  have g63 : 0 + xs.length ≤ maxLen := by unfold maxLen; omega
  have gby : (0 + xs.length) * 8 ≤ 140737488355328 := by omega
  have gba : w.heap.size ≤ (w.alloc (.cells #[] 3)).heap.size := by simp
  have hb0 : (w.alloc (.cells #[] 3)).heap.size = w.heap.size + 1 := by simp
  clear R h
  go_enter Try.func49, Try.ntmps49
  go_wp2_with (at_builtin; refine wpList_append_lies _ rfl _ _ 22 rfl w.heap.size 3 i9 (.int .i64 0) 1 8 Try.underlying22 hi hz0 hz1 hz2 rfl (by decide) (.slice (some ⟨w.heap.size, 0, none⟩) 0 0) 0 [] rfl (own_empty w) ⟨b, off, none⟩ xs.length cap (xs.map (Value.int .i64)) rfl (by simp) HN.out (one_ints xs) hp g63 gby gba _ hb0 ?_; intro gg cap2 wD hownD hgrow hat hltD; have HO := Lib.hid hownD; have HG := Lib.hid hgrow; clear hownD hgrow)
  go_ret
  refine ⟨gg, cap2, by simp, by simpa using ints_of_own HO.out (by simp) (by simp), ?_, hltD, ((Up.refl _).then_alloc _).grown HG.out (fun k hk => by simp [Value.ownBlock] at hk; omega)⟩
  rcases hat with h | h
  · simp [Value.ownBlock] at h; omega
  · omega
end Go.Proofs.Ytalhbebpoohgkaa
