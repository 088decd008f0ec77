/-
  Package stack: the machine Pop: the Load of a link, the exchange, Step, Done.
-/
import Derived.Test.YtalhbebpoohgkaaPop
namespace Go.Proofs.Ytalhbebpoohgkaa
open Go.RowKit
open W64
set_option maxRecDepth 100000
section
variable {w w' : World} {p g q hd ln n b most : Nat} {s : St} {v v' : Value} {l l' : List Nat} {deep old : Int} {nx : Value}

theorem popDone_no {f : FuncId} (c5 : w.cell? ⟨b, 5, none⟩ = some (meth f b)) :
    Calls Try.prog 23 #[.pointer (some ⟨b, 0, none⟩)] w fun e w' => e = .returned (.bool false) ∧ w = w' := by
  unfold meth at c5
  have h1 := run_eql_func
  go_enter Try.func23, Try.ntmps23
  go_wp2_with fail
  go_ret
  exact ⟨rfl, rfl⟩
theorem popDone_yes (c5 : w.cell? ⟨b, 5, none⟩ = some .nilFunc) :
    Calls Try.prog 23 #[.pointer (some ⟨b, 0, none⟩)] w fun e w' => e = .returned (.bool true) ∧ w = w' := by
  have h1 := run_eql_nilFunc
  go_enter Try.func23, Try.ntmps23
  go_wp2_with fail
  go_ret
  exact ⟨rfl, rfl⟩
theorem popStep_end (c5 : w.cell? ⟨b, 5, none⟩ = some .nilFunc) :
    Calls Try.prog 22 #[.pointer (some ⟨b, 0, none⟩)] w fun e w' => e = .returned (.bool false) ∧ w = w' := by
  have h1 := Lib.hid c5
  go_enter Try.func22, Try.ntmps22
  go_wp2_with (go_at_call 23; refine (popDone_yes h1.out).mono ?_; rintro e w' ⟨rfl, rfl⟩)
  go_ret
  exact ⟨rfl, rfl⟩
theorem popStep_load {R : World → Prop} (c5 : w.cell? ⟨b, 5, none⟩ = some (meth 52 b)) (h : Calls Try.prog 52 #[.pointer (some ⟨b, 0, none⟩)] w fun e w' => e = .returned (.tuple #[]) ∧ R w') :
    Calls Try.prog 22 #[.pointer (some ⟨b, 0, none⟩)] w fun e w' => e = .returned (.bool true) ∧ R w' := by
  have h1 := Lib.hid c5
  have H := Lib.hid h
  unfold meth at c5
  clear h
  go_enter Try.func22, Try.ntmps22
  go_wp2_with (first
    | (go_at_call 23; refine (popDone_no h1.out).mono ?_; rintro e w' ⟨rfl, rfl⟩)
    | (go_at_call 52; refine H.out.mono ?_; rintro e w2 ⟨rfl, r2⟩))
  go_ret
  exact ⟨rfl, r2⟩
theorem popStep_link {R : World → Prop} (c5 : w.cell? ⟨b, 5, none⟩ = some (meth 66 b)) (h : Calls Try.prog 66 #[.pointer (some ⟨b, 0, none⟩)] w fun e w' => e = .returned (.tuple #[]) ∧ R w') :
    Calls Try.prog 22 #[.pointer (some ⟨b, 0, none⟩)] w fun e w' => e = .returned (.bool true) ∧ R w' := by
  have h1 := Lib.hid c5
  have H := Lib.hid h
  unfold meth at c5
  clear h
  go_enter Try.func22, Try.ntmps22
  go_wp2_with (first
    | (go_at_call 23; refine (popDone_no h1.out).mono ?_; rintro e w' ⟨rfl, rfl⟩)
    | (go_at_call 66; refine H.out.mono ?_; rintro e w2 ⟨rfl, r2⟩))
  go_ret
  exact ⟨rfl, r2⟩
theorem popStep_turn {R : World → Prop} (c5 : w.cell? ⟨b, 5, none⟩ = some (meth 74 b)) (h : Calls Try.prog 74 #[.pointer (some ⟨b, 0, none⟩)] w fun e w' => e = .returned (.tuple #[]) ∧ R w') :
    Calls Try.prog 22 #[.pointer (some ⟨b, 0, none⟩)] w fun e w' => e = .returned (.bool true) ∧ R w' := by
  have h1 := Lib.hid c5
  have H := Lib.hid h
  unfold meth at c5
  clear h
  go_enter Try.func22, Try.ntmps22
  go_wp2_with (first
    | (go_at_call 23; refine (popDone_no h1.out).mono ?_; rintro e w' ⟨rfl, rfl⟩)
    | (go_at_call 74; refine H.out.mono ?_; rintro e w2 ⟨rfl, r2⟩))
  go_ret
  exact ⟨rfl, r2⟩

set_option maxHeartbeats 1000000 in
theorem spop_in (m : Int) {most : Nat} (hm : min (max m 1) 8 = most) :
    Calls Try.prog 26 #[.pointer (some ⟨q, 0, none⟩), .int .i64 m] w fun e w' => e = .returned (.pointer (some ⟨w.heap.size, 0, none⟩)) ∧ PopAt w' w.heap.size q (.slice none 0 0) [] most 0 0 (meth 52 w.heap.size) ∧ Up w w' := by
  have hf := run_func
  have key : ∀ w1 : World, w1 = (w.alloc (.cells #[.pointer (some ⟨q, 0, none⟩), .int .i64 most, .slice none 0 0, .int .i64 0, .int .u64 0, meth 52 w.heap.size] 93)) → PopAt w1 w.heap.size q (.slice none 0 0) [] most 0 0 (meth 52 w.heap.size) ∧ Up w w1 := by
    rintro w1 rfl
    exact ⟨⟨Whole.new _ _ _, Ints.nil _, by simp [Value.ownBlock]⟩, Up.alloc _ _⟩
  have HK := Lib.hid key
  clear key
  rcases (show m < 1 ∨ m = 1 ∨ (1 < m ∧ m < 8) ∨ m = 8 ∨ 8 < m by omega) with h | rfl | ⟨h, h2⟩ | rfl | h
  · have e : (most : Int) = 1 := by omega
    rw [e] at HK
    clear hm e
    go_enter Try.func26, Try.ntmps26
    go_wp2_with fail
    go_ret
    exact ⟨rfl, HK.out _ rfl⟩
  · have e : (most : Int) = 1 := by omega
    rw [e] at HK
    clear hm e
    go_enter Try.func26, Try.ntmps26
    go_wp2_with fail
    go_ret
    exact ⟨rfl, HK.out _ rfl⟩
  · have e : (most : Int) = m := by omega
    rw [e] at HK
    clear hm e
    go_enter Try.func26, Try.ntmps26
    go_wp2_with fail
    go_ret
    exact ⟨rfl, HK.out _ rfl⟩
  · have e : (most : Int) = 8 := by omega
    rw [e] at HK
    clear hm e
    go_enter Try.func26, Try.ntmps26
    go_wp2_with fail
    go_ret
    exact ⟨rfl, HK.out _ rfl⟩
  · have e : (most : Int) = 8 := by omega
    rw [e] at HK
    clear hm e
    go_enter Try.func26, Try.ntmps26
    go_wp2_with fail
    go_ret
    exact ⟨rfl, HK.out _ rfl⟩
set_option maxHeartbeats 1000000 in
theorem got_not {f : FuncId} (c5 : w.cell? ⟨b, 5, none⟩ = some (meth f b)) :
    Calls Try.prog 24 #[.pointer (some ⟨b, 0, none⟩)] w fun e w' => e = .returned (.slice none 0 0) ∧ w = w' := by
  have h1 := Lib.hid c5
  go_enter Try.func24, Try.ntmps24
  go_wp2_with (go_at_call 23; refine (popDone_no h1.out).mono ?_; rintro e w' ⟨rfl, rfl⟩)
  go_ret
  exact ⟨rfl, rfl⟩
set_option maxHeartbeats 1000000 in
theorem got_nil (P : PopAt w b q (.slice none 0 0) l most deep old .nilFunc) :
    Calls Try.prog 24 #[.pointer (some ⟨b, 0, none⟩)] w fun e w' => e = .returned (.slice none 0 0) ∧ w = w' := by
  have h1 := Lib.hid P.cells.2.2.2.2.2
  have h2 := P.cells.2.2.1
  go_enter Try.func24, Try.ntmps24
  go_wp2_with (first
    | (go_at_call 23; refine (popDone_yes h1.out).mono ?_; rintro e w' ⟨rfl, rfl⟩)
    | (go_at_call 49; refine (clone_nil _).mono ?_; rintro e w' ⟨rfl, rfl⟩))
  go_ret
  exact ⟨rfl, rfl⟩
set_option maxHeartbeats 1000000 in
theorem got_in (P : PopAt w b q v l most deep old .nilFunc) (hl0 : l ≠ []) (hl : l.length ≤ 8192) :
    Calls Try.prog 24 #[.pointer (some ⟨b, 0, none⟩)] w fun e w' => ∃ r cap, e = .returned (.slice (some ⟨r, 0, none⟩) l.length cap) ∧ Ints w' (.slice (some ⟨r, 0, none⟩) l.length cap) (I l) ∧ w.heap.size ≤ r ∧ r < w'.heap.size ∧ Up w w' := by
  have h1 := Lib.hid P.cells.2.2.2.2.2
  have h2 := P.cells.2.2.1
  have hc := clone_in P.row.rd (by simpa [I] using hl0) (by rw [I_len]; exact hl)
  rw [I_len] at hc
  have HC := Lib.hid hc
  clear hc
  go_enter Try.func24, Try.ntmps24
  go_wp2_with (first
    | (go_at_call 23; refine (popDone_yes h1.out).mono ?_; rintro e w' ⟨rfl, rfl⟩)
    | (go_at_call 49; refine HC.out.mono ?_; rintro e w' ⟨r, cap, rfl, i1, i2, i3, i4⟩))
  go_ret
  exact ⟨r, cap, rfl, i1, i2, i3, i4⟩
end
end Go.Proofs.Ytalhbebpoohgkaa
