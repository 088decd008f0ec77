/-
  Package epoch: Step, Done, Won, Epoch of the machines, told by plain data (En, Ad); the machines begin.
-/
import Derived.Test.YtngaokhlcdlpfaaEpMach2
namespace Go.Proofs.Ytngaokhlcdlpfaa
open Go.RowKit
open W64
set_option maxRecDepth 100000
section
variable {w w' : World} {p g q at_ pn n b wk : Nat} {s : St} {nx : Value}
theorem estep_end (w : World) : Calls Try.prog 44 #[.nilFunc] w fun e w' => e = .returned (.bool false) ∧ w = w' := by
  have h1 := run_eql_nilFunc
  go_enter Try.func44, Try.ntmps44
  go_wp2_with fail
  go_ret
  exact ⟨rfl, rfl⟩
theorem estep_f43 {R : World → Prop} (h : Calls Try.prog 43 #[.pointer (some ⟨b, 0, none⟩)] w fun e w' => e = .returned (.tuple #[]) ∧ R w') :
    Calls Try.prog 44 #[meth 43 b] w fun e w' => e = .returned (.bool true) ∧ R w' := by
  have H := Lib.hid h
  have h1 := run_eql_func
  unfold meth
  clear h
  go_enter Try.func44, Try.ntmps44
  go_wp2_with (go_at_call 43; refine H.out.mono ?_; rintro e w2 ⟨rfl, r2⟩)
  go_ret
  exact ⟨rfl, r2⟩
theorem enStep_f43 {R : World → Prop} (c : w.cell? ⟨b, 3, none⟩ = some (meth 43 b)) (h : Calls Try.prog 43 #[.pointer (some ⟨b, 0, none⟩)] w fun e w' => e = .returned (.tuple #[]) ∧ R w') :
    Calls Try.prog 22 #[.pointer (some ⟨b, 0, none⟩)] w fun e w' => e = .returned (.bool true) ∧ R w' := by
  have H := Lib.hid (estep_f43 h)
  clear h
  go_enter Try.func22, Try.ntmps22
  go_wp2_with (go_at_call 44; refine H.out.mono ?_; rintro e w2 ⟨rfl, r2⟩)
  go_ret
  exact ⟨rfl, r2⟩
theorem estep_f54 {R : World → Prop} (h : Calls Try.prog 54 #[.pointer (some ⟨b, 0, none⟩)] w fun e w' => e = .returned (.tuple #[]) ∧ R w') :
    Calls Try.prog 44 #[meth 54 b] w fun e w' => e = .returned (.bool true) ∧ R w' := by
  have H := Lib.hid h
  have h1 := run_eql_func
  unfold meth
  clear h
  go_enter Try.func44, Try.ntmps44
  go_wp2_with (go_at_call 54; refine H.out.mono ?_; rintro e w2 ⟨rfl, r2⟩)
  go_ret
  exact ⟨rfl, r2⟩
theorem enStep_f54 {R : World → Prop} (c : w.cell? ⟨b, 3, none⟩ = some (meth 54 b)) (h : Calls Try.prog 54 #[.pointer (some ⟨b, 0, none⟩)] w fun e w' => e = .returned (.tuple #[]) ∧ R w') :
    Calls Try.prog 22 #[.pointer (some ⟨b, 0, none⟩)] w fun e w' => e = .returned (.bool true) ∧ R w' := by
  have H := Lib.hid (estep_f54 h)
  clear h
  go_enter Try.func22, Try.ntmps22
  go_wp2_with (go_at_call 44; refine H.out.mono ?_; rintro e w2 ⟨rfl, r2⟩)
  go_ret
  exact ⟨rfl, r2⟩
theorem estep_f45 {R : World → Prop} (h : Calls Try.prog 45 #[.pointer (some ⟨b, 0, none⟩)] w fun e w' => e = .returned (.tuple #[]) ∧ R w') :
    Calls Try.prog 44 #[meth 45 b] w fun e w' => e = .returned (.bool true) ∧ R w' := by
  have H := Lib.hid h
  have h1 := run_eql_func
  unfold meth
  clear h
  go_enter Try.func44, Try.ntmps44
  go_wp2_with (go_at_call 45; refine H.out.mono ?_; rintro e w2 ⟨rfl, r2⟩)
  go_ret
  exact ⟨rfl, r2⟩
theorem leStep_f45 {R : World → Prop} (c : w.cell? ⟨b, 2, none⟩ = some (meth 45 b)) (h : Calls Try.prog 45 #[.pointer (some ⟨b, 0, none⟩)] w fun e w' => e = .returned (.tuple #[]) ∧ R w') :
    Calls Try.prog 26 #[.pointer (some ⟨b, 0, none⟩)] w fun e w' => e = .returned (.bool true) ∧ R w' := by
  have H := Lib.hid (estep_f45 h)
  clear h
  go_enter Try.func26, Try.ntmps26
  go_wp2_with (go_at_call 44; refine H.out.mono ?_; rintro e w2 ⟨rfl, r2⟩)
  go_ret
  exact ⟨rfl, r2⟩
theorem estep_f46 {R : World → Prop} (h : Calls Try.prog 46 #[.pointer (some ⟨b, 0, none⟩)] w fun e w' => e = .returned (.tuple #[]) ∧ R w') :
    Calls Try.prog 44 #[meth 46 b] w fun e w' => e = .returned (.bool true) ∧ R w' := by
  have H := Lib.hid h
  have h1 := run_eql_func
  unfold meth
  clear h
  go_enter Try.func44, Try.ntmps44
  go_wp2_with (go_at_call 46; refine H.out.mono ?_; rintro e w2 ⟨rfl, r2⟩)
  go_ret
  exact ⟨rfl, r2⟩
theorem adStep_f46 {R : World → Prop} (c : w.cell? ⟨b, 4, none⟩ = some (meth 46 b)) (h : Calls Try.prog 46 #[.pointer (some ⟨b, 0, none⟩)] w fun e w' => e = .returned (.tuple #[]) ∧ R w') :
    Calls Try.prog 23 #[.pointer (some ⟨b, 0, none⟩)] w fun e w' => e = .returned (.bool true) ∧ R w' := by
  have H := Lib.hid (estep_f46 h)
  clear h
  go_enter Try.func23, Try.ntmps23
  go_wp2_with (go_at_call 44; refine H.out.mono ?_; rintro e w2 ⟨rfl, r2⟩)
  go_ret
  exact ⟨rfl, r2⟩
theorem estep_f56 {R : World → Prop} (h : Calls Try.prog 56 #[.pointer (some ⟨b, 0, none⟩)] w fun e w' => e = .returned (.tuple #[]) ∧ R w') :
    Calls Try.prog 44 #[meth 56 b] w fun e w' => e = .returned (.bool true) ∧ R w' := by
  have H := Lib.hid h
  have h1 := run_eql_func
  unfold meth
  clear h
  go_enter Try.func44, Try.ntmps44
  go_wp2_with (go_at_call 56; refine H.out.mono ?_; rintro e w2 ⟨rfl, r2⟩)
  go_ret
  exact ⟨rfl, r2⟩
theorem adStep_f56 {R : World → Prop} (c : w.cell? ⟨b, 4, none⟩ = some (meth 56 b)) (h : Calls Try.prog 56 #[.pointer (some ⟨b, 0, none⟩)] w fun e w' => e = .returned (.tuple #[]) ∧ R w') :
    Calls Try.prog 23 #[.pointer (some ⟨b, 0, none⟩)] w fun e w' => e = .returned (.bool true) ∧ R w' := by
  have H := Lib.hid (estep_f56 h)
  clear h
  go_enter Try.func23, Try.ntmps23
  go_wp2_with (go_at_call 44; refine H.out.mono ?_; rintro e w2 ⟨rfl, r2⟩)
  go_ret
  exact ⟨rfl, r2⟩
theorem estep_f60 {R : World → Prop} (h : Calls Try.prog 60 #[.pointer (some ⟨b, 0, none⟩)] w fun e w' => e = .returned (.tuple #[]) ∧ R w') :
    Calls Try.prog 44 #[meth 60 b] w fun e w' => e = .returned (.bool true) ∧ R w' := by
  have H := Lib.hid h
  have h1 := run_eql_func
  unfold meth
  clear h
  go_enter Try.func44, Try.ntmps44
  go_wp2_with (go_at_call 60; refine H.out.mono ?_; rintro e w2 ⟨rfl, r2⟩)
  go_ret
  exact ⟨rfl, r2⟩
theorem adStep_f60 {R : World → Prop} (c : w.cell? ⟨b, 4, none⟩ = some (meth 60 b)) (h : Calls Try.prog 60 #[.pointer (some ⟨b, 0, none⟩)] w fun e w' => e = .returned (.tuple #[]) ∧ R w') :
    Calls Try.prog 23 #[.pointer (some ⟨b, 0, none⟩)] w fun e w' => e = .returned (.bool true) ∧ R w' := by
  have H := Lib.hid (estep_f60 h)
  clear h
  go_enter Try.func23, Try.ntmps23
  go_wp2_with (go_at_call 44; refine H.out.mono ?_; rintro e w2 ⟨rfl, r2⟩)
  go_ret
  exact ⟨rfl, r2⟩
/-! ### What lies where -/
def enNx (b : Nat) (e : En) : Value := if e.i = 0 then meth 43 b else if e.i = 1 then meth 54 b else .nilFunc
def leNx (b : Nat) (d : Bool) : Value := if d then .nilFunc else meth 45 b
def adNx (b n : Nat) (a : Ad) : Value := if a.fin then .nilFunc else if a.i = 0 then meth 46 b else if a.i ≤ n then meth 56 b else meth 60 b
/-- An Enter of worker wk lies at b. -/
structure EnM (w : World) (b q wk : Nat) (e : En) : Prop where
  row : Whole w b 91 (enRow q wk e.ep (enNx b e))
  pin : e.i = 1 → pinB e.ep = true
  top : e.i ≤ 2
/-- A Leave, done or not. -/
structure LeM (w : World) (b q wk : Nat) (d : Bool) : Prop where
  row : Whole w b 96 (leRow q wk (leNx b d))
/-- An Advance over n workers. -/
structure AdM (w : World) (b q n : Nat) (a : Ad) : Prop where
  row : Whole w b 94 (adRow q a.old (min (a.i - 1) n) a.won (adNx b n a))
  o0 : 0 ≤ a.old
  o1 : a.old < 18446744073709551616
  top : a.fin = false → a.i ≤ n + 1
variable {e : En} {a : Ad} {d : Bool}
theorem EnM.else (P : EnM w b q wk e) {x : List Nat} (u : Else x w w') (h : b ∉ x) : EnM w' b q wk e := ⟨u.whole P.row h, P.pin, P.top⟩
theorem LeM.else (P : LeM w b q wk d) {x : List Nat} (u : Else x w w') (h : b ∉ x) : LeM w' b q wk d := ⟨u.whole P.row h⟩
theorem AdM.else (P : AdM w b q n a) {x : List Nat} (u : Else x w w') (h : b ∉ x) : AdM w' b q n a := ⟨u.whole P.row h, P.o0, P.o1, P.top⟩
theorem EnM.up (P : EnM w b q wk e) (u : Up w w') : EnM w' b q wk e := ⟨P.row.up u, P.pin, P.top⟩
theorem LeM.up (P : LeM w b q wk d) (u : Up w w') : LeM w' b q wk d := ⟨P.row.up u⟩
theorem AdM.up (P : AdM w b q n a) (u : Up w w') : AdM w' b q n a := ⟨P.row.up u, P.o0, P.o1, P.top⟩
theorem EnM.next (P : EnM w b q wk e) : w.cell? ⟨b, 3, none⟩ = some (enNx b e) := P.row.cell rfl
theorem LeM.next (P : LeM w b q wk d) : w.cell? ⟨b, 2, none⟩ = some (leNx b d) := P.row.cell rfl
theorem AdM.next (P : AdM w b q n a) : w.cell? ⟨b, 4, none⟩ = some (adNx b n a) := P.row.cell rfl
theorem AdM.wonc (P : AdM w b q n a) : w.cell? ⟨b, 3, none⟩ = some (.bool a.won) := P.row.cell rfl
theorem Epo.new_off (E : Epo w p g q at_ pn n s) (h : w.heap.size ≤ b) : Off b p g q := by
  have h1 := E.mem.top.lt
  have h2 := E.mem.row.lt
  have h3 := E.obj.lt
  exact ⟨by omega, by omega, by omega⟩
/-! ### Done, Won, Epoch -/
theorem enDone (P : EnM w b q wk e) {c : Bool} (h : decide (e.i = 2) = c) :
    Calls Try.prog 21 #[.pointer (some ⟨b, 0, none⟩)] w fun r w' => r = .returned (.bool c) ∧ w = w' := by
  have c3 := P.next
  have ht := P.top
  subst h
  unfold enNx at c3
  have h1 := run_eql_func
  have h2 := run_eql_nilFunc
  clear P
  rcases (show e.i = 0 ∨ e.i = 1 ∨ e.i = 2 by omega) with h | h | h
  · rw [h] at c3 ⊢
    simp only [if_true, meth] at c3
    go_enter Try.func21, Try.ntmps21
    go_wp2_with fail
    go_ret
    exact ⟨rfl, rfl⟩
  · rw [h] at c3 ⊢
    simp only [if_true, meth, if_neg (show ¬ (1 : Nat) = 0 by decide)] at c3
    go_enter Try.func21, Try.ntmps21
    go_wp2_with fail
    go_ret
    exact ⟨rfl, rfl⟩
  · rw [h] at c3 ⊢
    rw [if_neg (by decide), if_neg (by decide)] at c3
    go_enter Try.func21, Try.ntmps21
    go_wp2_with fail
    go_ret
    exact ⟨rfl, rfl⟩
theorem leDone (P : LeM w b q wk d) :
    Calls Try.prog 36 #[.pointer (some ⟨b, 0, none⟩)] w fun r w' => r = .returned (.bool d) ∧ w = w' := by
  have c3 := P.next
  unfold leNx meth at c3
  have h1 := run_eql_func
  have h2 := run_eql_nilFunc
  clear P
  cases d
  · rw [if_neg (by decide)] at c3
    go_enter Try.func36, Try.ntmps36
    go_wp2_with fail
    go_ret
    exact ⟨rfl, rfl⟩
  · rw [if_pos rfl] at c3
    go_enter Try.func36, Try.ntmps36
    go_wp2_with fail
    go_ret
    exact ⟨rfl, rfl⟩
theorem adNx_meth (b n : Nat) (h : a.fin = false) : ∃ f, adNx b n a = meth f b := by
  unfold adNx
  rw [h, if_neg (by decide)]
  split
  · exact ⟨_, rfl⟩
  · split
    · exact ⟨_, rfl⟩
    · exact ⟨_, rfl⟩
theorem adDone (P : AdM w b q n a) {c : Bool} (hc : a.fin = c) :
    Calls Try.prog 24 #[.pointer (some ⟨b, 0, none⟩)] w fun r w' => r = .returned (.bool c) ∧ w = w' := by
  have c3 := P.next
  have h1 := run_eql_func
  have h2 := run_eql_nilFunc
  clear P
  cases c
  · obtain ⟨f, hf⟩ := adNx_meth b n hc
    rw [hf] at c3
    unfold meth at c3
    go_enter Try.func24, Try.ntmps24
    go_wp2_with fail
    go_ret
    exact ⟨rfl, rfl⟩
  · unfold adNx at c3
    rw [if_pos hc] at c3
    go_enter Try.func24, Try.ntmps24
    go_wp2_with fail
    go_ret
    exact ⟨rfl, rfl⟩
theorem adWon (P : AdM w b q n a) {c : Bool} (hc : a.won = c) :
    Calls Try.prog 28 #[.pointer (some ⟨b, 0, none⟩)] w fun r w' => r = .returned (.bool c) ∧ w = w' := by
  have c3 := P.wonc
  rw [hc] at c3
  clear P
  go_enter Try.func28, Try.ntmps28
  go_wp2_with fail
  go_ret
  exact ⟨rfl, rfl⟩
theorem enEpoch (P : EnM w b q wk e) {y : Int} (h : e.i = 2) (hy : e.ep = y) :
    Calls Try.prog 34 #[.pointer (some ⟨b, 0, none⟩)] w fun r w' => r = .returned (.int .i64 y) ∧ w = w' := by
  have c2 := P.row.cell (i := 2) rfl
  have HD := Lib.hid (enDone P (decide_eq_true h))
  rw [hy] at c2
  clear P
  go_enter Try.func34, Try.ntmps34
  go_wp2_with (go_at_call 21; refine HD.out.mono ?_; rintro r w2 ⟨rfl, rfl⟩)
  go_ret
  exact ⟨rfl, rfl⟩
/-! ### The machines begin -/
set_option maxHeartbeats 1000000 in
theorem enNew (E : Epo w p g q at_ pn n s) (hw : wk < n) :
    Calls Try.prog 20 #[.pointer (some ⟨q, 0, none⟩), .int .i64 wk] w fun r w' => r = .returned (.tuple #[.pointer (some ⟨w.heap.size, 0, none⟩), .int .i64 0]) ∧ EnM w' w.heap.size q wk ⟨0, 0⟩ ∧ Up w w' := by
  have HE := Lib.hid (ehas_yes E (i := wk) (by omega) (by omega))
  have hf := run_func
  clear E
  go_enter Try.func20, Try.ntmps20
  go_wp2_with (go_at_call 39; refine HE.out.mono ?_; rintro r w2 ⟨rfl, rfl⟩)
  go_ret2
  exact ⟨rfl, ⟨Whole.new w _ _, by simp, by simp⟩, Up.alloc _ _⟩
theorem enNew_no (E : Epo w p g q at_ pn n s) {i : Int} (h : ¬ (0 ≤ i ∧ i < n)) :
    Calls Try.prog 20 #[.pointer (some ⟨q, 0, none⟩), .int .i64 i] w fun r w' => r = .returned (.tuple #[.pointer none, .int .i64 1]) ∧ w = w' := by
  have HE := Lib.hid (ehas_no E h)
  clear E h
  go_enter Try.func20, Try.ntmps20
  go_wp2_with (go_at_call 39; refine HE.out.mono ?_; rintro r w2 ⟨rfl, rfl⟩)
  go_ret2
  exact ⟨rfl, rfl⟩
set_option maxHeartbeats 1000000 in
theorem leNew (E : Epo w p g q at_ pn n s) (hw : wk < n) :
    Calls Try.prog 25 #[.pointer (some ⟨q, 0, none⟩), .int .i64 wk] w fun r w' => r = .returned (.tuple #[.pointer (some ⟨w.heap.size, 0, none⟩), .int .i64 0]) ∧ LeM w' w.heap.size q wk false ∧ Up w w' := by
  have HE := Lib.hid (ehas_yes E (i := wk) (by omega) (by omega))
  have hf := run_func
  clear E
  go_enter Try.func25, Try.ntmps25
  go_wp2_with (go_at_call 39; refine HE.out.mono ?_; rintro r w2 ⟨rfl, rfl⟩)
  go_ret2
  exact ⟨rfl, ⟨Whole.new w _ _⟩, Up.alloc _ _⟩
theorem leNew_no (E : Epo w p g q at_ pn n s) {i : Int} (h : ¬ (0 ≤ i ∧ i < n)) :
    Calls Try.prog 25 #[.pointer (some ⟨q, 0, none⟩), .int .i64 i] w fun r w' => r = .returned (.tuple #[.pointer none, .int .i64 1]) ∧ w = w' := by
  have HE := Lib.hid (ehas_no E h)
  clear E h
  go_enter Try.func25, Try.ntmps25
  go_wp2_with (go_at_call 39; refine HE.out.mono ?_; rintro r w2 ⟨rfl, rfl⟩)
  go_ret2
  exact ⟨rfl, rfl⟩
set_option maxHeartbeats 1000000 in
theorem adNew (w : World) (q n : Nat) :
    Calls Try.prog 27 #[.pointer (some ⟨q, 0, none⟩)] w fun r w' => r = .returned (.pointer (some ⟨w.heap.size, 0, none⟩)) ∧ AdM w' w.heap.size q n ⟨0, 0, false, false⟩ ∧ Up w w' := by
  have hf := run_func
  go_enter Try.func27, Try.ntmps27
  go_wp2_with fail
  go_ret
  refine ⟨rfl, ⟨?_, by decide, by decide, by simp⟩, Up.alloc _ _⟩
  have h := Whole.new w 94 (adRow q 0 0 false (meth 46 w.heap.size))
  simp only [Nat.zero_sub, Nat.zero_min]
  exact h
/-! ### Step -/
/-- What a Step of the machine at b leaves. -/
def Stp (w : World) (p g q at_ pn n b : Nat) (s : St) (xs : List Int) (M : World → Prop) (w' : World) : Prop :=
  ∃ s', s'.c = wrap64 (s.c + 1) ∧ s'.xs = xs ∧ Epo w' p g q at_ pn n s' ∧ M w' ∧ Else [b, p, g] w w'
theorem enStep (E : Epo w p g q at_ pn n s) (A : Off b p g q) (hw : wk < n) (P : EnM w b q wk e) (h : e.i < 2) :
    Calls Try.prog 22 #[.pointer (some ⟨b, 0, none⟩)] w fun r w' => r = .returned (.bool true) ∧ Stp w p g q at_ pn n b s (e.xs pn wk s.xs) (fun w' => EnM w' b q wk (e.go at_ s.xs)) w' := by
  obtain ⟨i, ep⟩ := e
  have hn := P.next
  have hr := P.row
  unfold enNx at hn hr
  dsimp only at h hn hr
  rcases (show i = 0 ∨ i = 1 by omega) with rfl | rfl
  · simp only [if_true] at hn hr
    have ho := E.ok at_
    refine (enStep_f43 hn (enter_load E A hr rfl)).mono ?_
    rintro r w1 ⟨rfl, R1, M1, E1⟩
    refine ⟨rfl, _, rfl, read_xs _ _ _ _, E.turn M1 E1 (A.q3 E) (E.ok.hit _ _ _ ho.1 ho.2) (hit_len _ _ _ _ _), ⟨R1, fun _ => epN_pin ho.1, by simp [En.go]⟩, E1⟩
  · simp only [if_true, if_neg (show ¬ (1 : Nat) = 0 by decide)] at hn hr
    have ho := pinV_in ep
    refine (enStep_f54 hn (enter_store E A hw hr (P.pin rfl) rfl)).mono ?_
    rintro r w1 ⟨rfl, R1, M1, E1⟩
    refine ⟨rfl, _, rfl, ?_, E.turn M1 E1 (A.q3 E) (E.ok.hit _ _ _ ho.1 ho.2) (hit_len _ _ _ _ _), ⟨R1, by simp [En.go], by simp [En.go]⟩, E1⟩
    unfold St.hit En.xs
    dsimp only
    rw [if_neg (by decide), show ((pn : Int) + wk).toNat = pn + wk by omega]
theorem enStep_no (P : EnM w b q wk e) (h : e.i = 2) :
    Calls Try.prog 22 #[.pointer (some ⟨b, 0, none⟩)] w fun r w' => r = .returned (.bool false) ∧ w = w' := by
  have c3 := P.next
  unfold enNx at c3
  rw [h, if_neg (by decide), if_neg (by decide)] at c3
  clear P
  go_enter Try.func22, Try.ntmps22
  go_wp2_with (go_at_call 44; refine (estep_end _).mono ?_; rintro r w2 ⟨rfl, rfl⟩)
  go_ret
  exact ⟨rfl, rfl⟩
theorem leStep (E : Epo w p g q at_ pn n s) (A : Off b p g q) (hw : wk < n) (P : LeM w b q wk false) :
    Calls Try.prog 26 #[.pointer (some ⟨b, 0, none⟩)] w fun r w' => r = .returned (.bool true) ∧ Stp w p g q at_ pn n b s (s.xs.set (pn + wk) 0) (fun w' => LeM w' b q wk true) w' := by
  refine (leStep_f45 P.next (leave_store E A hw P.row)).mono ?_
  rintro r w1 ⟨rfl, R1, M1, E1⟩
  refine ⟨rfl, _, rfl, ?_, E.turn M1 E1 (A.q3 E) (E.ok.hit _ _ _ (by decide) (by decide)) (hit_len _ _ _ _ _), ⟨R1⟩, E1⟩
  unfold St.hit
  dsimp only
  rw [show ((pn : Int) + wk).toNat = pn + wk by omega]
theorem adStep (E : Epo w p g q at_ pn n s) (A : Off b p g q) (P : AdM w b q n a) (h : a.fin = false) :
    Calls Try.prog 23 #[.pointer (some ⟨b, 0, none⟩)] w fun r w' => r = .returned (.bool true) ∧ Stp w p g q at_ pn n b s (a.xs at_ n s.xs) (fun w' => AdM w' b q n (a.go at_ pn n s.xs)) w' := by
  obtain ⟨i, old, won, fin⟩ := a
  obtain ⟨hr, o0, o1, top⟩ := P
  dsimp only at h hr o0 o1 top
  subst h
  have hi := top rfl
  have hn : w.cell? ⟨b, 4, none⟩ = some (adNx b n ⟨i, old, won, false⟩) := hr.cell rfl
  unfold adNx at hn hr
  dsimp only at hn hr
  rw [if_neg (by decide)] at hn hr
  by_cases h0 : i = 0
  · subst h0
    rw [if_pos rfl] at hn hr
    have ho := E.ok at_
    refine (adStep_f46 hn (adv_load E A hr)).mono ?_
    rintro r w1 ⟨rfl, R1, M1, E1⟩
    refine ⟨rfl, _, rfl, ?_, E.turn M1 E1 (A.q3 E) (E.ok.hit _ _ _ ho.1 ho.2) (hit_len _ _ _ _ _), ⟨?_, ho.1, ho.2, by simp [Ad.go]⟩, E1⟩
    · rw [read_xs]; unfold Ad.xs; rw [if_neg (by simp)]
    · have e1 : adNx b n ⟨1, s.xs.getD at_ 0, won, false⟩ = meth 56 b := by
        have := E.n0
        simp [adNx, this]
      have e2 : Ad.go at_ pn n s.xs ⟨0, old, won, false⟩ = ⟨1, s.xs.getD at_ 0, won, false⟩ := by simp [Ad.go]
      rw [e2, e1]
      simp only [Nat.zero_sub, Nat.zero_min, Nat.sub_self] at R1 ⊢
      exact R1
  · rw [if_neg h0] at hn hr
    by_cases h1 : i ≤ n
    · rw [if_pos h1] at hn hr
      have ek : min (i - 1) n = i - 1 := by omega
      rw [ek] at hr
      have ho := E.ok ((pn : Int) + (i - 1 : Nat))
      refine (adStep_f56 hn (adv_pin E A (by omega) o0 hr)).mono ?_
      rintro r w1 ⟨rfl, R1, M1, E1⟩
      have eg : s.get ((pn : Int) + (i - 1 : Nat)) = s.xs.getD (pn + (i - 1)) 0 := by
        unfold St.get; rw [show ((pn : Int) + (i - 1 : Nat)).toNat = pn + (i - 1) by omega]
      have e2 : Ad.go at_ pn n s.xs ⟨i, old, won, false⟩ = ⟨i + 1, old, won, Ad.bar pn s.xs ⟨i, old, won, false⟩⟩ := by simp [Ad.go, h0, h1]
      refine ⟨rfl, _, rfl, ?_, E.turn M1 E1 (A.q3 E) (E.ok.hit _ _ _ ho.1 ho.2) (hit_len _ _ _ _ _), ?_, E1⟩
      · rw [read_xs]; unfold Ad.xs; rw [if_neg (by dsimp only; omega)]
      · show AdM w1 b q n (Ad.go at_ pn n s.xs ⟨i, old, won, false⟩)
        rw [e2]
        refine ⟨?_, o0, o1, fun _ => by dsimp only; omega⟩
        have e3 : adNx b n ⟨i + 1, old, won, Ad.bar pn s.xs ⟨i, old, won, false⟩⟩ = pinNx b n (i - 1) (Ad.bar pn s.xs ⟨i, old, won, false⟩) := by
          unfold adNx pinNx
          dsimp only
          split
          · rfl
          · rw [if_neg (by omega)]
            by_cases h2 : i - 1 + 1 = n
            · rw [if_pos h2, if_neg (by omega)]
            · rw [if_neg h2, if_pos (by omega)]
        rw [e3]
        dsimp only
        rw [show min (i + 1 - 1) n = i - 1 + 1 by omega]
        rw [eg] at R1
        exact R1
    · rw [if_neg h1] at hn hr
      have hi2 : i = n + 1 := by omega
      have em : min (i - 1) n = min (i + 1 - 1) n := by omega
      rw [em] at hr
      by_cases h2 : s.get at_ = old
      · have hu := upN_in old
        refine (adStep_f60 hn (adv_turn E A hr (fun m => cas_yes _ m E.hasA h2))).mono ?_
        rintro r w1 ⟨rfl, R1, M1, E1⟩
        have h3 : s.xs.getD at_ 0 = old := h2
        have e2 : Ad.go at_ pn n s.xs ⟨i, old, won, false⟩ = ⟨i + 1, old, true, true⟩ := by
          unfold Ad.go; dsimp only; rw [if_neg h0, if_neg h1, decide_eq_true h3]
        refine ⟨rfl, _, rfl, ?_, E.turn M1 E1 (A.q3 E) (E.ok.hit _ _ _ hu.1 hu.2) (hit_len _ _ _ _ _), ?_, E1⟩
        · unfold Ad.xs; rw [if_pos ⟨by dsimp only; omega, h3⟩]; rfl
        · show AdM w1 b q n (Ad.go at_ pn n s.xs ⟨i, old, won, false⟩)
          rw [e2]
          exact ⟨R1, o0, o1, by simp⟩
      · have ho := E.ok at_
        refine (adStep_f60 hn (adv_turn E A hr (fun m => cas_no _ m E.hasA h2))).mono ?_
        rintro r w1 ⟨rfl, R1, M1, E1⟩
        have h3 : ¬ s.xs.getD at_ 0 = old := h2
        have e2 : Ad.go at_ pn n s.xs ⟨i, old, won, false⟩ = ⟨i + 1, old, false, true⟩ := by
          unfold Ad.go; dsimp only; rw [if_neg h0, if_neg h1, decide_eq_false h3]
        refine ⟨rfl, _, rfl, ?_, E.turn M1 E1 (A.q3 E) (E.ok.hit _ _ _ ho.1 ho.2) (hit_len _ _ _ _ _), ?_, E1⟩
        · rw [read_xs]; unfold Ad.xs; rw [if_neg (fun h => h3 h.2)]
        · show AdM w1 b q n (Ad.go at_ pn n s.xs ⟨i, old, won, false⟩)
          rw [e2]
          exact ⟨R1, o0, o1, by simp⟩
theorem adStep_no (P : AdM w b q n a) (h : a.fin = true) :
    Calls Try.prog 23 #[.pointer (some ⟨b, 0, none⟩)] w fun r w' => r = .returned (.bool false) ∧ w = w' := by
  have c3 := P.next
  unfold adNx at c3
  rw [if_pos h] at c3
  clear P
  go_enter Try.func23, Try.ntmps23
  go_wp2_with (go_at_call 44; refine (estep_end _).mono ?_; rintro r w2 ⟨rfl, rfl⟩)
  go_ret
  exact ⟨rfl, rfl⟩
end
end Go.Proofs.Ytngaokhlcdlpfaa
