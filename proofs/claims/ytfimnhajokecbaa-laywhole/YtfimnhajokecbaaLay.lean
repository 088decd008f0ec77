/-
  The contracts of package lay.
-/
import Derived.Test.YtfimnhajokecbaaLayConf
import Derived.Test.YtfimnhajokecbaaQuietUp
namespace Go.Proofs.Ytfimnhajokecbaa
open Go.RowKit

/-- Where the roots, the slots, the links, the words begin, as the program reckons it. -/
def frV (c : Cf) : Int := IntKind.i64.wrap (3 + c.wk)
def fsV (c : Cf) : Int := IntKind.i64.wrap (frV c + c.sl)
def flV (c : Cf) : Int := IntKind.i64.wrap (fsV c + c.sl)
def fwV (c : Cf) : Int := IntKind.i64.wrap (flV c + c.ch)
theorem wrap_in {n : Int} (h0 : -9223372036854775808 ≤ n) (h1 : n < 9223372036854775808) : IntKind.i64.wrap n = n := by
  rw [IntKind.wrap_i64]; omega
theorem frV_is {c : Cf} (h : mayB c = true) : frV c = 3 + c.wk := by
  obtain ⟨⟨_, _⟩, ⟨_, _⟩, _, ⟨_, _⟩, _⟩ := mayB_iff.1 h
  unfold frV; rw [wrap_in (by omega) (by omega)]
theorem fsV_is {c : Cf} (h : mayB c = true) : fsV c = 3 + c.wk + c.sl := by
  obtain ⟨⟨_, _⟩, ⟨_, _⟩, _, ⟨_, _⟩, _⟩ := mayB_iff.1 h
  unfold fsV; rw [frV_is h, wrap_in (by omega) (by omega)]
theorem flV_is {c : Cf} (h : mayB c = true) : flV c = 3 + c.wk + 2 * c.sl := by
  obtain ⟨⟨_, _⟩, ⟨_, _⟩, _, ⟨_, _⟩, _⟩ := mayB_iff.1 h
  unfold flV; rw [fsV_is h, wrap_in (by omega) (by omega)]; omega
theorem fwV_is {c : Cf} (h : mayB c = true) : fwV c = fwN c := by
  obtain ⟨⟨_, _⟩, ⟨_, _⟩, _, ⟨_, _⟩, _⟩ := mayB_iff.1 h
  unfold fwV; rw [flV_is h, wrap_in (by omega) (by omega)]; unfold fwN; omega

set_option maxHeartbeats 400000 in
theorem firstRoot_any (c : Cf) (w : World) :
    Calls Try.prog 28 #[c.v] w fun e w' => e = .returned (.int .i64 (frV c)) ∧ Up w w' := by
  go_enter Try.func28, Try.ntmps28
  go_wp2
  go_ret
  exact ⟨ret_int (by unfold frV wrap64; rw [IntKind.wrap_i64]), Up.alloc _ _⟩
set_option maxHeartbeats 400000 in
theorem firstSlot_any (c : Cf) (w : World) :
    Calls Try.prog 29 #[c.v] w fun e w' => e = .returned (.int .i64 (fsV c)) ∧ Up w w' := by
  have hat := c.at_new w
  go_enter Try.func29, Try.ntmps29
  go_wp2_with fail
  go_region_held3 (fun w' => w'.cell? ⟨w.heap.size, 0, none⟩ = some (.int .i64 c.wk) ∧ w'.cell? ⟨w.heap.size, 1, none⟩ = some (.int .i64 c.ch) ∧ w'.cell? ⟨w.heap.size, 2, none⟩ = some (.int .i64 c.wo) ∧ w'.cell? ⟨w.heap.size, 3, none⟩ = some (.int .i64 c.sl) ∧ w'.cell? ⟨w.heap.size, 4, none⟩ = some (.int .i64 c.ca) ∧ w'.cell? ⟨w.heap.size, 5, none⟩ = some (.int .i64 c.ba) ∧ Up (w.alloc c.box) w')
    (first | exact hat.with (up_drew _) | exact hat.with (by assumption))
    (first
      | (go_at_call 28; refine (calls_up (up_drew _) (firstRoot_any c _)).mono ?_; rintro e wA ⟨rfl, uA⟩))
  all_goals
    go_wp2
    go_ret
    exact ⟨rfl, (Up.alloc _ _).trans (by assumption)⟩
set_option maxHeartbeats 400000 in
theorem firstLink_any (c : Cf) (w : World) :
    Calls Try.prog 30 #[c.v] w fun e w' => e = .returned (.int .i64 (flV c)) ∧ Up w w' := by
  have hat := c.at_new w
  go_enter Try.func30, Try.ntmps30
  go_wp2_with fail
  go_region_held3 (fun w' => w'.cell? ⟨w.heap.size, 0, none⟩ = some (.int .i64 c.wk) ∧ w'.cell? ⟨w.heap.size, 1, none⟩ = some (.int .i64 c.ch) ∧ w'.cell? ⟨w.heap.size, 2, none⟩ = some (.int .i64 c.wo) ∧ w'.cell? ⟨w.heap.size, 3, none⟩ = some (.int .i64 c.sl) ∧ w'.cell? ⟨w.heap.size, 4, none⟩ = some (.int .i64 c.ca) ∧ w'.cell? ⟨w.heap.size, 5, none⟩ = some (.int .i64 c.ba) ∧ Up (w.alloc c.box) w')
    (first | exact hat.with (up_drew _) | exact hat.with (by assumption))
    (first
      | (go_at_call 29; refine (calls_up (up_drew _) (firstSlot_any c _)).mono ?_; rintro e wA ⟨rfl, uA⟩))
  all_goals
    go_wp2
    go_ret
    exact ⟨rfl, (Up.alloc _ _).trans (by assumption)⟩
set_option maxHeartbeats 400000 in
theorem firstWord_any (c : Cf) (w : World) :
    Calls Try.prog 31 #[c.v] w fun e w' => e = .returned (.int .i64 (fwV c)) ∧ Up w w' := by
  have hat := c.at_new w
  go_enter Try.func31, Try.ntmps31
  go_wp2_with fail
  go_region_held3 (fun w' => w'.cell? ⟨w.heap.size, 0, none⟩ = some (.int .i64 c.wk) ∧ w'.cell? ⟨w.heap.size, 1, none⟩ = some (.int .i64 c.ch) ∧ w'.cell? ⟨w.heap.size, 2, none⟩ = some (.int .i64 c.wo) ∧ w'.cell? ⟨w.heap.size, 3, none⟩ = some (.int .i64 c.sl) ∧ w'.cell? ⟨w.heap.size, 4, none⟩ = some (.int .i64 c.ca) ∧ w'.cell? ⟨w.heap.size, 5, none⟩ = some (.int .i64 c.ba) ∧ Up (w.alloc c.box) w')
    (first | exact hat.with (up_drew _) | exact hat.with (by assumption))
    (first
      | (go_at_call 30; refine (calls_up (up_drew _) (firstLink_any c _)).mono ?_; rintro e wA ⟨rfl, uA⟩))
  all_goals
    go_wp2
    go_ret
    exact ⟨rfl, (Up.alloc _ _).trans (by assumption)⟩

set_option maxHeartbeats 1000000 in
theorem len_any (c : Cf) (w : World) :
    Calls Try.prog 12 #[c.v] w fun e w' => e = .returned (.int .i64 (lenN c)) ∧ Up w w' := by
  have hat := c.at_new w
  cases hm : mayB c
  · rw [lenN_no hm]
    have H := Lib.hid hm
    clear hm
    go_enter Try.func12, Try.ntmps12
    go_wp2_with (go_at_call 10; refine (may_any c _).mono ?_; rw [H.out]; rintro e wA ⟨rfl, uA⟩)
    go_ret
    exact ⟨rfl, (Up.alloc _ _).trans uA⟩
  · rw [lenN_is hm]
    have H := Lib.hid hm
    have F := Lib.hid (fwV_is hm)
    obtain ⟨⟨_, _⟩, ⟨m0, m1⟩, ⟨n0, n1, _⟩, ⟨_, _⟩, _⟩ := mayB_iff.1 hm
    obtain ⟨p0, p1⟩ := mul_in (show 0 ≤ c.ch by omega) m1 (show 0 ≤ c.wo by omega) n1
    have q : 0 ≤ fwN c ∧ fwN c ≤ 20000 := by unfold fwN; omega
    obtain ⟨q0, q1⟩ := q
    have s1 : IntKind.i64.wrap (c.ch * c.wo) = c.ch * c.wo := wrap_in (by omega) (by omega)
    have s2 : IntKind.i64.wrap (fwN c + c.ch * c.wo) = fwN c + c.ch * c.wo := wrap_in (by omega) (by omega)
    clear hm
    go_enter Try.func12, Try.ntmps12
    go_wp2_with (go_at_call 10; refine (may_any c _).mono ?_; rw [H.out]; rintro e wA ⟨rfl, uA⟩; replace hat := hat.up uA)
    go_region_held3 (fun w' => w'.cell? ⟨w.heap.size, 0, none⟩ = some (.int .i64 c.wk) ∧ w'.cell? ⟨w.heap.size, 1, none⟩ = some (.int .i64 c.ch) ∧ w'.cell? ⟨w.heap.size, 2, none⟩ = some (.int .i64 c.wo) ∧ w'.cell? ⟨w.heap.size, 3, none⟩ = some (.int .i64 c.sl) ∧ w'.cell? ⟨w.heap.size, 4, none⟩ = some (.int .i64 c.ca) ∧ w'.cell? ⟨w.heap.size, 5, none⟩ = some (.int .i64 c.ba) ∧ Up wA w')
      (first | exact hat.with (up_drew _) | exact hat.with (by assumption))
      (first
        | (go_at_call 31; refine (calls_up (up_drew _) (firstWord_any c _)).mono ?_; rw [F.out]; rintro e wB ⟨rfl, uB⟩))
    all_goals
      go_wp2
      go_ret
      exact ⟨rfl, (Up.alloc _ _).trans (uA.trans (by assumption))⟩

set_option maxHeartbeats 1000000 in
theorem one_any (c : Cf) (f i m : Int) (w : World) (h : mayB c = true → (0 ≤ f ∧ f ≤ 100000000) ∧ (0 ≤ m ∧ m ≤ 100000000)) :
    Calls Try.prog 34 #[c.v, .int .i64 f, .int .i64 i, .int .i64 m] w fun e w' => e = .returned (.int .i64 (atN c f m i)) ∧ Up w w' := by
  cases hm : mayB c
  · rw [atN_no (.inl hm)]
    have H := Lib.hid hm
    clear hm h
    go_enter Try.func34, Try.ntmps34
    go_wp2_with (go_at_call 10; refine (may_any c _).mono ?_; rw [H.out]; rintro e wA ⟨rfl, uA⟩)
    go_ret
    exact ⟨rfl, (Up.alloc _ _).trans uA⟩
  · obtain ⟨⟨f0, f1⟩, m0, m1⟩ := h hm
    have H := Lib.hid hm
    by_cases hi : 0 ≤ i ∧ i ≤ m - 1
    · obtain ⟨i0, i1⟩ := hi
      rw [atN_is hm i0 (by omega)]
      have E := Lib.hid (dec_yes (show 0 ≤ i ∧ i ≤ m - 1 from ⟨i0, i1⟩))
      clear hm h
      go_enter Try.func34, Try.ntmps34
      go_wp2_with (first
        | (go_at_call 10; refine (may_any c _).mono ?_; rw [H.out]; rintro e wA ⟨rfl, uA⟩)
        | (go_at_call 32; (with_reducible refine (from_is E.out _).mono ?_); rintro e w' ⟨rfl, rfl⟩))
      go_ret
      exact ⟨rfl, (Up.alloc _ _).trans uA⟩
    · rw [atN_no (.inr (by omega))]
      have E := Lib.hid (dec_no hi)
      clear hm h hi
      go_enter Try.func34, Try.ntmps34
      go_wp2_with (first
        | (go_at_call 10; refine (may_any c _).mono ?_; rw [H.out]; rintro e wA ⟨rfl, uA⟩)
        | (go_at_call 32; (with_reducible refine (from_is E.out _).mono ?_); rintro e w' ⟨rfl, rfl⟩))
      go_ret
      exact ⟨rfl, (Up.alloc _ _).trans uA⟩

set_option maxHeartbeats 1000000 in
theorem pin_any (c : Cf) (i : Int) (w : World) :
    Calls Try.prog 14 #[c.v, .int .i64 i] w fun e w' => e = .returned (.int .i64 (pinN c i)) ∧ Up w w' := by
  have hat := c.at_new w
  have B : mayB c = true → (0 ≤ (3 : Int) ∧ (3 : Int) ≤ 100000000) ∧ (0 ≤ c.wk ∧ c.wk ≤ 100000000) := fun hm => by
    obtain ⟨⟨_, _⟩, ⟨_, _⟩, _, ⟨_, _⟩, _⟩ := mayB_iff.1 hm
    omega
  have B' := Lib.hid B
  clear B
  go_enter Try.func14, Try.ntmps14
  go_wp2_with (go_at_call 34; refine (one_any c _ _ _ _ B'.out).mono ?_; rintro e wB ⟨rfl, uB⟩)
  go_ret
  exact ⟨rfl, (Up.alloc _ _).trans uB⟩

set_option maxHeartbeats 1000000 in
theorem root_any (c : Cf) (i : Int) (w : World) :
    Calls Try.prog 16 #[c.v, .int .i64 i] w fun e w' => e = .returned (.int .i64 (rootN c i)) ∧ Up w w' := by
  have hat := c.at_new w
  have B : mayB c = true → (0 ≤ frV c ∧ frV c ≤ 100000000) ∧ (0 ≤ c.sl ∧ c.sl ≤ 100000000) := fun hm => by
    obtain ⟨⟨_, _⟩, ⟨_, _⟩, _, ⟨_, _⟩, _⟩ := mayB_iff.1 hm
    rw [frV_is hm]; omega
  have E : atN c (frV c) c.sl i = rootN c i := by
    unfold rootN
    cases hm : mayB c
    · rw [atN_no (.inl hm), atN_no (.inl hm)]
    · rw [frV_is hm]
  have B' := Lib.hid B
  have E' := Lib.hid E
  clear B E
  go_enter Try.func16, Try.ntmps16
  go_wp2_with fail
  go_region_held3 (fun w' => w'.cell? ⟨w.heap.size, 0, none⟩ = some (.int .i64 c.wk) ∧ w'.cell? ⟨w.heap.size, 1, none⟩ = some (.int .i64 c.ch) ∧ w'.cell? ⟨w.heap.size, 2, none⟩ = some (.int .i64 c.wo) ∧ w'.cell? ⟨w.heap.size, 3, none⟩ = some (.int .i64 c.sl) ∧ w'.cell? ⟨w.heap.size, 4, none⟩ = some (.int .i64 c.ca) ∧ w'.cell? ⟨w.heap.size, 5, none⟩ = some (.int .i64 c.ba) ∧ Up (w.alloc c.box) w')
    (first | exact hat.with (up_drew _) | exact hat.with (by assumption))
    (first
      | (go_at_call 28; refine (calls_up (up_drew _) (firstRoot_any c _)).mono ?_; rintro e wA ⟨rfl, uA⟩)
      | (go_at_call 34; refine (calls_up uA (one_any c _ _ _ _ B'.out)).mono ?_; rw [E'.out]; rintro e wB ⟨rfl, uB⟩))
  all_goals
    go_wp2
    go_ret
    exact ⟨rfl, (Up.alloc _ _).trans uB⟩

set_option maxHeartbeats 1000000 in
theorem slot_any (c : Cf) (i : Int) (w : World) :
    Calls Try.prog 18 #[c.v, .int .i64 i] w fun e w' => e = .returned (.int .i64 (slotN c i)) ∧ Up w w' := by
  have hat := c.at_new w
  have B : mayB c = true → (0 ≤ fsV c ∧ fsV c ≤ 100000000) ∧ (0 ≤ c.sl ∧ c.sl ≤ 100000000) := fun hm => by
    obtain ⟨⟨_, _⟩, ⟨_, _⟩, _, ⟨_, _⟩, _⟩ := mayB_iff.1 hm
    rw [fsV_is hm]; omega
  have E : atN c (fsV c) c.sl i = slotN c i := by
    unfold slotN
    cases hm : mayB c
    · rw [atN_no (.inl hm), atN_no (.inl hm)]
    · rw [fsV_is hm]
  have B' := Lib.hid B
  have E' := Lib.hid E
  clear B E
  go_enter Try.func18, Try.ntmps18
  go_wp2_with fail
  go_region_held3 (fun w' => w'.cell? ⟨w.heap.size, 0, none⟩ = some (.int .i64 c.wk) ∧ w'.cell? ⟨w.heap.size, 1, none⟩ = some (.int .i64 c.ch) ∧ w'.cell? ⟨w.heap.size, 2, none⟩ = some (.int .i64 c.wo) ∧ w'.cell? ⟨w.heap.size, 3, none⟩ = some (.int .i64 c.sl) ∧ w'.cell? ⟨w.heap.size, 4, none⟩ = some (.int .i64 c.ca) ∧ w'.cell? ⟨w.heap.size, 5, none⟩ = some (.int .i64 c.ba) ∧ Up (w.alloc c.box) w')
    (first | exact hat.with (up_drew _) | exact hat.with (by assumption))
    (first
      | (go_at_call 29; refine (calls_up (up_drew _) (firstSlot_any c _)).mono ?_; rintro e wA ⟨rfl, uA⟩)
      | (go_at_call 34; refine (calls_up uA (one_any c _ _ _ _ B'.out)).mono ?_; rw [E'.out]; rintro e wB ⟨rfl, uB⟩))
  all_goals
    go_wp2
    go_ret
    exact ⟨rfl, (Up.alloc _ _).trans uB⟩

set_option maxHeartbeats 1000000 in
theorem link_any (c : Cf) (i : Int) (w : World) :
    Calls Try.prog 20 #[c.v, .int .i64 i] w fun e w' => e = .returned (.int .i64 (linkN c i)) ∧ Up w w' := by
  have hat := c.at_new w
  have B : mayB c = true → (0 ≤ flV c ∧ flV c ≤ 100000000) ∧ (0 ≤ c.ch ∧ c.ch ≤ 100000000) := fun hm => by
    obtain ⟨⟨_, _⟩, ⟨_, _⟩, _, ⟨_, _⟩, _⟩ := mayB_iff.1 hm
    rw [flV_is hm]; omega
  have E : atN c (flV c) c.ch i = linkN c i := by
    unfold linkN
    cases hm : mayB c
    · rw [atN_no (.inl hm), atN_no (.inl hm)]
    · rw [flV_is hm]
  have B' := Lib.hid B
  have E' := Lib.hid E
  clear B E
  go_enter Try.func20, Try.ntmps20
  go_wp2_with fail
  go_region_held3 (fun w' => w'.cell? ⟨w.heap.size, 0, none⟩ = some (.int .i64 c.wk) ∧ w'.cell? ⟨w.heap.size, 1, none⟩ = some (.int .i64 c.ch) ∧ w'.cell? ⟨w.heap.size, 2, none⟩ = some (.int .i64 c.wo) ∧ w'.cell? ⟨w.heap.size, 3, none⟩ = some (.int .i64 c.sl) ∧ w'.cell? ⟨w.heap.size, 4, none⟩ = some (.int .i64 c.ca) ∧ w'.cell? ⟨w.heap.size, 5, none⟩ = some (.int .i64 c.ba) ∧ Up (w.alloc c.box) w')
    (first | exact hat.with (up_drew _) | exact hat.with (by assumption))
    (first
      | (go_at_call 30; refine (calls_up (up_drew _) (firstLink_any c _)).mono ?_; rintro e wA ⟨rfl, uA⟩)
      | (go_at_call 34; refine (calls_up uA (one_any c _ _ _ _ B'.out)).mono ?_; rw [E'.out]; rintro e wB ⟨rfl, uB⟩))
  all_goals
    go_wp2
    go_ret
    exact ⟨rfl, (Up.alloc _ _).trans uB⟩
end Go.Proofs.Ytfimnhajokecbaa
