/-
  Texts beneath SupplyAll, part 34: SupGives, SupEach, SupEach2.
-/
import Derived.Test.YtkopplnjomkleaaGreatPart33
/-
  One supply alone with a Give (LoneG): Spill, All, the statements' own gives.
-/
namespace Go.Proofs.YtkopplnjomkleaaGreat
open Go.RowKit
open W64
set_option maxRecDepth 100000
set_option linter.unusedSimpArgs false
structure LoneG (W w : World) (l : Lia) (xs : List Int) (d : SuD) (vS vX : Value) (st : List Int) (R : Lb) (bg : Nat) (O : List Nat) (mc : Mc) : Prop where
  lone : Lone W w l xs d vS vX st R
  gv : UGvM w bg d.q l.n mc O
  dis : ∀ x ∈ O, x ∉ d.F
  far : ∀ x ∈ O, x ≠ l.a ∧ x ≠ l.p ∧ x ≠ l.g ∧ x ≠ l.q0 ∧ x ≠ d.q
  nO : ∀ x ∈ O, W.heap.size ≤ x
  gO : ∀ x o, l.gs x = some o → x ∉ O
section
variable {W w w1 w' : World} {l : Lia} {xs xs' : List Int} {d : SuD} {vS vX : Value} {st st' : List Int} {R R' : Lb} {bg b K dd : Nat} {O F : List Nat} {mc mc' : Mc} {T S lg : List Nat}
theorem LoneG.made (A : Lone W w l xs d vS vX st R) (M : UGvMade w w' bg d.b l.p d.q l.c.ba d.qs d.ql l.n d.F l.m st' R' mc) : ∃ F' O, LoneG W w' l xs (d.re F') vS vX st' R' bg O mc := by
  obtain ⟨O, G, nO, F', ⟨S, dis⟩, N, E⟩ := M
  obtain ⟨i1, i2, i3, i4, i5⟩ := A.ins
  obtain ⟨n1, n2⟩ := A.next N
  obtain ⟨s, h, E0, E1⟩ := A.sm
  obtain ⟨l1, l2, l3, l4, l5⟩ := A.lts
  have hu := A.up.size
  refine ⟨F', O, ⟨E.whole A.obj i1, ⟨s, h, E0.else E i2 i3 i4, E1.else E i2 i3 i5⟩, S, n1, n2, A.nw, Else.up_new A.up E (fun x hx => A.nF x hx), A.guests N E (fun x o h => (A.gst x o h).2.1)⟩, G, dis, fun x hx => ?_, fun x hx => ?_, fun x o h hx => ?_⟩
  · have e : (d.re F').q = d.q := rfl
    rw [e]
    rcases nO x hx with h | h
    · exact A.far x h
    · omega
  · rcases nO x hx with h | h
    · exact A.nF x h
    · omega
  · rcases nO x hx with h2 | h2
    · exact (A.gst x o h).2.1 h2
    · have := some_lt (A.gst x o h).1; omega
theorem LoneG.in_ (A : LoneG W w l xs d vS vX st R bg O mc) : ∃ s : St, s.xs = xs ∧ UGvIn w bg l.p l.g d.q l.lk l.n s O mc ∧ Env w l.p l.g l.q0 0 l.lk l.n s := by
  obtain ⟨s, h, E0, E1⟩ := A.lone.sm
  exact ⟨s, h, ⟨A.gv, E1, fun x hx => by have := A.far x hx; exact ⟨this.2.1, this.2.2.1, this.2.2.2.2⟩⟩, E0⟩
theorem LoneG.out (A : LoneG W w l xs d vS vX st R bg O mc) (hlen : xs'.length = xs.length) {c : Int} (U : UGvOut w w' bg l.p l.g d.q l.lk l.n c xs' O mc') : LoneG W w' l xs' d vS vX st R bg O mc' := by
  obtain ⟨s', hc, hx, J, E⟩ := U
  obtain ⟨s, hs, I, E0⟩ := A.in_
  have hu := A.lone.up.size
  have ha : l.a ∉ l.p :: l.g :: O := by
    simp
    exact ⟨A.lone.obj.ne_type E0.mem.top (by decide), A.lone.obj.ne_type E0.mem.row (by decide), fun h => (A.far _ h).1 rfl⟩
  have hq0 : l.q0 ∉ l.p :: l.g :: O := by
    simp
    exact ⟨E0.np, E0.ng, fun h => (A.far _ h).2.2.2.1 rfl⟩
  have E0' := E0.went J.env.mem E hq0 J.env.ok (by rw [hx, hs, hlen])
  refine ⟨⟨E.whole A.lone.obj ha, ⟨s', hx, E0', J.env⟩, A.lone.su.else E (fun x h => ?_), A.lone.far, A.lone.nF, A.lone.nw, Else.up_new A.lone.up E (fun x h => ?_), A.lone.guests (Next.refl _ _) E (fun x o h => ?_)⟩, J.gv, A.dis, A.far, A.nO, A.gO⟩
  · have h1 := A.lone.far x h
    simp
    exact ⟨h1.2.1, h1.2.2.1, fun h2 => A.dis x h2 h⟩
  · simp at h
    rcases h with h | h | h
    · rw [h]; exact A.lone.nw.1
    · rw [h]; exact A.lone.nw.2
    · exact A.nO x h
  · have h1 := (A.lone.gst x o h).2
    have h2 := A.gO x o h
    simp
    exact ⟨h1.2.1, h1.2.2, h2⟩
/-- A supply alone at b, a Give at bg. -/
def GvSt (W w : World) (l : Lia) (xs : List Int) (b bg : Nat) (vS vX : Value) (st : List Int) (R : Lb) (mc : Mc) : Prop := ∃ (d : SuD) (O : List Nat), d.b = b ∧ LoneG W w l xs d vS vX st R bg O mc
theorem lbSpill (A : LoneB W w l xs b vS vX (I T) R) (hK : ((T.length : Int) - l.m).toNat = K) (hm : 0 ≤ l.m ∧ l.m ≤ 64) (hl : T.length ≤ 8000) (hg : Good l.n (I (T.take K))) :
    Calls Tryz.prog 18 #[.pointer (some ⟨b, 0, none⟩)] w fun e w' => ∃ bg, e = .returned (.pointer (some ⟨bg, 0, none⟩)) ∧ GvSt W w' l xs b bg vS vX (I (T.drop K)) R (upMc (T.take K)) := by
  obtain ⟨d, rfl, L⟩ := A
  obtain ⟨s, hs, E0, E1⟩ := L.sm
  obtain ⟨i1, i2, i3, i4, i5⟩ := L.ins
  refine (suSpill L.su E1 ⟨i2, i3, i5⟩ hK hm hl hg).mono ?_
  rintro e w' ⟨bg, rfl, M⟩
  obtain ⟨F', O, G⟩ := LoneG.made L M
  exact ⟨bg, rfl, d.re F', O, rfl, G⟩
theorem lbAll (A : LoneB W w l xs b vS vX (I T) R) (hl : T.length ≤ 8000) (hg : Good l.n (I T)) :
    Calls Tryz.prog 19 #[.pointer (some ⟨b, 0, none⟩)] w fun e w' => ∃ bg, e = .returned (.pointer (some ⟨bg, 0, none⟩)) ∧ GvSt W w' l xs b bg vS vX [] R (upMc T) := by
  obtain ⟨d, rfl, L⟩ := A
  obtain ⟨s, hs, E0, E1⟩ := L.sm
  obtain ⟨i1, i2, i3, i4, i5⟩ := L.ins
  refine (suAll L.su E1 ⟨i2, i3, i5⟩ hl hg).mono ?_
  rintro e w' ⟨bg, rfl, M⟩
  obtain ⟨F', O, G⟩ := LoneG.made L M
  exact ⟨bg, rfl, d.re F', O, rfl, G⟩
/-- While gives goes on. -/
def GvRel (S : Nat → World → Prop) (K : Nat) (n i : Value) (w : World) : Prop := ∃ j : Nat, i = .int .i64 (j : Int) ∧ n = .int .i64 (j : Int) ∧ j ≤ K ∧ S j w
theorem gv_meas {j K : Nat} (h : j < K) (h2 : K ≤ 399) : 400 - (intOf (.int .i64 ((j : Int) + 1))).toNat < 400 - (intOf (.int .i64 (j : Int))).toNat := by
  have e : (intOf (.int .i64 ((j : Int) + 1))).toNat = j + 1 := rfl
  have e2 : (intOf (.int .i64 (j : Int))).toNat = j := rfl
  rw [e, e2]
  omega
set_option maxHeartbeats 4000000 in
theorem gives_run (S : Nat → World → Prop) (h0 : S 0 w) (h1 : ∀ i w, i < K → S i w → Calls Tryz.prog 38 #[.pointer (some ⟨bg, 0, none⟩)] w fun e w' => e = .returned (.bool true) ∧ S (i + 1) w')
    (h2 : ∀ w, S K w → Calls Tryz.prog 38 #[.pointer (some ⟨bg, 0, none⟩)] w fun e w' => e = .returned (.bool false) ∧ w = w') (hK : K ≤ 399) :
    Calls Tryz.prog 17 #[.pointer (some ⟨bg, 0, none⟩)] w fun e w' => e = .returned (.int .i64 (K : Int)) ∧ S K w' := by
  have H0 := Lib.hid h0
  have H1 := Lib.hid h1
  have H2 := Lib.hid h2
  have HK := Lib.hid hK
  clear h0 h1 h2 hK
  go_enter Tryz.func17, Tryz.ntmps17
  go_wp2_with fail
  go_loopw [3, 4] (fun n i wr => GvRel S K n i wr) (fun _ i _ => 400 - (intOf i).toNat)
  case atStart => exact ⟨0, rfl, rfl, Nat.zero_le _, H0.out⟩
  case round =>
    obtain ⟨j, rfl, rfl, hj, S2⟩ := hrel
    clear H0
    have HS2 := Lib.hid S2
    have i1 : (j : Int) < 400 := by have := HK.out; omega
    clear S2
    by_cases hlt : j < K
    · have HLT := Lib.hid hlt
      clear hlt hj
      go_wp2_with (go_at_call 38; (with_reducible refine (H1.out _ _ HLT.out HS2.out).mono ?_); rintro e w3 ⟨rfl, S3⟩; have HS3 := Lib.hid S3; clear S3)
      go_roundw
      case rel => exact ⟨j + 1, rfl, rfl, HLT.out, HS3.out⟩
      case measure => exact gv_meas HLT.out HK.out
    · have hjK : j = K := by omega
      subst hjK
      clear hlt hj
      go_wp2_with (go_at_call 38; (with_reducible refine (H2.out _ HS2.out).mono ?_); rintro e w3 ⟨rfl, rfl⟩)
      go_ret
      exact ⟨rfl, HS2.out⟩
/-- gives, of a Give of lg. -/
theorem lbGives (G : GvSt W w l xs b bg vS vX st R (upMc lg)) (T : Tells l.n l.lk xs S) (hn : lg.Nodup) (hd : ∀ x ∈ lg, x < l.n ∧ x ∉ S) (h1 : 1 ≤ l.lk) (hlen : lg.length ≤ 300) (hdd : (if lg = [] then 0 else lg.length + 2) = dd) :
    Calls Tryz.prog 17 #[.pointer (some ⟨bg, 0, none⟩)] w fun e w' => e = .returned (.int .i64 (dd : Int)) ∧ ∃ xs', Tells l.n l.lk xs' (lg ++ S) ∧ xs'.length = xs.length ∧ LoneB W w' l xs' b vS vX st R := by
  obtain ⟨d, O, rfl, G⟩ := G
  by_cases h0 : lg = []
  · subst h0
    rw [if_pos rfl] at hdd
    subst hdd
    unfold upMc at G
    rw [if_pos rfl] at G
    refine (gives_run (K := 0) (fun _ w => LoneG W w l xs d vS vX st R bg O .idle) G (fun _ _ h => by omega) (fun w A => ugvStep_no A.gv) (by decide)).mono ?_
    rintro e w' ⟨rfl, A⟩
    exact ⟨rfl, xs, by simpa using T, rfl, d, rfl, A.lone⟩
  · rw [if_neg h0] at hdd
    subst hdd
    unfold upMc at G
    rw [if_neg h0] at G
    obtain ⟨s0, hs0, J0, E0⟩ := G.in_
    obtain ⟨hmid, X, P, hX, hPf, TX, hXl, _⟩ := push_alone T h0 hn hd (by have := E0.hl; rw [hs0] at this; exact this) h1 E0.n1
    refine (gives_run (K := lg.length + 2) (fun i w => ∃ Xi Pi, Pu.many l.n l.lk (xs, ⟨lg, 0, 0, false⟩) i = (Xi, Pi) ∧ Xi.length = xs.length ∧ LoneG W w l Xi d vS vX st R bg O (ugMc Pi)) ⟨xs, ⟨lg, 0, 0, false⟩, rfl, rfl, G⟩ (fun i w hi A => ?_) (fun w A => ?_) (by omega)).mono ?_
    · obtain ⟨Xi, Pi, hP, hl, A⟩ := A
      obtain ⟨X', P', hP', hf', hl'', hX'⟩ := hmid i hi
      rw [hP] at hP'
      injection hP' with e1 e2
      subst e1 e2
      have e3 : ugMc Pi = .give Pi := by unfold ugMc; rw [if_neg (by simp [hf'])]
      rw [e3] at A
      obtain ⟨s, hs, J, E⟩ := A.in_
      refine (ugvStep J hf').mono ?_
      rintro e w' ⟨rfl, U⟩
      rw [hs] at U
      have h2 : Pu.many l.n l.lk (xs, ⟨lg, 0, 0, false⟩) (i + 1) = (Pi.xs l.n 0 l.lk Xi, Pi.go 0 Xi) := by
        show Pu.one l.n l.lk (Pu.many l.n l.lk _ i) = _
        rw [hP]; exact pone_run hf'
      have hlx : (Pi.xs l.n 0 l.lk Xi).length = Xi.length := by
        unfold Pu.xs
        split
        · rw [List.length_set]
        · split
          · rfl
          · split
            · rw [List.length_set]
            · split
              · rw [List.length_set]
              · rfl
      exact ⟨rfl, _, _, h2, by rw [hlx, hl], A.out hlx U⟩
    · obtain ⟨Xi, Pi, hP, hl, A⟩ := A
      rw [hX] at hP
      injection hP with e1 e2
      subst e1 e2
      have e3 : ugMc P = .idle := by unfold ugMc; rw [if_pos hPf]
      rw [e3] at A
      exact ugvStep_no A.gv
    · rintro e w' ⟨rfl, Xi, Pi, hP, hl, A⟩
      rw [hX] at hP
      injection hP with e1 e2
      subst e1 e2
      exact ⟨rfl, _, TX, hXl, d, rfl, A.lone⟩
theorem lbPut {x : Int} (A : LoneB W w l xs b vS vX st R) (hl : st.length + 1 ≤ 8192) (hst : st ++ [x] = st') :
    Calls Tryz.prog 16 #[.pointer (some ⟨b, 0, none⟩), .slice (some ⟨w.heap.size, 0, none⟩) 1 1] (w.alloc (.cells #[.int .i64 x] 3)) fun e w' => e = .returned (.tuple #[]) ∧ LoneB W w' l xs b vS vX st' R := by
  obtain ⟨d, rfl, L⟩ := A
  have L2 := L.ups (Up.alloc w (.cells #[.int .i64 x] 3))
  subst hst
  refine (suPut L2.su (rd_one w x) hl).mono ?_
  rintro e w' ⟨rfl, T⟩
  obtain ⟨F', L'⟩ := L2.turned T
  exact ⟨rfl, d.re F', rfl, L'⟩
end
end Go.Proofs.YtkopplnjomkleaaGreat

/-
  SupplyAll: one alone takes each chunk once (AlSt); then there is none; what is Put, spilt, given.
-/
namespace Go.Proofs.YtkopplnjomkleaaGreat
open Go.RowKit
open W64
set_option maxRecDepth 100000
set_option linter.unusedSimpArgs false
/-! ### A row of bools -/
def usedRow (n : Nat) (W : List Nat) : Array Value := ((List.range n).map (fun j => Value.bool (decide (j ∈ W)))).toArray
theorem usedRow_nil (n : Nat) : Array.replicate n (Value.bool false) = usedRow n [] := by
  apply Array.ext
  · simp [usedRow]
  · intro i h1 h2; simp [usedRow]
theorem usedRow_get {n j : Nat} (W : List Nat) (h : j < n) : (usedRow n W)[j]? = some (.bool (decide (j ∈ W))) := by simp [usedRow, h]
theorem usedRow_put (n x : Nat) (W : List Nat) : (usedRow n W).setIfInBounds x (.bool true) = usedRow n (x :: W) := by
  apply Array.ext
  · simp [usedRow]
  · intro i h1 h2
    simp only [usedRow, List.setIfInBounds_toArray, List.getElem_toArray, List.getElem_set]
    split
    · subst_vars; simp
    · rename_i hne
      have : i ≠ x := fun e => hne e.symm
      simp [this]
theorem info_bool : (Tryz.prog.info? 4).map (fun i => (i.zero, i.size, i.bytes)) = some (some (.bool false), 1, 1) := by kernel_rfl
theorem made_bools (n : Nat) : madeCells (Value.bool false).cells (n * 1) = Array.replicate n (Value.bool false) := by
  apply Array.ext
  · simp [madeCells]
  · intro i h1 h2
    simp [madeCells, Value.cells, Nat.mod_one]
theorem run_bools (n : Nat) (h : n ≤ 4096) (w : World) : (Instr.makeSlice 60 (.int .i64 (n : Int)) (.int .i64 (n : Int))).run Tryz.prog w = .ok (.slice (some ⟨w.heap.size, 0, none⟩) n n) (w.alloc (.cells (Array.replicate n (.bool false)) 4)) := by
  obtain ⟨i, hi, hz0, hz1, hz2⟩ := info_parts info_bool
  have := run_make (P := Tryz.prog) w 60 4 i _ Tryz.underlying60 hi hz0 .i64 .i64 n n (by omega) (by omega) (by rw [hz2]; omega) (by omega)
  rw [this, hz1, made_bools]; rfl
section
variable {W w w' : World} {l : Lia} {xs : List Int} {vS vX : Value} {b most dd n K ov m : Nat} {tk st S T : List Nat}
/-- One alone has taken tk; the others are in its stash or in the pool. -/
def AlSt (W : World) (l : Lia) (b : Nat) (vS vX : Value) (tk : List Nat) (w : World) : Prop := ∃ xs st S, LoneB W w l xs b vS vX (I st) Lb.zero ∧ Tells l.n l.lk xs S ∧ (st ++ S ++ tk).Perm (List.range l.n)
/-- The stash has T, the pool S. -/
def AlGo (W : World) (l : Lia) (b : Nat) (vS vX : Value) (T S : List Nat) (w : World) : Prop := ∃ xs, LoneB W w l xs b vS vX (I T) Lb.zero ∧ Tells l.n l.lk xs S
theorem AlSt.ups {tk : List Nat} (A : AlSt W l b vS vX tk w) (u : Up w w') : AlSt W l b vS vX tk w' := by
  obtain ⟨xs, st, S, A, T, P⟩ := A
  exact ⟨xs, st, S, A.ups u, T, P⟩
theorem AlGo.ups (A : AlGo W l b vS vX T S w) (u : Up w w') : AlGo W l b vS vX T S w' := by
  obtain ⟨xs, A, TT⟩ := A
  exact ⟨xs, A.ups u, TT⟩
theorem AlSt.obj (A : AlSt W l b vS vX tk w) : Whole w l.a 51 (alRow l vS vX) := by obtain ⟨xs, st, S, A, _⟩ := A; exact A.obj
theorem AlGo.obj (A : AlGo W l b vS vX T S w) : Whole w l.a 51 (alRow l vS vX) := by obtain ⟨xs, A, _⟩ := A; exact A.obj
theorem AlSt.upW (A : AlSt W l b vS vX tk w) : Up W w := by obtain ⟨xs, st, S, A, _⟩ := A; exact A.upW
theorem AlGo.upW (A : AlGo W l b vS vX T S w) : Up W w := by obtain ⟨xs, A, _⟩ := A; exact A.upW
theorem perm_last {st0 S tk : List Nat} {y : Nat} {R : List Nat} (P : (st0 ++ [y] ++ S ++ tk).Perm R) : (st0 ++ S ++ (y :: tk)).Perm R := by
  rw [List.perm_iff_count] at P ⊢
  intro a
  have := P a
  simp only [List.count_append, List.count_cons, List.count_nil] at this ⊢
  omega
theorem perm_pool {S tk : List Nat} {x k : Nat} {R : List Nat} (P : ([] ++ (x :: S) ++ tk).Perm R) : (S.take k ++ S.drop k ++ (x :: tk)).Perm R := by
  rw [List.perm_iff_count] at P ⊢
  intro a
  have := P a
  rw [List.take_append_drop]
  simp only [List.count_append, List.count_cons, List.count_nil] at this ⊢
  omega
theorem perm_new {x : Nat} {r tk : List Nat} (P : (r ++ (x :: tk)).Perm (List.range n)) : x < n ∧ x ∉ tk := by
  have hn : (r ++ (x :: tk)).Nodup := P.nodup_iff.2 List.nodup_range
  have hm : x ∈ List.range n := P.mem_iff.1 (by simp)
  refine ⟨List.mem_range.1 hm, ?_⟩
  rw [List.nodup_append] at hn
  exact (List.nodup_cons.1 hn.2.1).1
theorem lbKept {y : Nat} {R : Lb} (A : LoneB W w l xs b vS vX (I (st ++ [y])) R) :
    Calls Tryz.prog 14 #[.pointer (some ⟨b, 0, none⟩)] w fun e w' => e = .returned (.tuple #[.int .i64 (y : Int), .bool true, .int .i64 0]) ∧ LoneB W w' l xs b vS vX (I st) R := by
  obtain ⟨d, rfl, L⟩ := A
  have e : I (st ++ [y]) = I st ++ [(y : Int)] := by simp [I]
  rw [e] at L
  exact (take_kept L (by omega)).mono fun _ _ ⟨he, F, L'⟩ => ⟨he, d.re F, rfl, L'⟩
theorem all_take (A : AlSt W l b vS vX tk w) (ht : tk.length < l.n) (hm : min (max l.c.ba 1) 8 = most) (hlk : 1 ≤ l.lk) :
    Calls Tryz.prog 14 #[.pointer (some ⟨b, 0, none⟩)] w fun e w' => ∃ x steps : Nat, e = .returned (.tuple #[.int .i64 (x : Int), .bool true, .int .i64 (steps : Int)]) ∧ (x < l.n ∧ x ∉ tk ∧ steps ≤ most + 2) ∧ AlSt W l b vS vX (x :: tk) w' := by
  obtain ⟨xs, st, S, A, T, P⟩ := A
  rcases List.eq_nil_or_concat st with rfl | ⟨st0, y, rfl⟩
  · cases S with
    | nil =>
      have h := P.length_eq
      simp at h
      omega
    | cons x S =>
      have hb : 1 ≤ most := by omega
      refine (take_tells (most := most) A rfl T hm hlk rfl).mono ?_
      rintro e w' ⟨rfl, xs', T', hl, _, A'⟩
      have e1 : (x :: S).drop most = S.drop (most - 1) := by
        obtain ⟨m, rfl⟩ : ∃ m, most = m + 1 := ⟨most - 1, by omega⟩
        simp
      rw [e1] at T'
      have P' := perm_pool (k := most - 1) P
      obtain ⟨p1, p2⟩ := perm_new P'
      exact ⟨x, _, rfl, ⟨p1, p2, by rw [List.length_take]; omega⟩, xs', _, _, A', T', P'⟩
  · rw [List.concat_eq_append] at A P
    refine (lbKept A).mono ?_
    rintro e w' ⟨rfl, A'⟩
    have P' := perm_last P
    obtain ⟨p1, p2⟩ := perm_new P'
    exact ⟨y, 0, rfl, ⟨p1, p2, by omega⟩, xs, _, _, A', T, P'⟩
theorem all_dry (A : AlSt W l b vS vX tk w) (ht : tk.length = l.n) :
    Calls Tryz.prog 14 #[.pointer (some ⟨b, 0, none⟩)] w fun e w' => e = .returned (.tuple #[.int .i64 0, .bool false, .int .i64 1]) ∧ AlGo W l b vS vX [] [] w' := by
  obtain ⟨xs, st, S, A, T, P⟩ := A
  have h := P.length_eq
  simp at h
  have h1 : st = [] := List.length_eq_zero_iff.1 (by omega)
  have h2 : S = [] := List.length_eq_zero_iff.1 (by omega)
  subst h1 h2
  exact (take_dry A rfl T).mono fun _ _ ⟨he, A'⟩ => ⟨he, xs, A', T⟩
theorem all_stash (A : AlGo W l b vS vX T S w) (hl : T.length ≤ 8192) (hd : T.length = dd) :
    Calls Tryz.prog 15 #[.pointer (some ⟨b, 0, none⟩)] w fun e w' => ∃ A cp, e = .returned (.slice A dd cp) ∧ AlGo W l b vS vX T S w' := by
  obtain ⟨xs, A, TT⟩ := A
  exact (lbStash A (by rw [I_len]; exact hl) (by rw [I_len]; exact hd)).mono fun _ _ ⟨A1, cp, he, A'⟩ => ⟨A1, cp, he, xs, A', TT⟩
theorem all_list (A : AlGo W l b vS vX T S w) (hl : S.length ≤ l.n) (hd : S.length = dd) :
    Calls Tryz.prog 12 #[.pointer (some ⟨l.q0, 0, none⟩)] w fun e w' => ∃ A cp, e = .returned (.slice A dd cp) ∧ AlGo W l b vS vX T S w' := by
  obtain ⟨xs, A, TT⟩ := A
  exact (lbList A TT hl hd).mono fun _ _ ⟨A1, cp, he, A'⟩ => ⟨A1, cp, he, xs, A', TT⟩
theorem all_put {j : Nat} (A : AlGo W l b vS vX (List.range j) S w) (hj : j ≤ 4096) :
    Calls Tryz.prog 16 #[.pointer (some ⟨b, 0, none⟩), .slice (some ⟨w.heap.size, 0, none⟩) 1 1] (w.alloc (.cells #[.int .i64 (j : Int)] 3)) fun e w' => e = .returned (.tuple #[]) ∧ AlGo W l b vS vX (List.range (j + 1)) S w' := by
  obtain ⟨xs, A, TT⟩ := A
  refine (lbPut A (by rw [I_len, List.length_range]; omega) (show I (List.range j) ++ [(j : Int)] = I (List.range (j + 1)) by rw [List.range_succ]; simp [I])).mono ?_
  rintro e w' ⟨rfl, A'⟩
  exact ⟨rfl, xs, A', TT⟩
/-- A Give of lg is on its way; the stash has T, the pool S. -/
def AlGv (W : World) (l : Lia) (b bg : Nat) (vS vX : Value) (lg T S : List Nat) (w : World) : Prop := ∃ xs, GvSt W w l xs b bg vS vX (I T) Lb.zero (upMc lg) ∧ Tells l.n l.lk xs S
theorem good_range {lg : List Nat} (h : ∀ x ∈ lg, x < n) (hn : lg.Nodup) : Good n (I lg) := by
  refine ⟨fun x hx => ?_, ?_⟩
  · obtain ⟨y, hy, rfl⟩ := List.mem_map.1 hx
    have := h y hy
    omega
  · exact List.pairwise_map.2 (List.Pairwise.imp (fun h e => h (by omega)) hn)
theorem all_spill (A : AlGo W l b vS vX (List.range l.n) [] w) (hm : l.m = (m : Int)) (hm3 : m ≤ 64) (hov : l.n - m = ov) (hn : l.n ≤ 4096) :
    Calls Tryz.prog 18 #[.pointer (some ⟨b, 0, none⟩)] w fun e w' => ∃ bg, e = .returned (.pointer (some ⟨bg, 0, none⟩)) ∧ AlGv W l b bg vS vX ((List.range l.n).take ov) ((List.range l.n).drop ov) [] w' := by
  obtain ⟨xs, A, TT⟩ := A
  refine (lbSpill (K := ov) A (by rw [List.length_range, hm]; omega) (by omega) (by rw [List.length_range]; omega) (good_range (fun x hx => List.mem_range.1 (List.mem_of_mem_take hx)) (List.Nodup.sublist (List.take_sublist _ _) List.nodup_range))).mono ?_
  rintro e w' ⟨bg, rfl, G⟩
  exact ⟨bg, rfl, xs, G, TT⟩
theorem all_all (A : AlGo W l b vS vX T S w) (hl : T.length ≤ 8000) (hT : ∀ x ∈ T, x < l.n) (hn : T.Nodup) :
    Calls Tryz.prog 19 #[.pointer (some ⟨b, 0, none⟩)] w fun e w' => ∃ bg, e = .returned (.pointer (some ⟨bg, 0, none⟩)) ∧ AlGv W l b bg vS vX T [] S w' := by
  obtain ⟨xs, A, TT⟩ := A
  refine (lbAll A hl (good_range hT hn)).mono ?_
  rintro e w' ⟨bg, rfl, G⟩
  exact ⟨bg, rfl, xs, G, TT⟩
theorem all_gives {bg : Nat} {lg : List Nat} (G : AlGv W l b bg vS vX lg T S w) (hn : lg.Nodup) (hd : ∀ x ∈ lg, x < l.n ∧ x ∉ S) (h1 : 1 ≤ l.lk) (hlen : lg.length ≤ 300) (hdd : (if lg = [] then 0 else lg.length + 2) = dd) :
    Calls Tryz.prog 17 #[.pointer (some ⟨bg, 0, none⟩)] w fun e w' => e = .returned (.int .i64 (dd : Int)) ∧ AlGo W l b vS vX T (lg ++ S) w' := by
  obtain ⟨xs, G, TT⟩ := G
  refine (lbGives G TT hn hd h1 hlen hdd).mono ?_
  rintro e w' ⟨rfl, xs', T', _, A⟩
  exact ⟨rfl, xs', A, T'⟩
/-- While the chunks are taken. -/
def TaRel (W : World) (l : Lia) (b gb bc : Nat) (c : Cf) (vS vX : Value) (n : Nat) (i : Value) (w : World) : Prop := ∃ (j : Nat) (tk : List Nat), i = .int .i64 (j : Int) ∧ j ≤ n ∧ tk.length = j ∧ AlSt W l b vS vX tk w ∧ Whole w gb 4 (usedRow n tk) ∧ Whole w bc 25 (cfRow c)
/-- While they are put back. -/
def PuRel (W : World) (l : Lia) (b bc : Nat) (c : Cf) (vS vX : Value) (n : Nat) (i : Value) (w : World) : Prop := ∃ j : Nat, i = .int .i64 (j : Int) ∧ j ≤ n ∧ AlGo W l b vS vX (List.range j) [] w ∧ Whole w bc 25 (cfRow c)
end
end Go.Proofs.YtkopplnjomkleaaGreat

/-
  SupplyAll: the row of bools beside the supply; what each of its calls leaves.
-/
namespace Go.Proofs.YtkopplnjomkleaaGreat
open Go.RowKit
open W64
set_option maxRecDepth 100000
set_option linter.unusedSimpArgs false
/-- The same place with a guest's block that nothing of it turns. -/
def Lia.guest (l : Lia) (gb : Nat) (o : Obj) : Lia := ⟨l.a, l.p, l.g, l.q0, l.k, l.pr, l.gr, l.qp, l.qsr, l.qe, l.c, l.lk, l.n, l.m, fun x => if x = gb then some o else none⟩
def usedO (n : Nat) (tk : List Nat) : Obj := .cells (usedRow n tk) 4 (0, 0)
section
variable {W w w' : World} {l : Lia} {xs : List Int} {vS vX : Value} {b gb most x : Nat} {tk st S T : List Nat} {d : SuD} {sti : List Int} {R : Lb} {o o' : Obj}
theorem Lone.guest (A : Lone W w l xs d vS vX sti R) (B : w.heap[gb]? = some o) (h : gb ∉ d.F ∧ gb ≠ l.p ∧ gb ≠ l.g) : Lone W w (l.guest gb o) xs d vS vX sti R :=
  ⟨A.obj, A.sm, A.su, A.far, A.nF, A.nw, A.up, fun x o2 h2 => by
    have e : (if x = gb then some o else none) = some o2 := h2
    by_cases hx : x = gb
    · rw [if_pos hx] at e
      injection e with e
      subst e hx
      exact ⟨B, h⟩
    · rw [if_neg hx] at e; cases e⟩
theorem Lone.unguest (A : Lone W w (l.guest gb o) xs d vS vX sti R) (hg : l.gs = fun _ => none) : Lone W w l xs d vS vX sti R :=
  ⟨A.obj, A.sm, A.su, A.far, A.nF, A.nw, A.up, fun x o2 h2 => by rw [hg] at h2; cases h2⟩
theorem Lone.host (A : Lone W w (l.guest gb o) xs d vS vX sti R) : w.heap[gb]? = some o ∧ gb ∉ d.F ∧ gb ≠ l.p ∧ gb ≠ l.g := A.gst gb o (by show (if gb = gb then some o else none) = _; rw [if_pos rfl])
theorem AlSt.guest (A : AlSt W l b vS vX tk w) (o : Obj) : AlSt W (l.guest w.heap.size o) b vS vX tk (w.alloc o) := by
  obtain ⟨xs, st, S, ⟨d, hb, L⟩, T, P⟩ := A
  have L2 := L.ups (Up.alloc w o)
  obtain ⟨l1, l2, l3, l4, l5⟩ := L.lts
  exact ⟨xs, st, S, ⟨d, hb, L2.guest (heap_alloc_new w o) ⟨fun h => by have := L.su.lt _ h; omega, by omega, by omega⟩⟩, T, P⟩
theorem AlSt.host (A : AlSt W (l.guest gb o) b vS vX tk w) : w.heap[gb]? = some o := by
  obtain ⟨xs, st, S, ⟨d, hb, L⟩, T, P⟩ := A
  exact L.host.1
/-- A store into the guest. -/
theorem AlSt.seat (A : AlSt W (l.guest gb o) b vS vX tk w) (hg : l.gs = fun _ => none) (i : Nat) (v : Value) (hW : W.heap.size ≤ gb) (ha : gb ≠ l.a ∧ gb ≠ l.q0) (ho : (w.setCell ⟨gb, i, none⟩ v).heap[gb]? = some o') (hq : ∀ (t : TypeId) (cs : Array Value) (y : Nat), Whole w y t cs → t ≠ 4 → y ≠ gb) : AlSt W (l.guest gb o') b vS vX tk (w.setCell ⟨gb, i, none⟩ v) := by
  obtain ⟨xs, st, S, ⟨d, hb, L⟩, T, P⟩ := A
  obtain ⟨h1, h2, h3, h4⟩ := L.host
  have E : Else [gb] w (w.setCell ⟨gb, i, none⟩ v) := (Else.refl _ _).set (.inl (by simp)) _
  obtain ⟨s, hs, E0, E1⟩ := L.sm
  have hp : l.p ∉ [gb] := by simp; exact h3.symm
  have hgg : l.g ∉ [gb] := by simp; exact h4.symm
  have L2 : Lone W (w.setCell ⟨gb, i, none⟩ v) l xs d vS vX (I st) Lb.zero := ⟨E.whole L.obj (by simp; exact ha.1.symm), ⟨s, hs, E0.else E hp hgg (by simp; exact ha.2.symm), E1.else E hp hgg (by simp; exact hq _ _ _ E1.stk (by decide))⟩, L.su.else E (fun x hx h => by simp at h; subst h; exact h2 hx), L.far, L.nF, L.nw, Else.up_new L.up E (fun x hx => by simp at hx; subst hx; exact hW), fun x o2 h2 => by rw [hg] at h2; cases h2⟩
  exact ⟨xs, st, S, ⟨d, hb, L2.guest ho ⟨h2, h3, h4⟩⟩, T, P⟩
/-- tk is taken, and told by the row of bools at gb. -/
def TaSt (W : World) (l : Lia) (b gb : Nat) (vS vX : Value) (seen tk : List Nat) (w : World) : Prop := AlSt W (l.guest gb (usedO l.n seen)) b vS vX tk w ∧ W.heap.size ≤ gb
theorem TaSt.whole {seen : List Nat} (A : TaSt W l b gb vS vX seen tk w) : Whole w gb 4 (usedRow l.n seen) := A.1.host
theorem TaSt.start (A : AlSt W l b vS vX [] w) : TaSt W l b w.heap.size vS vX [] [] (w.alloc (.cells (usedRow l.n []) 4)) := ⟨A.guest _, A.upW.size⟩
theorem ta_take (A : TaSt W l b gb vS vX tk tk w) (ht : tk.length < l.n) (hm : min (max l.c.ba 1) 8 = most) (hlk : 1 ≤ l.lk) :
    Calls Tryz.prog 14 #[.pointer (some ⟨b, 0, none⟩)] w fun e w' => ∃ x steps : Nat, e = .returned (.tuple #[.int .i64 (x : Int), .bool true, .int .i64 (steps : Int)]) ∧ (x < l.n ∧ x ∉ tk ∧ steps ≤ most + 2) ∧ TaSt W l b gb vS vX tk (x :: tk) w' :=
  (all_take A.1 ht hm hlk).mono fun _ _ ⟨x, steps, he, h, A'⟩ => ⟨x, steps, he, h, A', A.2⟩
theorem ta_seen (A : TaSt W l b gb vS vX tk (x :: tk) w) (hg : l.gs = fun _ => none) : TaSt W l b gb vS vX (x :: tk) (x :: tk) (w.setCell ⟨gb, x, none⟩ (.bool true)) := by
  have B := A.whole
  have B2 : Whole (w.setCell ⟨gb, x, none⟩ (.bool true)) gb 4 (usedRow l.n (x :: tk)) := by rw [← usedRow_put]; exact B.set x (.bool true)
  have hq0 : gb ≠ l.q0 := by
    obtain ⟨xs, st, S, ⟨d, hb, L⟩, T, P⟩ := A.1
    obtain ⟨s, hs, E0, E1⟩ := L.sm
    exact (E0.stk.ne_type B (by decide)).symm
  exact ⟨A.1.seat hg x (.bool true) A.2 ⟨((show Whole w l.a _ _ from A.1.obj).ne_type B (by decide)).symm, hq0⟩ B2 (fun t cs y Y ht => Y.ne_type B ht), A.2⟩
theorem ta_dry (A : TaSt W l b gb vS vX tk tk w) (hg : l.gs = fun _ => none) (ht : tk.length = l.n) :
    Calls Tryz.prog 14 #[.pointer (some ⟨b, 0, none⟩)] w fun e w' => e = .returned (.tuple #[.int .i64 0, .bool false, .int .i64 1]) ∧ AlGo W l b vS vX [] [] w' :=
  (all_dry A.1 ht).mono fun _ _ ⟨he, xs, ⟨d, hb, L⟩, T⟩ => ⟨he, xs, ⟨d, hb, L.unguest hg⟩, T⟩
theorem all_gives0 {bg : Nat} (G : AlGv W l b bg vS vX [] T S w) (h1 : 1 ≤ l.lk) :
    Calls Tryz.prog 17 #[.pointer (some ⟨bg, 0, none⟩)] w fun e w' => e = .returned (.int .i64 0) ∧ AlGo W l b vS vX T S w' :=
  all_gives (dd := 0) G List.nodup_nil (by simp) h1 (by decide) rfl
theorem all_givesK {bg k : Nat} {lg : List Nat} (G : AlGv W l b bg vS vX lg T S w) (h0 : lg ≠ []) (hk : lg.length = k) (hn : lg.Nodup) (hd : ∀ x ∈ lg, x < l.n ∧ x ∉ S) (h1 : 1 ≤ l.lk) (hlen : k ≤ 300) :
    Calls Tryz.prog 17 #[.pointer (some ⟨bg, 0, none⟩)] w fun e w' => e = .returned (.int .i64 ((k : Int) + 2)) ∧ AlGo W l b vS vX T (lg ++ S) w' :=
  all_gives (dd := k + 2) G hn hd h1 (by omega) (by rw [if_neg h0, hk])
theorem AlGv.obj {bg : Nat} {lg : List Nat} (G : AlGv W l b bg vS vX lg T S w) : Whole w l.a 51 (alRow l vS vX) := by obtain ⟨xs, ⟨d, O, hb, G⟩, _⟩ := G; exact G.lone.obj
theorem AlGv.upW {bg : Nat} {lg : List Nat} (G : AlGv W l b bg vS vX lg T S w) : Up W w := by obtain ⟨xs, ⟨d, O, hb, G⟩, _⟩ := G; exact G.lone.up
theorem all_split (n : Nat) {ov : Nat} (h : ov ≤ n) : ∃ lg T2, (List.range n).take ov = lg ∧ (List.range n).drop ov = T2 ∧ lg.length = ov ∧ T2.length = n - ov ∧ lg.Nodup ∧ T2.Nodup ∧ (∀ x ∈ lg, x < n) ∧ (∀ x ∈ T2, x < n ∧ x ∉ lg) := by
  have hd : ((List.range n).take ov ++ (List.range n).drop ov).Nodup := by rw [List.take_append_drop]; exact List.nodup_range
  rw [List.nodup_append] at hd
  refine ⟨_, _, rfl, rfl, by rw [List.length_take, List.length_range]; omega, by rw [List.length_drop, List.length_range], hd.1, hd.2.1, fun x hx => List.mem_range.1 (List.mem_of_mem_take hx), fun x hx => ⟨List.mem_range.1 (List.mem_of_mem_drop hx), fun h2 => hd.2.2 x h2 x hx rfl⟩⟩
theorem al_spill {ov m : Nat} {lg T2 : List Nat} (A : AlGo W l b vS vX (List.range l.n) [] w) (hm : l.m = (m : Int)) (hm3 : m ≤ 64) (hov : l.n - m = ov) (hn : l.n ≤ 4096) (h1 : (List.range l.n).take ov = lg) (h2 : (List.range l.n).drop ov = T2) :
    Calls Tryz.prog 18 #[.pointer (some ⟨b, 0, none⟩)] w fun e w' => ∃ bg, e = .returned (.pointer (some ⟨bg, 0, none⟩)) ∧ AlGv W l b bg vS vX lg T2 [] w' := by
  subst h1 h2
  exact all_spill A hm hm3 hov hn
theorem al_gives {bg : Nat} {lg : List Nat} {y : Int} (G : AlGv W l b bg vS vX lg T S w) (hn : lg.Nodup) (hd : ∀ x ∈ lg, x < l.n ∧ x ∉ S) (h1 : 1 ≤ l.lk) (hlen : lg.length ≤ 300) (hy : (lg.length = 0 ∧ y = 0) ∨ (0 < lg.length ∧ y = (lg.length : Int) + 2)) {S' : List Nat} (hS : lg ++ S = S') :
    Calls Tryz.prog 17 #[.pointer (some ⟨bg, 0, none⟩)] w fun e w' => e = .returned (.int .i64 y) ∧ AlGo W l b vS vX T S' w' := by
  subst hS
  rcases hy with ⟨h, rfl⟩ | ⟨h, rfl⟩
  · have h0 := List.length_eq_zero_iff.1 h
    exact all_gives (dd := 0) G hn hd h1 hlen (by rw [if_pos h0])
  · exact all_gives (dd := lg.length + 2) G hn hd h1 hlen (by rw [if_neg (fun e => by rw [e] at h; cases h)])
/-- How many accesses a Give of so many does; how long a list is. (Names that nothing opens.) -/
def GvN (lg : List Nat) (y : Int) : Prop := (lg.length = 0 ∧ y = 0) ∨ (0 < lg.length ∧ y = (lg.length : Int) + 2)
def LnN (T : List Nat) (n dd : Nat) : Prop := T.length = dd ∧ T.length ≤ n
theorem al_givesN {bg : Nat} {lg S' : List Nat} {y : Int} (G : AlGv W l b bg vS vX lg T S w) (hn : lg.Nodup) (hd : ∀ x ∈ lg, x < l.n ∧ x ∉ S) (h1 : 1 ≤ l.lk) (hlen : lg.length ≤ 300) (hy : GvN lg y) (hS : lg ++ S = S') :
    Calls Tryz.prog 17 #[.pointer (some ⟨bg, 0, none⟩)] w fun e w' => e = .returned (.int .i64 y) ∧ AlGo W l b vS vX T S' w' := al_gives G hn hd h1 hlen hy hS
theorem al_stashN {dd : Nat} (A : AlGo W l b vS vX T S w) (h : LnN T 8192 dd) :
    Calls Tryz.prog 15 #[.pointer (some ⟨b, 0, none⟩)] w fun e w' => ∃ A cp, e = .returned (.slice A dd cp) ∧ AlGo W l b vS vX T S w' := all_stash A h.2 h.1
theorem al_listN {dd : Nat} (A : AlGo W l b vS vX T S w) (h : LnN S l.n dd) :
    Calls Tryz.prog 12 #[.pointer (some ⟨l.q0, 0, none⟩)] w fun e w' => ∃ A cp, e = .returned (.slice A dd cp) ∧ AlGo W l b vS vX T S w' := all_list A h.2 h.1
/-- While the chunks are taken. -/
def TaLoop (W : World) (l : Lia) (b gb : Nat) (vS vX : Value) (i : Value) (w : World) : Prop := ∃ (j : Nat) (tk : List Nat), i = .int .i64 (j : Int) ∧ j ≤ l.n ∧ tk.length = j ∧ TaSt W l b gb vS vX tk tk w
/-- While they are put back. -/
def PuLoop (W : World) (l : Lia) (b : Nat) (vS vX : Value) (i : Value) (w : World) : Prop := ∃ j : Nat, i = .int .i64 (j : Int) ∧ j ≤ l.n ∧ AlGo W l b vS vX (List.range j) [] w
theorem all_start {LEN : Nat} {s : St} (A : LoneC W w l s b vS vX [] Lb.zero) (hs : s = mem13 l LEN) (h1 : 1 ≤ l.n) (h2 : l.n ≤ 4096) (h0 : 1 ≤ l.lk) (hL : l.lk + l.n ≤ LEN) : AlSt W l b vS vX [] w := by
  subst hs
  exact ⟨_, [], List.range l.n, A.toB rfl, tells_fill h1 h2 h0 hL, by simp⟩
theorem all_num {j N : Nat} (h : j < N) (h2 : N ≤ 4096) : Value.int .i64 (wrap64 ((j : Int) + 1)) = .int .i64 ((j + 1 : Nat) : Int) := num_succ h h2 (Nat.le_refl _)
end
end Go.Proofs.YtkopplnjomkleaaGreat
