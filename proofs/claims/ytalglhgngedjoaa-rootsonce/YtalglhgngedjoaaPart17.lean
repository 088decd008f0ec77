/-
  Texts beneath RootsOnce, part 17: RtOnce, Config.
-/
import Derived.Test.YtalglhgngedjoaaPart16
import Derived.Deep.AppendLies
import Derived.OwnWalk
/-
  Several Ends of one region at once (RootsOnce): what they are together (Once), a Step of one of them; a slice of machines and append to it.
-/
namespace Go.Proofs.Ytalglhgngedjoaa
open Go.RowKit
open W64
set_option maxRecDepth 100000
theorem rt_of_root {g m c o : Int} (h : rootB g m c o = true) : (rtOf (rootV g m c o)).g = g ∧ (rtOf (rootV g m c o)).m = m ∧ (rtOf (rootV g m c o)).c = c ∧ (rtOf (rootV g m c o)).o = o := by
  obtain ⟨_, _, _, _⟩ := rootB_iff.1 h
  unfold rtOf rootV
  rw [if_pos h]
  unfold rootN
  dsimp only
  omega
def fineN (K : Ed) : Int := if K.fin = true ∧ K.code = 0 then 1 else 0
/-! ### A slice of machines -/
def Ptrs (w : World) (v : Value) (bs : List Nat) : Prop := w.ownsRow 0 35 1 v bs.length (bs.map fun b => .pointer (some ⟨b, 0, none⟩))
section
variable {w w' : World} {v : Value} {bs : List Nat} {b : Nat}
theorem Ptrs.nil (w : World) : Ptrs w (.slice none 0 0) [] := ⟨rfl, .inl ⟨rfl, rfl⟩⟩
theorem Ptrs.up (h : Ptrs w v bs) (u : Up w w') : Ptrs w' v bs := own_up h u
theorem Ptrs.else {l : List Nat} (h : Ptrs w v bs) (u : Else l w w') (a : ∀ k, v.ownBlock = some k → k ∉ l) : Ptrs w' v bs := by
  refine ⟨h.1, ?_⟩
  rcases h.2 with h | ⟨g, cap, cur, rfl, hb, hh, r⟩
  · exact .inl h
  · exact .inr ⟨g, cap, cur, rfl, hb, u.heap hh (a _ rfl), r⟩
theorem Ptrs.nb (h : Ptrs w v bs) {t : TypeId} {cs : Array Value} (B : Whole w b t cs) (ht : 35 ≠ t) : v.ownBlock ≠ some b := by
  rcases h.2 with ⟨rfl, _⟩ | ⟨a, cap, cur, rfl, _, hh, _⟩
  · simp [Value.ownBlock]
  · intro e
    simp [Value.ownBlock] at e
    exact (show Whole w a 35 cur from hh).ne_type B ht e
theorem Ptrs.lt (h : Ptrs w v bs) {k : Nat} (hk : v.ownBlock = some k) : k < w.heap.size := by
  rcases h.2 with ⟨rfl, _⟩ | ⟨g, cap, cur, rfl, _, hh, _⟩
  · simp [Value.ownBlock] at hk
  · simp [Value.ownBlock] at hk; subst hk; exact some_lt hh
theorem Ptrs.get (h : Ptrs w v bs) {u : Nat} (hu : u < bs.length) : ∃ r cap b, v = .slice (some ⟨r, 0, none⟩) bs.length cap ∧ bs[u]? = some b ∧ w.cell? ⟨r, u, none⟩ = some (.pointer (some ⟨b, 0, none⟩)) := by
  obtain ⟨A, cap, rfl⟩ := own_slice h
  obtain ⟨r, rfl, hc⟩ := own_cell h hu
  refine ⟨r, cap, bs[u], rfl, by simp [hu], ?_⟩
  rw [hc]; simp [hu]
theorem info_ptr : (Try.prog.info? 35).map (fun i => (i.zero, i.size, i.bytes)) = some (some (.pointer none), 1, 8) := by kernel_rfl
theorem info_ptrs : ∃ i9, Try.prog.info? 35 = some i9 ∧ i9.zero = some (.pointer none) ∧ i9.size = 1 ∧ i9.bytes = 8 := by
  have h := info_ptr
  cases hi : Try.prog.info? 35 with
  | none => rw [hi] at h; simp at h
  | some i =>
    rw [hi] at h
    simp at h
    exact ⟨i, rfl, h.1, h.2.1, h.2.2⟩
theorem wpList_ptr {ops : Array Oper} {rest : List Oper} {o : Oper} {a : Act} {Q : Exit → Act → World → Prop} (hgd : o.guard = none) (s x : Operand)
    (ho : o.op = .call { callee := .builtin .append, args := #[s, x], argTypes := #[34, 34] }) (hs : a.eval s = v) (hx : a.eval x = .slice (some ⟨w.heap.size, 0, none⟩) 1 1) (J : Ptrs w v bs) (hl : bs.length ≤ 100)
    (h : ∀ r cap w', Ptrs w' (.slice (some ⟨r, 0, none⟩) (bs.length + 1) cap) (bs ++ [b]) → (w.alloc (.cells #[.pointer (some ⟨b, 0, none⟩)] 35)).grownBy w' v.ownBlock → (v.ownBlock = some r ∨ r = w.heap.size + 1) → wpList Try.prog ops Q rest (a.put o.dst (.slice (some ⟨r, 0, none⟩) (bs.length + 1) cap)) w') :
    wpList Try.prog ops Q (o :: rest) a (w.alloc (.cells #[.pointer (some ⟨b, 0, none⟩)] 35)) := by
  obtain ⟨i9, hi, hz0, hz1, hz2⟩ := info_ptrs
  refine wpList_append_lies _ hgd s x 34 ho 0 35 i9 (.pointer none) 1 8 Try.underlying34 hi hz0 hz1 hz2 rfl (by decide) v bs.length (bs.map fun b => .pointer (some ⟨b, 0, none⟩)) hs (J.up (Up.alloc _ _)) ⟨w.heap.size, 0, none⟩ 1 1 [.pointer (some ⟨b, 0, none⟩)] hx (by simp) (one_new w _ _) (by simp [Value.oneCell']) (by decide) (by unfold maxLen; omega) (by omega) (Nat.zero_le _) (w.heap.size + 1) (by simp) ?_
  intro r cap w' h2 h3 h4 _
  refine h r cap w' ⟨?_, ?_⟩ h3 h4
  · simp
  · have := h2.2
    simpa using this
end
/-! ### All of them -/
/-- The root that is there, and the one behind its End. -/
structure OnceK (XL : List Int) (cls : Int) : Prop where
  c0 : 0 ≤ cls
  c1 : cls ≤ 3
  r1 : XL.getD 4 0 = rootV 1 1 cls 0
  len : 4 < XL.length
def onXs (XL : List Int) (d : Bool) : List Int := if d = true then XL.set 4 (rootV 1 0 0 0) else XL
/-- What one of them may be; d: one has done it. -/
def EdOk (cls : Int) (d : Bool) (K : Ed) : Prop :=
  K.slot = 0 ∧ K.gen = 1 ∧ K.chunk = -1 ∧ ((K.fin = false ∧ K.code = 0 ∧ K.i = 0 ∧ (K.steps = 0 ∨ (K.steps = 2 ∧ d = true))) ∨ (K.fin = false ∧ K.code = 0 ∧ K.i = 1 ∧ K.steps = 1 ∧ K.old = rootV 1 1 cls 0) ∨ (K.fin = true ∧ d = true ∧ (K.code = 0 ∨ K.code = 3)))
/-- How many Steps it will need, alone. -/
def leftN (d : Bool) (K : Ed) : Nat := if K.fin = true then 0 else if K.i = 0 then (if d = true then 1 else 2) else (if d = true then 2 else 1)
theorem leftN_le (d : Bool) (K : Ed) : leftN d K ≤ 2 := by unfold leftN; repeat (first | omega | split)
theorem leftN_fin {d : Bool} {K : Ed} (h : leftN d K = 0) : K.fin = true := by
  unfold leftN at h
  split at h
  · assumption
  · repeat (first | omega | split at h)
section
variable {XL : List Int} {cls : Int} {d : Bool} {K : Ed}
theorem OnceK.root1 (O : OnceK XL cls) : (rtOf (rootV 1 1 cls 0)).g = 1 ∧ (rtOf (rootV 1 1 cls 0)).m = 1 := by
  have h := rt_of_root (g := 1) (m := 1) (c := cls) (o := 0) (rootB_iff.2 ⟨by omega, by omega, ⟨O.c0, O.c1⟩, by omega⟩)
  exact ⟨h.1, h.2.1⟩
theorem root0 : (rtOf (rootV 1 0 0 0)).g = 1 ∧ (rtOf (rootV 1 0 0 0)).m = 0 ∧ (rtOf (rootV 1 0 0 0)).c = 0 ∧ (rtOf (rootV 1 0 0 0)).o = 0 := by decide
theorem OnceK.get (O : OnceK XL cls) (d : Bool) : (onXs XL d).getD 4 0 = if d = true then rootV 1 0 0 0 else rootV 1 1 cls 0 := by
  unfold onXs
  split
  · exact getD_same O.len
  · exact O.r1
theorem OnceK.ne (O : OnceK XL cls) : ¬ rootV 1 0 0 0 = rootV 1 1 cls 0 := by
  intro e
  have h1 := O.root1.2
  have h2 := root0.2.1
  rw [← e] at h1
  omega
/-- One Step of one of them, as plain data. -/
theorem once_go (O : OnceK XL cls) (h : EdOk cls d K) (hf : K.fin = false) :
    ∃ d', K.xs 4 (onXs XL d) = onXs XL d' ∧ EdOk cls d' (K.go 4 (onXs XL d)) ∧ (d = true → d' = true) ∧ fineN (K.go 4 (onXs XL d)) = fineN K + ((if d' = true then 1 else 0) - (if d = true then 1 else 0)) ∧ leftN d' (K.go 4 (onXs XL d)) + 1 ≤ leftN d K := by
  obtain ⟨slot, gen, i, steps, point, chunk, old, code, fin⟩ := K
  obtain ⟨h1, h2, h3, h4⟩ := h
  dsimp only at hf h1 h2 h3 h4
  subst hf h1 h2 h3
  have hg := O.get d
  have hr1 := O.root1
  have hr0 := root0
  have hne := O.ne
  have l1 : liveB 1 1 1 = true := by decide
  have l0 : liveB 1 0 1 = false := by decide
  rcases h4 with ⟨_, rfl, rfl, hst⟩ | ⟨_, rfl, rfl, rfl, rfl⟩ | ⟨h, _⟩
  · cases d
    · rw [if_neg (by decide)] at hg
      refine ⟨false, by unfold Ed.xs; rw [if_neg (by simp)], ?_, by simp, ?_, ?_⟩
      · refine ⟨?_, ?_, ?_, .inr (.inl ?_)⟩ <;> (unfold Ed.go Ed.live; simp only [Nat.add_zero, hg, hr1, l1]; simp)
        rcases hst with h | h
        · exact h
        · simp at h
      · unfold fineN Ed.go Ed.live; simp only [Nat.add_zero, hg, hr1, l1]; simp
      · unfold leftN Ed.go Ed.live; simp only [Nat.add_zero, hg, hr1, l1]; simp
    · rw [if_pos rfl] at hg
      refine ⟨true, by unfold Ed.xs; rw [if_neg (by simp)], ?_, by simp, ?_, ?_⟩
      · refine ⟨?_, ?_, ?_, .inr (.inr ?_)⟩ <;> (unfold Ed.go Ed.live; simp only [Nat.add_zero, hg, hr0, l0]; simp)
      · unfold fineN Ed.go Ed.live; simp only [Nat.add_zero, hg, hr0, l0]; simp
      · unfold leftN Ed.go Ed.live; simp only [Nat.add_zero, hg, hr0, l0]; simp
  · cases d
    · rw [if_neg (by decide)] at hg
      have hck : chunkN 1 = -1 := by decide
      refine ⟨true, ?_, ?_, by simp, ?_, ?_⟩
      · unfold Ed.xs; dsimp only; rw [Nat.add_zero, if_pos ⟨by decide, hg⟩, hr1.1]; rfl
      · refine ⟨?_, ?_, ?_, .inr (.inr ?_)⟩ <;> (unfold Ed.go; simp only [Nat.add_zero, hg, hr1, hck]; simp)
      · unfold fineN Ed.go; simp only [Nat.add_zero, hg]; simp
      · unfold leftN Ed.go; simp only [Nat.add_zero, hg]; simp
    · rw [if_pos rfl] at hg
      refine ⟨true, ?_, ?_, by simp, ?_, ?_⟩
      · unfold Ed.xs; dsimp only; rw [Nat.add_zero, if_neg (fun h => hne (hg ▸ h.2))]
      · refine ⟨?_, ?_, ?_, .inl ?_⟩ <;> (unfold Ed.go; simp only [Nat.add_zero, hg, hne]; simp)
      · unfold fineN Ed.go; simp only [Nat.add_zero, hg, hne]; simp
      · unfold leftN Ed.go; simp only [Nat.add_zero, hg, hne]; simp
  · cases h
end
/-- The machines bs in the slice v, their states m; d: one of them has done it. -/
structure Once (W w : World) (l : Lie) (XL : List Int) (cls : Int) (v : Value) (bs : List Nat) (m : Nat → Ed) (d : Bool) : Prop where
  sole : ∃ s, s.xs = onXs XL d ∧ Sole W w l 2 s
  k : OnceK XL cls
  row : Ptrs w v bs
  own : ∀ k, v.ownBlock = some k → W.heap.size ≤ k
  mach : ∀ (i b : Nat), bs[i]? = some b → EdM w b l.q 4 (m i) ∧ W.heap.size ≤ b
  dist : ∀ (i j b : Nat), bs[i]? = some b → bs[j]? = some b → i = j
  st : ∀ i, i < bs.length → EdOk cls d (m i)
  wn : sumA (fun i => fineN (m i)) bs.length = if d = true then 1 else 0
  few : bs.length ≤ 5
/-- What a Step of machine u leaves. -/
def OnceOut (W : World) (l : Lie) (XL : List Int) (cls : Int) (v : Value) (bs : List Nat) (m : Nat → Ed) (d : Bool) (u : Nat) (w' : World) : Prop :=
  ∃ K' d', Once W w' l XL cls v bs (updA m u K') d' ∧ leftN d' K' ≤ leftN d (m u) - 1
section
variable {W w w' w2 : World} {l : Lie} {XL : List Int} {cls : Int} {v : Value} {bs : List Nat} {m : Nat → Ed} {d : Bool} {u b r cap : Nat}
theorem Once.step (X : Once W w l XL cls v bs m d) (hb : bs[u]? = some b) :
    Calls Try.prog 9 #[.pointer (some ⟨b, 0, none⟩)] w fun e w' => ∃ y, e = .returned (.bool y) ∧ OnceOut W l XL cls v bs m d u w' := by
  have hu := lt_of_get hb
  obtain ⟨M, hWb⟩ := X.mach u b hb
  have ok := X.st u hu
  by_cases hf : (m u).fin = true
  · refine (edStep_no M hf).mono ?_
    rintro e w' ⟨rfl, rfl⟩
    refine ⟨_, rfl, m u, d, by rw [updA_id]; exact X, ?_⟩
    unfold leftN; rw [if_pos hf]; omega
  · have hf' : (m u).fin = false := by simpa using hf
    obtain ⟨s, hx, T⟩ := X.sole
    obtain ⟨d', g1, g2, g3, g4, g5⟩ := once_go X.k ok hf'
    have hst : (m u).steps ≤ 1000000 := by
      rcases ok.2.2.2 with ⟨_, _, _, h | h⟩ | h | h
      · omega
      · omega
      · omega
      · exact absurd h.1 hf
    refine (edStep T.roo M (by rw [ok.1]; decide) hf' hst).mono ?_
    rintro e w' ⟨rfl, H⟩
    have HE : Else [b, l.p, l.g] w w' := by
      obtain ⟨s', _, _, _, _, h5⟩ := H
      exact h5
    obtain ⟨s', _, h2, h3, h4⟩ := T.went H (by intro k hk; simp at hk; subst hk; exact hWb)
    rw [hx] at h2 h4
    rw [g1] at h2
    refine ⟨_, rfl, (m u).go 4 (onXs XL d), d', ⟨⟨s', h2, h3⟩, X.k, X.row.else HE ?_, X.own, ?_, X.dist, ?_, ?_, X.few⟩, by omega⟩
    · intro k hk hm
      simp at hm
      rcases hm with rfl | rfl | rfl
      · exact X.row.nb M.row (by decide) hk
      · exact X.row.nb T.roo.env.mem.top (by decide) hk
      · exact X.row.nb T.roo.env.mem.row (by decide) hk
    · intro i b' hi
      by_cases e : i = u
      · subst e
        rw [hb] at hi; injection hi with hi; subst hi
        rw [updA_same]; exact ⟨h4, hWb⟩
      · rw [updA_ne _ _ e]
        obtain ⟨Mi, hi2⟩ := X.mach i b' hi
        have hne : b' ≠ b := fun e2 => e (X.dist i u b (e2 ▸ hi) hb)
        refine ⟨Mi.else HE ?_, hi2⟩
        simp [hne, Mi.row.ne_type T.roo.env.mem.top (by decide), Mi.row.ne_type T.roo.env.mem.row (by decide)]
    · intro i hi
      by_cases e : i = u
      · subst e; rw [updA_same]; exact g2
      · rw [updA_ne _ _ e]
        obtain ⟨a1, a2, a3, a4⟩ := X.st i hi
        refine ⟨a1, a2, a3, ?_⟩
        rcases a4 with ⟨c1, c2, c3, c4⟩ | c | ⟨c1, c2, c3⟩
        · refine .inl ⟨c1, c2, c3, ?_⟩
          rcases c4 with c4 | ⟨c4, c5⟩
          · exact .inl c4
          · exact .inr ⟨c4, g3 c5⟩
        · exact .inr (.inl c)
        · exact .inr (.inr ⟨c1, g3 c2, c3⟩)
    · rw [sumA_more (f := fun i => fineN (m i)) (u := u) (fun i hi => by simp only [updA_ne _ _ hi]) _ hu, X.wn]
      simp only [updA_same]; omega
theorem Once.ups (X : Once W w l XL cls v bs m d) (U : Up w w') : Once W w' l XL cls v bs m d := by
  obtain ⟨s, hx, T⟩ := X.sole
  exact ⟨⟨s, hx, T.ups U⟩, X.k, X.row.up U, X.own, fun i b h => ⟨(X.mach i b h).1.up U, (X.mach i b h).2⟩, X.dist, X.st, X.wn, X.few⟩
theorem Once.nil {s : St} (T : Sole W w l 2 s) (O : OnceK s.xs cls) : Once W w l s.xs cls (.slice none 0 0) [] (fun _ => Ed.new 0 1) false :=
  ⟨⟨s, rfl, T⟩, O, Ptrs.nil _, fun k hk => by simp [Value.ownBlock] at hk, fun i b h => by simp at h, fun i j b h => by simp at h, fun i hi => absurd hi (Nat.not_lt_zero _), rfl, by simp⟩
theorem fineN_new : fineN (Ed.new 0 1) = 0 := by decide
/-- One machine more. -/
theorem Once.push (X : Once W w l XL cls v bs (fun _ => Ed.new 0 1) false) (hf : bs.length ≤ 4) (U2 : Up w w2) (hb : w.heap.size ≤ b) (M : EdM w2 b l.q 4 (Ed.new 0 1))
    (J : Ptrs w' (.slice (some ⟨r, 0, none⟩) (bs.length + 1) cap) (bs ++ [b])) (gr : (w2.alloc (.cells #[.pointer (some ⟨b, 0, none⟩)] 35)).grownBy w' v.ownBlock) (hr : v.ownBlock = some r ∨ r = w2.heap.size + 1) :
    Once W w' l XL cls (.slice (some ⟨r, 0, none⟩) (bs.length + 1) cap) (bs ++ [b]) (fun _ => Ed.new 0 1) false := by
  obtain ⟨s, hx, T⟩ := X.sole
  have hWw := T.up.size
  have w12 := U2.size
  have X2 := X.ups U2
  obtain ⟨s2, hx2, T2⟩ := X2.sole
  have EG : Else v.ownBlock.toList w2 w' := (Else.of_up (Up.alloc _ _)).trans (Else.of_grow gr)
  have mem : ∀ k, k ∈ v.ownBlock.toList → v.ownBlock = some k := fun k hk => by
    cases h : v.ownBlock with
    | none => rw [h] at hk; simp at hk
    | some x => rw [h] at hk; simp at hk; rw [hk]
  have lens : ∀ i c, bs[i]? = some c → c < w.heap.size := fun i c h => (X.mach i c h).1.row.lt
  have nb : b ∉ bs := fun h => by
    obtain ⟨i, hi⟩ := List.getElem?_of_mem h
    have := lens i b hi
    omega
  have offT : ∀ {g : Nat} {t : TypeId} {cs : Array Value}, Whole w2 g t cs → 35 ≠ t → g ∉ v.ownBlock.toList := fun B ht h => X2.row.nb B ht (mem _ h)
  refine ⟨⟨s2, hx2, ⟨T2.roo.else EG ⟨offT T2.roo.env.mem.top (by decide), offT T2.roo.env.mem.row (by decide), offT T2.roo.env.stk (by decide), offT T2.roo.obj (by decide)⟩, Else.up_new T2.up EG (fun k hk => X.own k (mem k hk)), T2.hp, T2.hg⟩⟩, X.k, ?_, ?_, ?_, ?_, ?_, ?_, by simp; omega⟩
  · have e : (bs ++ [b]).length = bs.length + 1 := by simp
    exact J
  · intro k hk
    have hk' : r = k := by simpa [Value.ownBlock] using hk
    subst hk'
    rcases hr with h | h
    · exact X.own r h
    · omega
  · intro i c' hi
    rcases Nat.lt_or_ge i bs.length with h | h
    · rw [List.getElem?_append_left h] at hi
      obtain ⟨P, k1⟩ := X2.mach i c' hi
      exact ⟨P.else EG (offT P.row (by decide)), k1⟩
    · rw [List.getElem?_append_right h] at hi
      have e : i - bs.length = 0 := by
        have := lt_of_get hi
        simp at this; omega
      rw [e] at hi
      simp at hi
      subst hi
      exact ⟨M.else EG (offT M.row (by decide)), by omega⟩
  · intro i j c' hi hj
    have key : ∀ i, (bs ++ [b])[i]? = some c' → (bs[i]? = some c' ∧ i < bs.length) ∨ (i = bs.length ∧ c' = b) := by
      intro i hi
      rcases Nat.lt_or_ge i bs.length with h | h
      · rw [List.getElem?_append_left h] at hi; exact .inl ⟨hi, h⟩
      · rw [List.getElem?_append_right h] at hi
        have e : i - bs.length = 0 := by
          have := lt_of_get hi
          simp at this; omega
        rw [e] at hi
        simp at hi
        exact .inr ⟨by omega, hi.symm⟩
    rcases key i hi with ⟨h1, _⟩ | ⟨h1, h2⟩
    · rcases key j hj with ⟨h3, _⟩ | ⟨_, h4⟩
      · exact X.dist i j c' h1 h3
      · subst h4; exact absurd (List.mem_of_getElem? h1) nb
    · rcases key j hj with ⟨h3, _⟩ | ⟨h3, _⟩
      · subst h2; exact absurd (List.mem_of_getElem? h3) nb
      · omega
  · intro i _
    exact ⟨rfl, rfl, rfl, .inl ⟨rfl, rfl, rfl, .inl rfl⟩⟩
  · rw [sumA_const (fun _ => fineN (Ed.new 0 1)) 0 (fun _ _ => fineN_new)]; simp
end
/-- The loops of RootsOnce. -/
def OncA (W : World) (l : Lie) (XL : List Int) (cls : Int) (k : Nat) (v i : Value) (wr : World) : Prop := ∃ bs : List Nat, i = .int .i64 bs.length ∧ bs.length ≤ k ∧ Once W wr l XL cls v bs (fun _ => Ed.new 0 1) false
def OncB (W : World) (l : Lie) (XL : List Int) (cls : Int) (v : Value) (bs : List Nat) (len : Nat) (i : Value) (wr : World) : Prop := ∃ (j : Nat) (m : Nat → Ed) (d : Bool), i = .int .i64 j ∧ j ≤ len ∧ Once W wr l XL cls v bs m d
def OncC (W : World) (l : Lie) (XL : List Int) (cls : Int) (v : Value) (bs : List Nat) (fn i : Value) (wr : World) : Prop :=
  ∃ (j : Nat) (m : Nat → Ed) (d : Bool), i = .int .i64 j ∧ j ≤ bs.length ∧ fn = .int .i64 (sumA (fun i => fineN (m i)) j) ∧ (∀ i, i < j → (m i).fin = true) ∧ Once W wr l XL cls v bs m d
def OncD (W : World) (l : Lie) (XL : List Int) (cls : Int) (v : Value) (bs : List Nat) (j : Nat) (fn : Int) (s : Value) (wr : World) : Prop :=
  ∃ (t : Nat) (m : Nat → Ed) (d : Bool), s = .int .i64 t ∧ t ≤ 20 ∧ sumA (fun i => fineN (m i)) j = fn ∧ (∀ i, i < j → (m i).fin = true) ∧ leftN d (m j) ≤ 2 - t ∧ Once W wr l XL cls v bs m d
section
variable {W w : World} {l : Lie} {XL : List Int} {cls : Int} {v : Value} {bs : List Nat} {m : Nat → Ed} {d : Bool}
theorem onc_d {j t : Nat} {fn : Int} (h1 : sumA (fun i => fineN (m i)) j = fn) (h2 : ∀ i, i < j → (m i).fin = true) (h3 : leftN d (m j) ≤ 2 - t) {w' : World} (O : OnceOut W l XL cls v bs m d j w') (ht : t < 20) :
    OncD W l XL cls v bs j fn (.int .i64 ((t + 1 : Nat) : Int)) w' := by
  obtain ⟨K', d', X', h⟩ := O
  refine ⟨t + 1, _, d', rfl, by omega, ?_, ?_, ?_, X'⟩
  · rw [← h1]; exact sumA_same fun i hi => by rw [updA_ne _ _ (by omega)]
  · intro i hi; rw [updA_ne _ _ (by omega)]; exact h2 i hi
  · rw [updA_same]; omega
theorem Once.shape (X : Once W w l XL cls v bs m d) (h : 0 < bs.length) : ∃ r cap, v = .slice (some ⟨r, 0, none⟩) bs.length cap := by
  obtain ⟨r, cap, b, e, _⟩ := X.row.get h
  exact ⟨r, cap, e⟩
theorem Once.at_ {r cap : Nat} (X : Once W w l XL cls (.slice (some ⟨r, 0, none⟩) bs.length cap) bs m d) {u : Nat} (hu : u < bs.length) : ∃ b, bs[u]? = some b ∧ w.cell? ⟨r, u, none⟩ = some (.pointer (some ⟨b, 0, none⟩)) := by
  obtain ⟨r', cap', b, e, h1, h2⟩ := X.row.get hu
  injection e with e1
  injection e1 with e1
  injection e1 with e1
  subst e1
  exact ⟨b, h1, h2⟩
/-- All are done. -/
theorem Once.over (X : Once W w l XL cls v bs m d) (h : ∀ i, i < bs.length → (m i).fin = true) (h0 : 0 < bs.length) : sumA (fun i => fineN (m i)) bs.length = 1 ∧ ∃ s, s.xs.getD (4 + 0) 0 = rootV 1 0 0 0 ∧ Sole W w l 2 s := by
  have hd : d = true := by
    rcases (X.st 0 h0).2.2.2 with ⟨a, _⟩ | ⟨a, _⟩ | ⟨_, a, _⟩
    · rw [h 0 h0] at a; cases a
    · rw [h 0 h0] at a; cases a
    · exact a
  subst hd
  refine ⟨X.wn, ?_⟩
  obtain ⟨s, hx, T⟩ := X.sole
  refine ⟨s, ?_, T⟩
  have := X.k.get true
  rw [hx]
  exact this
theorem Once.begin_ (X : Once W w l XL cls v bs m d) :
    Calls Try.prog 8 #[.pointer (some ⟨l.q, 0, none⟩), .int .i64 0, .int .i64 1] w fun e w' => ∃ b, e = .returned (.tuple #[.pointer (some ⟨b, 0, none⟩), .int .i64 0]) ∧ EdM w' b l.q 4 (Ed.new 0 1) ∧ w.heap.size ≤ b ∧ Up w w' := by
  obtain ⟨s, _, T⟩ := X.sole
  exact edNew T.roo (k := 0) (by decide) 1
theorem root_over {s : St} (T : Sole W w l 2 s) (hx : s.xs.getD (4 + 0) 0 = rootV 1 0 0 0) :
    Calls Try.prog 13 #[.pointer (some ⟨l.q, 0, none⟩), .int .i64 0] w fun e w' => e = .returned (.agg #[.int .i64 1, .int .i64 0, .int .i64 0, .int .i64 0]) ∧ Up w w' :=
  rtRoot T.roo (k := 0) (by decide) hx root0.1 root0.2.1 root0.2.2.1 root0.2.2.2
theorem run_gfield1 (a m c o : Int) (w : World) : (Instr.field 42 (.agg #[.int .i64 a, .int .i64 m, .int .i64 c, .int .i64 o]) 1).run Try.prog w = .ok (.int .i64 m) w := by rfl
theorem run_gfield2 (a m c o : Int) (w : World) : (Instr.field 42 (.agg #[.int .i64 a, .int .i64 m, .int .i64 c, .int .i64 o]) 2).run Try.prog w = .ok (.int .i64 c) w := by rfl
theorem once_code (X : Once W w l XL cls v bs m d) {u : Nat} (hu : u < bs.length) (hf : (m u).fin = true) : (m u).chunk = -1 ∧ ((m u).code = 0 ∨ (m u).code = 3) := by
  obtain ⟨_, _, h3, h4⟩ := X.st u hu
  rcases h4 with ⟨a, _⟩ | ⟨a, _⟩ | ⟨_, _, a⟩
  · rw [hf] at a; cases a
  · rw [hf] at a; cases a
  · exact ⟨h3, a⟩
theorem fine_bounds {j : Nat} : 0 ≤ sumA (fun i => fineN (m i)) j ∧ sumA (fun i => fineN (m i)) j ≤ j := by
  induction j with
  | zero => simp [sumA]
  | succ j ih =>
    have h2 : 0 ≤ fineN (m j) ∧ fineN (m j) ≤ 1 := by unfold fineN; split <;> omega
    show 0 ≤ sumA (fun i => fineN (m i)) j + fineN (m j) ∧ sumA (fun i => fineN (m i)) j + fineN (m j) ≤ ((j + 1 : Nat) : Int)
    omega
theorem once_made {cls : Int} (c0 : 0 ≤ cls) (c1 : cls ≤ 3) : Cr.run 2 4 ((m0 2).xs, Cr.new cls) 10 = (crXs 4 (m0 2).xs 0 [1] cls, crEnd 4 (m0 2).xs 0 [1] cls) ∧ OnceK (crXs 4 (m0 2).xs 0 [1] cls) cls := by
  have hx : (m0 2).xs = [0, 1, 0, 0, 0, 0, 2, 0, 0, 0, 0, 0, 0, 0, 0, 0, 0] := by rfl
  refine ⟨?_, ⟨c0, c1, ?_, ?_⟩⟩
  · rw [hx]
    exact Cr.run_some (x := 0) (r := [1]) cls (by simp) (by decide) (by decide) (by decide) 5
  · rw [hx]; unfold crXs
    rw [getD_same (by simp)]
    rfl
  · rw [hx]; unfold crXs; simp
def OnceBegun (W : World) (l : Lie) (w' : World) : Prop := ∃ XL cls, Once W w' l XL cls (.slice none 0 0) [] (fun _ => Ed.new 0 1) false
theorem once_start (T : Sole W w l 2 (m0 2)) (a : Int) :
    Calls Try.prog 7 #[.pointer (some ⟨l.q, 0, none⟩), .int .i64 a] w fun e w' => e = .returned (.tuple #[.int .i64 0, .int .i64 1, .bool true]) ∧ OnceBegun W l w' := by
  have hc := cutC_in a
  obtain ⟨hrun, hOK⟩ := once_made hc.1 hc.2
  refine (creates_any T a rfl hrun rfl rfl (g := 1) (by rfl) rfl (y := true) rfl).mono ?_
  rintro e w' ⟨rfl, C⟩
  obtain ⟨s, hx, T2⟩ := C.out
  exact ⟨rfl, _, _, hx ▸ Once.nil T2 (hx.symm ▸ hOK)⟩
end
end Go.Proofs.Ytalglhgngedjoaa

/-
  The contract of rundalemake.Config: a small configuration by a number.
-/
namespace Go.Proofs.Ytalglhgngedjoaa
open Go.RowKit


theorem W3_size (w : World) (o p : Obj) : ((w.alloc o).alloc p).heap.size = w.heap.size + 1 + 1 := by simp
/-- A configuration as Config makes them. -/
def Cf.Small (c : Cf) : Prop := (1 ≤ c.wk ∧ c.wk ≤ 4) ∧ (1 ≤ c.ch ∧ c.ch ≤ 8) ∧ (c.wo = 8 ∨ c.wo = 16) ∧ (1 ≤ c.sl ∧ c.sl ≤ 4) ∧ (0 ≤ c.ca ∧ c.ca ≤ 3) ∧ (1 ≤ c.ba ∧ c.ba ≤ 3)
theorem Cf.Small.may {c : Cf} (h : c.Small) : mayB c = true := by
  obtain ⟨_, _, _, _, _, _⟩ := h
  refine mayB_iff.2 ⟨?_, ?_, ?_, ?_, ?_, ?_⟩ <;> omega

end Go.Proofs.Ytalglhgngedjoaa
