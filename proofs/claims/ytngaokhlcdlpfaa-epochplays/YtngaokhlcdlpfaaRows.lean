/-
  No cell of these rows narrows 'for every input' (looked for: loops, veiled, ifaces, maps, wideKeys, modest, calm, conditions, laid).
  DERIVED. THE GIVEN ROWS OF THIS SEAT. 5 by the template 'for every input the law returns true; each argument reads behind the call as it read before'; 0 by the template 'total and deterministic' (their statements: YtngaokhlcdlpfaaTotals.lean).
  GIVEN WITH THE SEED: the statements are not yours to turn. If you find one false, say at which input.
  Laid BY PROGRAM, IN A SANDBOX (cutbox-rows.mjs): the forced cells as the released guide's own fill.sh prints them over the translation ff668d3f459fb942… (all of the seat's roots in one cut). By AI agents, Wed Nov 11 2026. No macro, syntax, notation, axiom, sorry.
-/
import Derived.Test.YtngaokhlcdlpfaaChecked
import GoSem.Claim
import GoSem.ClaimJoined
import GoSem.ClaimMapViews
import Derived.JoinedTies
import Derived.KernelRfl
namespace Go.Proofs.Ytngaokhlcdlpfaa
/- THE CELL 'sum', in the pinned program and in every row, IS THE sha256 OF THE DUMP (.gsa) THAT YtngaokhlcdlpfaaProg.lean LOADS. Nothing in Lean hashes anything: it is a label: what it is worth is what the hold of that sum in a sandbox is worth. -/
noncomputable def Try.pinned : Pinned := { name := "ytngaokhlcdlpfaa", sum := "ff668d3f459fb9428ed7b86494231c2a349e205898a40d0e540d899b41b372d3", checked := Try.checked }
namespace Rows
def none {H : Type} : Left H := { results := [], args := [] }

/-- 'rundalelaw9.EpochPlays': WHATEVER THE INPUT: true; the input reads as it did. -/
def epochPlaysSpec : ChangeSpec := { name := "epochPlays", fn := fun _ => fun
  | [d1, d2, d3] => { results := [.lit (.bool true)], args := [d1, d2, d3] }
  | _ => none }
def epochPlaysRow : OpenClaim := { program := "ytngaokhlcdlpfaa", sum := "ff668d3f459fb9428ed7b86494231c2a349e205898a40d0e540d899b41b372d3", func := "rundale/rundalelaw9.EpochPlays", spec := "epochPlays", unfollowed := true, recurses := true, apart := false }
def EpochPlaysSaid : Prop := epochPlaysRow.holds Try.pinned (OpenSpec.ofChange epochPlaysSpec)

/-- ITS FALSE NEIGHBOUR: 'it returns false'. Refute it at one input. -/
def epochPlaysWrong : ChangeSpec := { name := "epochPlays", fn := fun _ => fun
  | [d1, d2, d3] => { results := [.lit (.bool false)], args := [d1, d2, d3] }
  | _ => none }
def EpochPlaysWrongFalsely : Prop := epochPlaysRow.holds Try.pinned (OpenSpec.ofChange epochPlaysWrong)

/-- 'rundalelaw9.EpochHolds': WHATEVER THE INPUT: true; the input reads as it did. -/
def epochHoldsSpec : ChangeSpec := { name := "epochHolds", fn := fun _ => fun
  | [d1, d2] => { results := [.lit (.bool true)], args := [d1, d2] }
  | _ => none }
def epochHoldsRow : OpenClaim := { program := "ytngaokhlcdlpfaa", sum := "ff668d3f459fb9428ed7b86494231c2a349e205898a40d0e540d899b41b372d3", func := "rundale/rundalelaw9.EpochHolds", spec := "epochHolds", unfollowed := true, recurses := true, apart := false }
def EpochHoldsSaid : Prop := epochHoldsRow.holds Try.pinned (OpenSpec.ofChange epochHoldsSpec)

/-- ITS FALSE NEIGHBOUR: 'it returns false'. Refute it at one input. -/
def epochHoldsWrong : ChangeSpec := { name := "epochHolds", fn := fun _ => fun
  | [d1, d2] => { results := [.lit (.bool false)], args := [d1, d2] }
  | _ => none }
def EpochHoldsWrongFalsely : Prop := epochHoldsRow.holds Try.pinned (OpenSpec.ofChange epochHoldsWrong)

/-- 'rundalelaw9.EpochWins': WHATEVER THE INPUT: true; the input reads as it did. -/
def epochWinsSpec : ChangeSpec := { name := "epochWins", fn := fun _ => fun
  | [d1, d2] => { results := [.lit (.bool true)], args := [d1, d2] }
  | _ => none }
def epochWinsRow : OpenClaim := { program := "ytngaokhlcdlpfaa", sum := "ff668d3f459fb9428ed7b86494231c2a349e205898a40d0e540d899b41b372d3", func := "rundale/rundalelaw9.EpochWins", spec := "epochWins", unfollowed := true, recurses := true, apart := false }
def EpochWinsSaid : Prop := epochWinsRow.holds Try.pinned (OpenSpec.ofChange epochWinsSpec)

/-- ITS FALSE NEIGHBOUR: 'it returns false'. Refute it at one input. -/
def epochWinsWrong : ChangeSpec := { name := "epochWins", fn := fun _ => fun
  | [d1, d2] => { results := [.lit (.bool false)], args := [d1, d2] }
  | _ => none }
def EpochWinsWrongFalsely : Prop := epochWinsRow.holds Try.pinned (OpenSpec.ofChange epochWinsWrong)

/-- 'rundalelaw9.EpochBars': WHATEVER THE INPUT: true; the input reads as it did. -/
def epochBarsSpec : ChangeSpec := { name := "epochBars", fn := fun _ => fun
  | [d1, d2, d3] => { results := [.lit (.bool true)], args := [d1, d2, d3] }
  | _ => none }
def epochBarsRow : OpenClaim := { program := "ytngaokhlcdlpfaa", sum := "ff668d3f459fb9428ed7b86494231c2a349e205898a40d0e540d899b41b372d3", func := "rundale/rundalelaw9.EpochBars", spec := "epochBars", unfollowed := true, recurses := true, apart := false }
def EpochBarsSaid : Prop := epochBarsRow.holds Try.pinned (OpenSpec.ofChange epochBarsSpec)

/-- ITS FALSE NEIGHBOUR: 'it returns false'. Refute it at one input. -/
def epochBarsWrong : ChangeSpec := { name := "epochBars", fn := fun _ => fun
  | [d1, d2, d3] => { results := [.lit (.bool false)], args := [d1, d2, d3] }
  | _ => none }
def EpochBarsWrongFalsely : Prop := epochBarsRow.holds Try.pinned (OpenSpec.ofChange epochBarsWrong)

/-- 'rundalelaw9.EpochNone': WHATEVER THE INPUT: true; the input reads as it did. -/
def epochNoneSpec : ChangeSpec := { name := "epochNone", fn := fun _ => fun
  | [d1, d2, d3, d4] => { results := [.lit (.bool true)], args := [d1, d2, d3, d4] }
  | _ => none }
def epochNoneRow : OpenClaim := { program := "ytngaokhlcdlpfaa", sum := "ff668d3f459fb9428ed7b86494231c2a349e205898a40d0e540d899b41b372d3", func := "rundale/rundalelaw9.EpochNone", spec := "epochNone", unfollowed := true, recurses := true, apart := false }
def EpochNoneSaid : Prop := epochNoneRow.holds Try.pinned (OpenSpec.ofChange epochNoneSpec)

/-- ITS FALSE NEIGHBOUR: 'it returns false'. Refute it at one input. -/
def epochNoneWrong : ChangeSpec := { name := "epochNone", fn := fun _ => fun
  | [d1, d2, d3, d4] => { results := [.lit (.bool false)], args := [d1, d2, d3, d4] }
  | _ => none }
def EpochNoneWrongFalsely : Prop := epochNoneRow.holds Try.pinned (OpenSpec.ofChange epochNoneWrong)

/- THE SECOND FORM. 'bulk': how many values and letters a reading holds, each counted each time it is reached (what is shared counts as often as it is met; a slice's spare places count too). A statement '..UptoSaid' is the law's where the arguments, and the package variables that the reading takes, are together of bulk at most 1048576: NARROWER than '..Said'. Prove '..Said' where nothing that the law and all that it calls make is longer than what came in: it says more and counts as full. Else prove '..UptoSaid'. A law counts once. -/
mutual
def uptoBulk {H : Type} : DataW H → Nat
  | .lit (.string bytes) => bytes.length + 1
  | .lit _ => 1
  | .nil => 1
  | .ptr d => uptoBulk d + 1
  | .slice elems spare => uptoBulkAll elems + uptoBulkAll spare + 1
  | .agg parts => uptoBulkAll parts + 1
  | .iface _ d => uptoBulk d + 1
  | .map entries => uptoBulkEntries entries + 1
  | .held _ => 1
def uptoBulkAll {H : Type} : List (DataW H) → Nat
  | [] => 0
  | d :: r => uptoBulk d + uptoBulkAll r
def uptoBulkEntries {H : Type} : List (Lit × DataW H) → Nat
  | [] => 0
  | x :: r => uptoBulkEntry x + uptoBulkEntries r
def uptoBulkEntry {H : Type} : Lit × DataW H → Nat
  | (.string bytes, d) => bytes.length + uptoBulk d + 1
  | (_, d) => uptoBulk d + 1
 end
def uptoSmall : (H : Type) → List (DataW H) → Bool := fun _ ds => decide (uptoBulkAll ds ≤ 1048576)
def OpenSpec.upto (s : _root_.Go.ChangeSpec) : _root_.Go.OpenSpec := { _root_.Go.OpenSpec.ofChange s with cond := some uptoSmall }

/-- 'rundalelaw9.EpochPlays', WHERE WHAT IT READS IS OF BULK AT MOST 1048576: true; the input reads as it did. -/
def epochPlaysUptoRow : OpenClaim := { program := "ytngaokhlcdlpfaa", sum := "ff668d3f459fb9428ed7b86494231c2a349e205898a40d0e540d899b41b372d3", func := "rundale/rundalelaw9.EpochPlays", spec := "epochPlays", unfollowed := true, recurses := true, apart := false, narrowed := true }
def EpochPlaysUptoSaid : Prop := epochPlaysUptoRow.holds Try.pinned (OpenSpec.upto epochPlaysSpec)

/-- 'rundalelaw9.EpochHolds', WHERE WHAT IT READS IS OF BULK AT MOST 1048576: true; the input reads as it did. -/
def epochHoldsUptoRow : OpenClaim := { program := "ytngaokhlcdlpfaa", sum := "ff668d3f459fb9428ed7b86494231c2a349e205898a40d0e540d899b41b372d3", func := "rundale/rundalelaw9.EpochHolds", spec := "epochHolds", unfollowed := true, recurses := true, apart := false, narrowed := true }
def EpochHoldsUptoSaid : Prop := epochHoldsUptoRow.holds Try.pinned (OpenSpec.upto epochHoldsSpec)

/-- 'rundalelaw9.EpochWins', WHERE WHAT IT READS IS OF BULK AT MOST 1048576: true; the input reads as it did. -/
def epochWinsUptoRow : OpenClaim := { program := "ytngaokhlcdlpfaa", sum := "ff668d3f459fb9428ed7b86494231c2a349e205898a40d0e540d899b41b372d3", func := "rundale/rundalelaw9.EpochWins", spec := "epochWins", unfollowed := true, recurses := true, apart := false, narrowed := true }
def EpochWinsUptoSaid : Prop := epochWinsUptoRow.holds Try.pinned (OpenSpec.upto epochWinsSpec)

/-- 'rundalelaw9.EpochBars', WHERE WHAT IT READS IS OF BULK AT MOST 1048576: true; the input reads as it did. -/
def epochBarsUptoRow : OpenClaim := { program := "ytngaokhlcdlpfaa", sum := "ff668d3f459fb9428ed7b86494231c2a349e205898a40d0e540d899b41b372d3", func := "rundale/rundalelaw9.EpochBars", spec := "epochBars", unfollowed := true, recurses := true, apart := false, narrowed := true }
def EpochBarsUptoSaid : Prop := epochBarsUptoRow.holds Try.pinned (OpenSpec.upto epochBarsSpec)

/-- 'rundalelaw9.EpochNone', WHERE WHAT IT READS IS OF BULK AT MOST 1048576: true; the input reads as it did. -/
def epochNoneUptoRow : OpenClaim := { program := "ytngaokhlcdlpfaa", sum := "ff668d3f459fb9428ed7b86494231c2a349e205898a40d0e540d899b41b372d3", func := "rundale/rundalelaw9.EpochNone", spec := "epochNone", unfollowed := true, recurses := true, apart := false, narrowed := true }
def EpochNoneUptoSaid : Prop := epochNoneUptoRow.holds Try.pinned (OpenSpec.upto epochNoneSpec)

end Rows
end Go.Proofs.Ytngaokhlcdlpfaa
