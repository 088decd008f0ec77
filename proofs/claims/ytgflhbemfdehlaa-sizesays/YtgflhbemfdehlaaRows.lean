/-
  No cell of these rows narrows 'for every input' (looked for: loops, veiled, ifaces, maps, wideKeys, modest, calm, conditions, laid).
  DERIVED. THE GIVEN ROWS OF THIS SEAT. 4 by the template 'for every input the law returns true; each argument reads behind the call as it read before'; 0 by the template 'total and deterministic' (their statements: YtgflhbemfdehlaaTotals.lean).
  GIVEN WITH THE SEED: the statements are not yours to turn. If you find one false, say at which input.
  Laid BY PROGRAM, IN A SANDBOX (cutbox-rows.mjs): the forced cells as the released guide's own fill.sh prints them over the translation 384263b001b245a5… (all of the seat's roots in one cut). By AI agents, Wed Nov 11 2026. No macro, syntax, notation, axiom, sorry.
-/
import Derived.Test.YtgflhbemfdehlaaChecked
import GoSem.Claim
import GoSem.ClaimJoined
import GoSem.ClaimMapViews
import Derived.JoinedTies
import Derived.KernelRfl
namespace Go.Proofs.Ytgflhbemfdehlaa
/- THE CELL 'sum', in the pinned program and in every row, IS THE sha256 OF THE DUMP (.gsa) THAT YtgflhbemfdehlaaProg.lean LOADS. Nothing in Lean hashes anything: it is a label: what it is worth is what the hold of that sum in a sandbox is worth. -/
noncomputable def Try.pinned : Pinned := { name := "ytgflhbemfdehlaa", sum := "384263b001b245a5e35e873776987d1257737d338a37b261afc3b5f2a097e026", checked := Try.checked }
namespace Rows
def none {H : Type} : Left H := { results := [], args := [] }

/-- 'rundalelaw3.SizeSays': WHATEVER THE INPUT: true; the input reads as it did. -/
def sizeSaysSpec : ChangeSpec := { name := "sizeSays", fn := fun _ => fun
  | [d1, d2, d3, d4, d5] => { results := [.lit (.bool true)], args := [d1, d2, d3, d4, d5] }
  | _ => none }
def sizeSaysRow : OpenClaim := { program := "ytgflhbemfdehlaa", sum := "384263b001b245a5e35e873776987d1257737d338a37b261afc3b5f2a097e026", func := "rundale/rundalelaw3.SizeSays", spec := "sizeSays", apart := false }
def SizeSaysSaid : Prop := sizeSaysRow.holds Try.pinned (OpenSpec.ofChange sizeSaysSpec)

/-- ITS FALSE NEIGHBOUR: 'it returns false'. Refute it at one input. -/
def sizeSaysWrong : ChangeSpec := { name := "sizeSays", fn := fun _ => fun
  | [d1, d2, d3, d4, d5] => { results := [.lit (.bool false)], args := [d1, d2, d3, d4, d5] }
  | _ => none }
def SizeSaysWrongFalsely : Prop := sizeSaysRow.holds Try.pinned (OpenSpec.ofChange sizeSaysWrong)

/-- 'rundalelaw3.SizeRounds': WHATEVER THE INPUT: true; the input reads as it did. -/
def sizeRoundsSpec : ChangeSpec := { name := "sizeRounds", fn := fun _ => fun
  | [d1, d2] => { results := [.lit (.bool true)], args := [d1, d2] }
  | _ => none }
def sizeRoundsRow : OpenClaim := { program := "ytgflhbemfdehlaa", sum := "384263b001b245a5e35e873776987d1257737d338a37b261afc3b5f2a097e026", func := "rundale/rundalelaw3.SizeRounds", spec := "sizeRounds", apart := false }
def SizeRoundsSaid : Prop := sizeRoundsRow.holds Try.pinned (OpenSpec.ofChange sizeRoundsSpec)

/-- ITS FALSE NEIGHBOUR: 'it returns false'. Refute it at one input. -/
def sizeRoundsWrong : ChangeSpec := { name := "sizeRounds", fn := fun _ => fun
  | [d1, d2] => { results := [.lit (.bool false)], args := [d1, d2] }
  | _ => none }
def SizeRoundsWrongFalsely : Prop := sizeRoundsRow.holds Try.pinned (OpenSpec.ofChange sizeRoundsWrong)

/-- 'rundalelaw3.SizeFills': WHATEVER THE INPUT: true; the input reads as it did. -/
def sizeFillsSpec : ChangeSpec := { name := "sizeFills", fn := fun _ => fun
  | [d1, d2] => { results := [.lit (.bool true)], args := [d1, d2] }
  | _ => none }
def sizeFillsRow : OpenClaim := { program := "ytgflhbemfdehlaa", sum := "384263b001b245a5e35e873776987d1257737d338a37b261afc3b5f2a097e026", func := "rundale/rundalelaw3.SizeFills", spec := "sizeFills", apart := false }
def SizeFillsSaid : Prop := sizeFillsRow.holds Try.pinned (OpenSpec.ofChange sizeFillsSpec)

/-- ITS FALSE NEIGHBOUR: 'it returns false'. Refute it at one input. -/
def sizeFillsWrong : ChangeSpec := { name := "sizeFills", fn := fun _ => fun
  | [d1, d2] => { results := [.lit (.bool false)], args := [d1, d2] }
  | _ => none }
def SizeFillsWrongFalsely : Prop := sizeFillsRow.holds Try.pinned (OpenSpec.ofChange sizeFillsWrong)

/-- 'rundalelaw3.SizeEdges': WHATEVER THE INPUT: true; the input reads as it did. -/
def sizeEdgesSpec : ChangeSpec := { name := "sizeEdges", fn := fun _ => fun
  | [d1, d2, d3] => { results := [.lit (.bool true)], args := [d1, d2, d3] }
  | _ => none }
def sizeEdgesRow : OpenClaim := { program := "ytgflhbemfdehlaa", sum := "384263b001b245a5e35e873776987d1257737d338a37b261afc3b5f2a097e026", func := "rundale/rundalelaw3.SizeEdges", spec := "sizeEdges", apart := false }
def SizeEdgesSaid : Prop := sizeEdgesRow.holds Try.pinned (OpenSpec.ofChange sizeEdgesSpec)

/-- ITS FALSE NEIGHBOUR: 'it returns false'. Refute it at one input. -/
def sizeEdgesWrong : ChangeSpec := { name := "sizeEdges", fn := fun _ => fun
  | [d1, d2, d3] => { results := [.lit (.bool false)], args := [d1, d2, d3] }
  | _ => none }
def SizeEdgesWrongFalsely : Prop := sizeEdgesRow.holds Try.pinned (OpenSpec.ofChange sizeEdgesWrong)

/- THE SECOND FORM. 'bulk': how many values and letters a reading holds, each counted each time it is reached (what is shared counts as often as it is met; a slice's spare places count too). A statement '..UptoSaid' is the law's where the arguments, and the package variables that the reading takes, are together of bulk at most 1048576: NARROWER than '..Said'. Prove '..Said' where nothing that the law and all that it calls make is longer than what came in: it says more and counts as full. Else prove '..UptoSaid'. A law counts once. -/
mutual
def uptoBulk {H : Type} : DataW H → Nat
  | .lit (.string bytes) => bytes.length + 1
  | .lit _ => 1
  | .nil => 1
  | .ptr d => uptoBulk d + 1
  | .slice elems spare => uptoBulkAll elems + uptoBulkAll spare + 1
  | .agg parts => uptoBulkAll parts + 1
  | .iface _ d => uptoBulk d + 1
  | .map entries => uptoBulkEntries entries + 1
  | .held _ => 1
def uptoBulkAll {H : Type} : List (DataW H) → Nat
  | [] => 0
  | d :: r => uptoBulk d + uptoBulkAll r
def uptoBulkEntries {H : Type} : List (Lit × DataW H) → Nat
  | [] => 0
  | x :: r => uptoBulkEntry x + uptoBulkEntries r
def uptoBulkEntry {H : Type} : Lit × DataW H → Nat
  | (.string bytes, d) => bytes.length + uptoBulk d + 1
  | (_, d) => uptoBulk d + 1
 end
def uptoSmall : (H : Type) → List (DataW H) → Bool := fun _ ds => decide (uptoBulkAll ds ≤ 1048576)
def OpenSpec.upto (s : _root_.Go.ChangeSpec) : _root_.Go.OpenSpec := { _root_.Go.OpenSpec.ofChange s with cond := some uptoSmall }

/-- 'rundalelaw3.SizeSays', WHERE WHAT IT READS IS OF BULK AT MOST 1048576: true; the input reads as it did. -/
def sizeSaysUptoRow : OpenClaim := { program := "ytgflhbemfdehlaa", sum := "384263b001b245a5e35e873776987d1257737d338a37b261afc3b5f2a097e026", func := "rundale/rundalelaw3.SizeSays", spec := "sizeSays", apart := false, narrowed := true }
def SizeSaysUptoSaid : Prop := sizeSaysUptoRow.holds Try.pinned (OpenSpec.upto sizeSaysSpec)

/-- 'rundalelaw3.SizeRounds', WHERE WHAT IT READS IS OF BULK AT MOST 1048576: true; the input reads as it did. -/
def sizeRoundsUptoRow : OpenClaim := { program := "ytgflhbemfdehlaa", sum := "384263b001b245a5e35e873776987d1257737d338a37b261afc3b5f2a097e026", func := "rundale/rundalelaw3.SizeRounds", spec := "sizeRounds", apart := false, narrowed := true }
def SizeRoundsUptoSaid : Prop := sizeRoundsUptoRow.holds Try.pinned (OpenSpec.upto sizeRoundsSpec)

/-- 'rundalelaw3.SizeFills', WHERE WHAT IT READS IS OF BULK AT MOST 1048576: true; the input reads as it did. -/
def sizeFillsUptoRow : OpenClaim := { program := "ytgflhbemfdehlaa", sum := "384263b001b245a5e35e873776987d1257737d338a37b261afc3b5f2a097e026", func := "rundale/rundalelaw3.SizeFills", spec := "sizeFills", apart := false, narrowed := true }
def SizeFillsUptoSaid : Prop := sizeFillsUptoRow.holds Try.pinned (OpenSpec.upto sizeFillsSpec)

/-- 'rundalelaw3.SizeEdges', WHERE WHAT IT READS IS OF BULK AT MOST 1048576: true; the input reads as it did. -/
def sizeEdgesUptoRow : OpenClaim := { program := "ytgflhbemfdehlaa", sum := "384263b001b245a5e35e873776987d1257737d338a37b261afc3b5f2a097e026", func := "rundale/rundalelaw3.SizeEdges", spec := "sizeEdges", apart := false, narrowed := true }
def SizeEdgesUptoSaid : Prop := sizeEdgesUptoRow.holds Try.pinned (OpenSpec.upto sizeEdgesSpec)

end Rows
end Go.Proofs.Ytgflhbemfdehlaa
