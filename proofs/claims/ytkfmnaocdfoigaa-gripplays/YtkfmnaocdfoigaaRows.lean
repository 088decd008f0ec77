/-
  No cell of these rows narrows 'for every input' (looked for: loops, veiled, ifaces, maps, wideKeys, modest, calm, conditions, laid).
  DERIVED. THE GIVEN ROWS OF THIS SEAT. 4 by the template 'for every input the law returns true; each argument reads behind the call as it read before'; 0 by the template 'total and deterministic' (their statements: YtkfmnaocdfoigaaTotals.lean).
  GIVEN WITH THE SEED: the statements are not yours to turn. If you find one false, say at which input.
  Laid BY PROGRAM, IN A SANDBOX (cutbox-rows.mjs): the forced cells as the released guide's own fill.sh prints them over the translation d8c818a01d5c63e8… (all of the seat's roots in one cut). By AI agents, Wed Nov 11 2026. No macro, syntax, notation, axiom, sorry.
-/
import Derived.Test.YtkfmnaocdfoigaaChecked
import GoSem.Claim
import GoSem.ClaimJoined
import GoSem.ClaimMapViews
import Derived.JoinedTies
import Derived.KernelRfl
namespace Go.Proofs.Ytkfmnaocdfoigaa
/- THE CELL 'sum', in the pinned program and in every row, IS THE sha256 OF THE DUMP (.gsa) THAT YtkfmnaocdfoigaaProg.lean LOADS. Nothing in Lean hashes anything: it is a label: what it is worth is what the hold of that sum in a sandbox is worth. -/
noncomputable def Try.pinned : Pinned := { name := "ytkfmnaocdfoigaa", sum := "d8c818a01d5c63e8d79f225208c9ca682e5d170bec571334676c47e61e4c95e6", checked := Try.checked }
namespace Rows
def none {H : Type} : Left H := { results := [], args := [] }

/-- 'rundalelaw10.GripPlays': WHATEVER THE INPUT: true; the input reads as it did. -/
def gripPlaysSpec : ChangeSpec := { name := "gripPlays", fn := fun _ => fun
  | [d] => { results := [.lit (.bool true)], args := [d] }
  | _ => none }
def gripPlaysRow : OpenClaim := { program := "ytkfmnaocdfoigaa", sum := "d8c818a01d5c63e8d79f225208c9ca682e5d170bec571334676c47e61e4c95e6", func := "rundale/rundalelaw10.GripPlays", spec := "gripPlays", apart := false }
def GripPlaysSaid : Prop := gripPlaysRow.holds Try.pinned (OpenSpec.ofChange gripPlaysSpec)

/-- ITS FALSE NEIGHBOUR: 'it returns false'. Refute it at one input. -/
def gripPlaysWrong : ChangeSpec := { name := "gripPlays", fn := fun _ => fun
  | [d] => { results := [.lit (.bool false)], args := [d] }
  | _ => none }
def GripPlaysWrongFalsely : Prop := gripPlaysRow.holds Try.pinned (OpenSpec.ofChange gripPlaysWrong)

/-- 'rundalelaw10.GripNests': WHATEVER THE INPUT: true; the input reads as it did. -/
def gripNestsSpec : ChangeSpec := { name := "gripNests", fn := fun _ => fun
  | [d] => { results := [.lit (.bool true)], args := [d] }
  | _ => none }
def gripNestsRow : OpenClaim := { program := "ytkfmnaocdfoigaa", sum := "d8c818a01d5c63e8d79f225208c9ca682e5d170bec571334676c47e61e4c95e6", func := "rundale/rundalelaw10.GripNests", spec := "gripNests", apart := false }
def GripNestsSaid : Prop := gripNestsRow.holds Try.pinned (OpenSpec.ofChange gripNestsSpec)

/-- ITS FALSE NEIGHBOUR: 'it returns false'. Refute it at one input. -/
def gripNestsWrong : ChangeSpec := { name := "gripNests", fn := fun _ => fun
  | [d] => { results := [.lit (.bool false)], args := [d] }
  | _ => none }
def GripNestsWrongFalsely : Prop := gripNestsRow.holds Try.pinned (OpenSpec.ofChange gripNestsWrong)

/-- 'rundalelaw10.GripFull': WHATEVER THE INPUT: true; the input reads as it did. -/
def gripFullSpec : ChangeSpec := { name := "gripFull", fn := fun _ => fun
  | [d1, d2, d3] => { results := [.lit (.bool true)], args := [d1, d2, d3] }
  | _ => none }
def gripFullRow : OpenClaim := { program := "ytkfmnaocdfoigaa", sum := "d8c818a01d5c63e8d79f225208c9ca682e5d170bec571334676c47e61e4c95e6", func := "rundale/rundalelaw10.GripFull", spec := "gripFull", apart := false }
def GripFullSaid : Prop := gripFullRow.holds Try.pinned (OpenSpec.ofChange gripFullSpec)

/-- ITS FALSE NEIGHBOUR: 'it returns false'. Refute it at one input. -/
def gripFullWrong : ChangeSpec := { name := "gripFull", fn := fun _ => fun
  | [d1, d2, d3] => { results := [.lit (.bool false)], args := [d1, d2, d3] }
  | _ => none }
def GripFullWrongFalsely : Prop := gripFullRow.holds Try.pinned (OpenSpec.ofChange gripFullWrong)

/-- 'rundalelaw10.GripApart': WHATEVER THE INPUT: true; the input reads as it did. -/
def gripApartSpec : ChangeSpec := { name := "gripApart", fn := fun _ => fun
  | [d1, d2, d3, d4] => { results := [.lit (.bool true)], args := [d1, d2, d3, d4] }
  | _ => none }
def gripApartRow : OpenClaim := { program := "ytkfmnaocdfoigaa", sum := "d8c818a01d5c63e8d79f225208c9ca682e5d170bec571334676c47e61e4c95e6", func := "rundale/rundalelaw10.GripApart", spec := "gripApart", apart := false }
def GripApartSaid : Prop := gripApartRow.holds Try.pinned (OpenSpec.ofChange gripApartSpec)

/-- ITS FALSE NEIGHBOUR: 'it returns false'. Refute it at one input. -/
def gripApartWrong : ChangeSpec := { name := "gripApart", fn := fun _ => fun
  | [d1, d2, d3, d4] => { results := [.lit (.bool false)], args := [d1, d2, d3, d4] }
  | _ => none }
def GripApartWrongFalsely : Prop := gripApartRow.holds Try.pinned (OpenSpec.ofChange gripApartWrong)

/- THE SECOND FORM. 'bulk': how many values and letters a reading holds, each counted each time it is reached (what is shared counts as often as it is met; a slice's spare places count too). A statement '..UptoSaid' is the law's where the arguments, and the package variables that the reading takes, are together of bulk at most 1048576: NARROWER than '..Said'. Prove '..Said' where nothing that the law and all that it calls make is longer than what came in: it says more and counts as full. Else prove '..UptoSaid'. A law counts once. -/
mutual
def uptoBulk {H : Type} : DataW H → Nat
  | .lit (.string bytes) => bytes.length + 1
  | .lit _ => 1
  | .nil => 1
  | .ptr d => uptoBulk d + 1
  | .slice elems spare => uptoBulkAll elems + uptoBulkAll spare + 1
  | .agg parts => uptoBulkAll parts + 1
  | .iface _ d => uptoBulk d + 1
  | .map entries => uptoBulkEntries entries + 1
  | .held _ => 1
def uptoBulkAll {H : Type} : List (DataW H) → Nat
  | [] => 0
  | d :: r => uptoBulk d + uptoBulkAll r
def uptoBulkEntries {H : Type} : List (Lit × DataW H) → Nat
  | [] => 0
  | x :: r => uptoBulkEntry x + uptoBulkEntries r
def uptoBulkEntry {H : Type} : Lit × DataW H → Nat
  | (.string bytes, d) => bytes.length + uptoBulk d + 1
  | (_, d) => uptoBulk d + 1
 end
def uptoSmall : (H : Type) → List (DataW H) → Bool := fun _ ds => decide (uptoBulkAll ds ≤ 1048576)
def OpenSpec.upto (s : _root_.Go.ChangeSpec) : _root_.Go.OpenSpec := { _root_.Go.OpenSpec.ofChange s with cond := some uptoSmall }

/-- 'rundalelaw10.GripPlays', WHERE WHAT IT READS IS OF BULK AT MOST 1048576: true; the input reads as it did. -/
def gripPlaysUptoRow : OpenClaim := { program := "ytkfmnaocdfoigaa", sum := "d8c818a01d5c63e8d79f225208c9ca682e5d170bec571334676c47e61e4c95e6", func := "rundale/rundalelaw10.GripPlays", spec := "gripPlays", apart := false, narrowed := true }
def GripPlaysUptoSaid : Prop := gripPlaysUptoRow.holds Try.pinned (OpenSpec.upto gripPlaysSpec)

/-- 'rundalelaw10.GripNests', WHERE WHAT IT READS IS OF BULK AT MOST 1048576: true; the input reads as it did. -/
def gripNestsUptoRow : OpenClaim := { program := "ytkfmnaocdfoigaa", sum := "d8c818a01d5c63e8d79f225208c9ca682e5d170bec571334676c47e61e4c95e6", func := "rundale/rundalelaw10.GripNests", spec := "gripNests", apart := false, narrowed := true }
def GripNestsUptoSaid : Prop := gripNestsUptoRow.holds Try.pinned (OpenSpec.upto gripNestsSpec)

/-- 'rundalelaw10.GripFull', WHERE WHAT IT READS IS OF BULK AT MOST 1048576: true; the input reads as it did. -/
def gripFullUptoRow : OpenClaim := { program := "ytkfmnaocdfoigaa", sum := "d8c818a01d5c63e8d79f225208c9ca682e5d170bec571334676c47e61e4c95e6", func := "rundale/rundalelaw10.GripFull", spec := "gripFull", apart := false, narrowed := true }
def GripFullUptoSaid : Prop := gripFullUptoRow.holds Try.pinned (OpenSpec.upto gripFullSpec)

/-- 'rundalelaw10.GripApart', WHERE WHAT IT READS IS OF BULK AT MOST 1048576: true; the input reads as it did. -/
def gripApartUptoRow : OpenClaim := { program := "ytkfmnaocdfoigaa", sum := "d8c818a01d5c63e8d79f225208c9ca682e5d170bec571334676c47e61e4c95e6", func := "rundale/rundalelaw10.GripApart", spec := "gripApart", apart := false, narrowed := true }
def GripApartUptoSaid : Prop := gripApartUptoRow.holds Try.pinned (OpenSpec.upto gripApartSpec)

end Rows
end Go.Proofs.Ytkfmnaocdfoigaa
