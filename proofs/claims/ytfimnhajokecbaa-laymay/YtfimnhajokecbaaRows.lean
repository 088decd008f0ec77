/-
  No cell of these rows narrows 'for every input' (looked for: loops, veiled, ifaces, maps, wideKeys, modest, calm, conditions, laid).
  DERIVED. THE GIVEN ROWS OF THIS SEAT. 4 by the template 'for every input the law returns true; each argument reads behind the call as it read before'; 0 by the template 'total and deterministic' (their statements: YtfimnhajokecbaaTotals.lean).
  GIVEN WITH THE SEED: the statements are not yours to turn. If you find one false, say at which input.
  Laid BY PROGRAM, IN A SANDBOX (cutbox-rows.mjs): the forced cells as the released guide's own fill.sh prints them over the translation 3318fa29207de264… (all of the seat's roots in one cut). By AI agents, Wed Nov 11 2026. No macro, syntax, notation, axiom, sorry.
-/
import Derived.Test.YtfimnhajokecbaaChecked
import GoSem.Claim
import GoSem.ClaimJoined
import GoSem.ClaimMapViews
import Derived.JoinedTies
import Derived.KernelRfl
namespace Go.Proofs.Ytfimnhajokecbaa
/- THE CELL 'sum', in the pinned program and in every row, IS THE sha256 OF THE DUMP (.gsa) THAT YtfimnhajokecbaaProg.lean LOADS. Nothing in Lean hashes anything: it is a label: what it is worth is what the hold of that sum in a sandbox is worth. -/
noncomputable def Try.pinned : Pinned := { name := "ytfimnhajokecbaa", sum := "3318fa29207de264e0fe84d36825a480cf68476a219a305260c81f3424aef149", checked := Try.checked }
namespace Rows
def none {H : Type} : Left H := { results := [], args := [] }

/-- 'rundalelaw4.LaySays': WHATEVER THE INPUT: true; the input reads as it did. -/
def laySaysSpec : ChangeSpec := { name := "laySays", fn := fun _ => fun
  | [d1, d2, d3] => { results := [.lit (.bool true)], args := [d1, d2, d3] }
  | _ => none }
def laySaysRow : OpenClaim := { program := "ytfimnhajokecbaa", sum := "3318fa29207de264e0fe84d36825a480cf68476a219a305260c81f3424aef149", func := "rundale/rundalelaw4.LaySays", spec := "laySays", apart := false }
def LaySaysSaid : Prop := laySaysRow.holds Try.pinned (OpenSpec.ofChange laySaysSpec)

/-- ITS FALSE NEIGHBOUR: 'it returns false'. Refute it at one input. -/
def laySaysWrong : ChangeSpec := { name := "laySays", fn := fun _ => fun
  | [d1, d2, d3] => { results := [.lit (.bool false)], args := [d1, d2, d3] }
  | _ => none }
def LaySaysWrongFalsely : Prop := laySaysRow.holds Try.pinned (OpenSpec.ofChange laySaysWrong)

/-- 'rundalelaw4.LayWhole': WHATEVER THE INPUT: true; the input reads as it did. -/
def layWholeSpec : ChangeSpec := { name := "layWhole", fn := fun _ => fun
  | [d1, d2] => { results := [.lit (.bool true)], args := [d1, d2] }
  | _ => none }
def layWholeRow : OpenClaim := { program := "ytfimnhajokecbaa", sum := "3318fa29207de264e0fe84d36825a480cf68476a219a305260c81f3424aef149", func := "rundale/rundalelaw4.LayWhole", spec := "layWhole", apart := false }
def LayWholeSaid : Prop := layWholeRow.holds Try.pinned (OpenSpec.ofChange layWholeSpec)

/-- ITS FALSE NEIGHBOUR: 'it returns false'. Refute it at one input. -/
def layWholeWrong : ChangeSpec := { name := "layWhole", fn := fun _ => fun
  | [d1, d2] => { results := [.lit (.bool false)], args := [d1, d2] }
  | _ => none }
def LayWholeWrongFalsely : Prop := layWholeRow.holds Try.pinned (OpenSpec.ofChange layWholeWrong)

/-- 'rundalelaw4.LayApart': WHATEVER THE INPUT: true; the input reads as it did. -/
def layApartSpec : ChangeSpec := { name := "layApart", fn := fun _ => fun
  | [d1, d2, d3] => { results := [.lit (.bool true)], args := [d1, d2, d3] }
  | _ => none }
def layApartRow : OpenClaim := { program := "ytfimnhajokecbaa", sum := "3318fa29207de264e0fe84d36825a480cf68476a219a305260c81f3424aef149", func := "rundale/rundalelaw4.LayApart", spec := "layApart", apart := false }
def LayApartSaid : Prop := layApartRow.holds Try.pinned (OpenSpec.ofChange layApartSpec)

/-- ITS FALSE NEIGHBOUR: 'it returns false'. Refute it at one input. -/
def layApartWrong : ChangeSpec := { name := "layApart", fn := fun _ => fun
  | [d1, d2, d3] => { results := [.lit (.bool false)], args := [d1, d2, d3] }
  | _ => none }
def LayApartWrongFalsely : Prop := layApartRow.holds Try.pinned (OpenSpec.ofChange layApartWrong)

/-- 'rundalelaw4.LayMay': WHATEVER THE INPUT: true; the input reads as it did. -/
def layMaySpec : ChangeSpec := { name := "layMay", fn := fun _ => fun
  | [d1, d2] => { results := [.lit (.bool true)], args := [d1, d2] }
  | _ => none }
def layMayRow : OpenClaim := { program := "ytfimnhajokecbaa", sum := "3318fa29207de264e0fe84d36825a480cf68476a219a305260c81f3424aef149", func := "rundale/rundalelaw4.LayMay", spec := "layMay", apart := false }
def LayMaySaid : Prop := layMayRow.holds Try.pinned (OpenSpec.ofChange layMaySpec)

/-- ITS FALSE NEIGHBOUR: 'it returns false'. Refute it at one input. -/
def layMayWrong : ChangeSpec := { name := "layMay", fn := fun _ => fun
  | [d1, d2] => { results := [.lit (.bool false)], args := [d1, d2] }
  | _ => none }
def LayMayWrongFalsely : Prop := layMayRow.holds Try.pinned (OpenSpec.ofChange layMayWrong)

/- THE SECOND FORM. 'bulk': how many values and letters a reading holds, each counted each time it is reached (what is shared counts as often as it is met; a slice's spare places count too). A statement '..UptoSaid' is the law's where the arguments, and the package variables that the reading takes, are together of bulk at most 1048576: NARROWER than '..Said'. Prove '..Said' where nothing that the law and all that it calls make is longer than what came in: it says more and counts as full. Else prove '..UptoSaid'. A law counts once. -/
mutual
def uptoBulk {H : Type} : DataW H → Nat
  | .lit (.string bytes) => bytes.length + 1
  | .lit _ => 1
  | .nil => 1
  | .ptr d => uptoBulk d + 1
  | .slice elems spare => uptoBulkAll elems + uptoBulkAll spare + 1
  | .agg parts => uptoBulkAll parts + 1
  | .iface _ d => uptoBulk d + 1
  | .map entries => uptoBulkEntries entries + 1
  | .held _ => 1
def uptoBulkAll {H : Type} : List (DataW H) → Nat
  | [] => 0
  | d :: r => uptoBulk d + uptoBulkAll r
def uptoBulkEntries {H : Type} : List (Lit × DataW H) → Nat
  | [] => 0
  | x :: r => uptoBulkEntry x + uptoBulkEntries r
def uptoBulkEntry {H : Type} : Lit × DataW H → Nat
  | (.string bytes, d) => bytes.length + uptoBulk d + 1
  | (_, d) => uptoBulk d + 1
 end
def uptoSmall : (H : Type) → List (DataW H) → Bool := fun _ ds => decide (uptoBulkAll ds ≤ 1048576)
def OpenSpec.upto (s : _root_.Go.ChangeSpec) : _root_.Go.OpenSpec := { _root_.Go.OpenSpec.ofChange s with cond := some uptoSmall }

/-- 'rundalelaw4.LaySays', WHERE WHAT IT READS IS OF BULK AT MOST 1048576: true; the input reads as it did. -/
def laySaysUptoRow : OpenClaim := { program := "ytfimnhajokecbaa", sum := "3318fa29207de264e0fe84d36825a480cf68476a219a305260c81f3424aef149", func := "rundale/rundalelaw4.LaySays", spec := "laySays", apart := false, narrowed := true }
def LaySaysUptoSaid : Prop := laySaysUptoRow.holds Try.pinned (OpenSpec.upto laySaysSpec)

/-- 'rundalelaw4.LayWhole', WHERE WHAT IT READS IS OF BULK AT MOST 1048576: true; the input reads as it did. -/
def layWholeUptoRow : OpenClaim := { program := "ytfimnhajokecbaa", sum := "3318fa29207de264e0fe84d36825a480cf68476a219a305260c81f3424aef149", func := "rundale/rundalelaw4.LayWhole", spec := "layWhole", apart := false, narrowed := true }
def LayWholeUptoSaid : Prop := layWholeUptoRow.holds Try.pinned (OpenSpec.upto layWholeSpec)

/-- 'rundalelaw4.LayApart', WHERE WHAT IT READS IS OF BULK AT MOST 1048576: true; the input reads as it did. -/
def layApartUptoRow : OpenClaim := { program := "ytfimnhajokecbaa", sum := "3318fa29207de264e0fe84d36825a480cf68476a219a305260c81f3424aef149", func := "rundale/rundalelaw4.LayApart", spec := "layApart", apart := false, narrowed := true }
def LayApartUptoSaid : Prop := layApartUptoRow.holds Try.pinned (OpenSpec.upto layApartSpec)

/-- 'rundalelaw4.LayMay', WHERE WHAT IT READS IS OF BULK AT MOST 1048576: true; the input reads as it did. -/
def layMayUptoRow : OpenClaim := { program := "ytfimnhajokecbaa", sum := "3318fa29207de264e0fe84d36825a480cf68476a219a305260c81f3424aef149", func := "rundale/rundalelaw4.LayMay", spec := "layMay", apart := false, narrowed := true }
def LayMayUptoSaid : Prop := layMayUptoRow.holds Try.pinned (OpenSpec.upto layMaySpec)

end Rows
end Go.Proofs.Ytfimnhajokecbaa
