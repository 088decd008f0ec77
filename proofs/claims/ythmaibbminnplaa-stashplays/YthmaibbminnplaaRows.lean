/-
  No cell of these rows narrows 'for every input' (looked for: loops, veiled, ifaces, maps, wideKeys, modest, calm, conditions, laid).
  DERIVED. THE GIVEN ROWS OF THIS SEAT. 4 by the template 'for every input the law returns true; each argument reads behind the call as it read before'; 0 by the template 'total and deterministic' (their statements: YthmaibbminnplaaTotals.lean).
  GIVEN WITH THE SEED: the statements are not yours to turn. If you find one false, say at which input.
  Laid BY PROGRAM, IN A SANDBOX (cutbox-rows.mjs): the forced cells as the released guide's own fill.sh prints them over the translation 6fcaf3161fa6c603… (all of the seat's roots in one cut). By AI agents, Wed Nov 11 2026. No macro, syntax, notation, axiom, sorry.
-/
import Derived.Test.YthmaibbminnplaaChecked
import GoSem.Claim
import GoSem.ClaimJoined
import GoSem.ClaimMapViews
import Derived.JoinedTies
import Derived.KernelRfl
namespace Go.Proofs.Ythmaibbminnplaa
/- THE CELL 'sum', in the pinned program and in every row, IS THE sha256 OF THE DUMP (.gsa) THAT YthmaibbminnplaaProg.lean LOADS. Nothing in Lean hashes anything: it is a label: what it is worth is what the hold of that sum in a sandbox is worth. -/
noncomputable def Try.pinned : Pinned := { name := "ythmaibbminnplaa", sum := "6fcaf3161fa6c6038cd9749dec721ec9b740583aad47a7a9c5b37fe93fb17ac2", checked := Try.checked }
namespace Rows
def none {H : Type} : Left H := { results := [], args := [] }

/-- 'rundalelaw8.StashPlays': WHATEVER THE INPUT: true; the input reads as it did. -/
def stashPlaysSpec : ChangeSpec := { name := "stashPlays", fn := fun _ => fun
  | [d1, d2] => { results := [.lit (.bool true)], args := [d1, d2] }
  | _ => none }
def stashPlaysRow : OpenClaim := { program := "ythmaibbminnplaa", sum := "6fcaf3161fa6c6038cd9749dec721ec9b740583aad47a7a9c5b37fe93fb17ac2", func := "rundale/rundalelaw8.StashPlays", spec := "stashPlays", apart := false }
def StashPlaysSaid : Prop := stashPlaysRow.holds Try.pinned (OpenSpec.ofChange stashPlaysSpec)

/-- ITS FALSE NEIGHBOUR: 'it returns false'. Refute it at one input. -/
def stashPlaysWrong : ChangeSpec := { name := "stashPlays", fn := fun _ => fun
  | [d1, d2] => { results := [.lit (.bool false)], args := [d1, d2] }
  | _ => none }
def StashPlaysWrongFalsely : Prop := stashPlaysRow.holds Try.pinned (OpenSpec.ofChange stashPlaysWrong)

/-- 'rundalelaw8.StashBack': WHATEVER THE INPUT: true; the input reads as it did. -/
def stashBackSpec : ChangeSpec := { name := "stashBack", fn := fun _ => fun
  | [d1, d2, d3] => { results := [.lit (.bool true)], args := [d1, d2, d3] }
  | _ => none }
def stashBackRow : OpenClaim := { program := "ythmaibbminnplaa", sum := "6fcaf3161fa6c6038cd9749dec721ec9b740583aad47a7a9c5b37fe93fb17ac2", func := "rundale/rundalelaw8.StashBack", spec := "stashBack", apart := false }
def StashBackSaid : Prop := stashBackRow.holds Try.pinned (OpenSpec.ofChange stashBackSpec)

/-- ITS FALSE NEIGHBOUR: 'it returns false'. Refute it at one input. -/
def stashBackWrong : ChangeSpec := { name := "stashBack", fn := fun _ => fun
  | [d1, d2, d3] => { results := [.lit (.bool false)], args := [d1, d2, d3] }
  | _ => none }
def StashBackWrongFalsely : Prop := stashBackRow.holds Try.pinned (OpenSpec.ofChange stashBackWrong)

/-- 'rundalelaw8.StashCuts': WHATEVER THE INPUT: true; the input reads as it did. -/
def stashCutsSpec : ChangeSpec := { name := "stashCuts", fn := fun _ => fun
  | [d1, d2] => { results := [.lit (.bool true)], args := [d1, d2] }
  | _ => none }
def stashCutsRow : OpenClaim := { program := "ythmaibbminnplaa", sum := "6fcaf3161fa6c6038cd9749dec721ec9b740583aad47a7a9c5b37fe93fb17ac2", func := "rundale/rundalelaw8.StashCuts", spec := "stashCuts", apart := false }
def StashCutsSaid : Prop := stashCutsRow.holds Try.pinned (OpenSpec.ofChange stashCutsSpec)

/-- ITS FALSE NEIGHBOUR: 'it returns false'. Refute it at one input. -/
def stashCutsWrong : ChangeSpec := { name := "stashCuts", fn := fun _ => fun
  | [d1, d2] => { results := [.lit (.bool false)], args := [d1, d2] }
  | _ => none }
def StashCutsWrongFalsely : Prop := stashCutsRow.holds Try.pinned (OpenSpec.ofChange stashCutsWrong)

/-- 'rundalelaw8.StashLots': WHATEVER THE INPUT: true; the input reads as it did. -/
def stashLotsSpec : ChangeSpec := { name := "stashLots", fn := fun _ => fun
  | [d1, d2] => { results := [.lit (.bool true)], args := [d1, d2] }
  | _ => none }
def stashLotsRow : OpenClaim := { program := "ythmaibbminnplaa", sum := "6fcaf3161fa6c6038cd9749dec721ec9b740583aad47a7a9c5b37fe93fb17ac2", func := "rundale/rundalelaw8.StashLots", spec := "stashLots", apart := false }
def StashLotsSaid : Prop := stashLotsRow.holds Try.pinned (OpenSpec.ofChange stashLotsSpec)

/-- ITS FALSE NEIGHBOUR: 'it returns false'. Refute it at one input. -/
def stashLotsWrong : ChangeSpec := { name := "stashLots", fn := fun _ => fun
  | [d1, d2] => { results := [.lit (.bool false)], args := [d1, d2] }
  | _ => none }
def StashLotsWrongFalsely : Prop := stashLotsRow.holds Try.pinned (OpenSpec.ofChange stashLotsWrong)

/- THE SECOND FORM. 'bulk': how many values and letters a reading holds, each counted each time it is reached (what is shared counts as often as it is met; a slice's spare places count too). A statement '..UptoSaid' is the law's where the arguments, and the package variables that the reading takes, are together of bulk at most 1048576: NARROWER than '..Said'. Prove '..Said' where nothing that the law and all that it calls make is longer than what came in: it says more and counts as full. Else prove '..UptoSaid'. A law counts once. -/
mutual
def uptoBulk {H : Type} : DataW H → Nat
  | .lit (.string bytes) => bytes.length + 1
  | .lit _ => 1
  | .nil => 1
  | .ptr d => uptoBulk d + 1
  | .slice elems spare => uptoBulkAll elems + uptoBulkAll spare + 1
  | .agg parts => uptoBulkAll parts + 1
  | .iface _ d => uptoBulk d + 1
  | .map entries => uptoBulkEntries entries + 1
  | .held _ => 1
def uptoBulkAll {H : Type} : List (DataW H) → Nat
  | [] => 0
  | d :: r => uptoBulk d + uptoBulkAll r
def uptoBulkEntries {H : Type} : List (Lit × DataW H) → Nat
  | [] => 0
  | x :: r => uptoBulkEntry x + uptoBulkEntries r
def uptoBulkEntry {H : Type} : Lit × DataW H → Nat
  | (.string bytes, d) => bytes.length + uptoBulk d + 1
  | (_, d) => uptoBulk d + 1
 end
def uptoSmall : (H : Type) → List (DataW H) → Bool := fun _ ds => decide (uptoBulkAll ds ≤ 1048576)
def OpenSpec.upto (s : _root_.Go.ChangeSpec) : _root_.Go.OpenSpec := { _root_.Go.OpenSpec.ofChange s with cond := some uptoSmall }

/-- 'rundalelaw8.StashPlays', WHERE WHAT IT READS IS OF BULK AT MOST 1048576: true; the input reads as it did. -/
def stashPlaysUptoRow : OpenClaim := { program := "ythmaibbminnplaa", sum := "6fcaf3161fa6c6038cd9749dec721ec9b740583aad47a7a9c5b37fe93fb17ac2", func := "rundale/rundalelaw8.StashPlays", spec := "stashPlays", apart := false, narrowed := true }
def StashPlaysUptoSaid : Prop := stashPlaysUptoRow.holds Try.pinned (OpenSpec.upto stashPlaysSpec)

/-- 'rundalelaw8.StashBack', WHERE WHAT IT READS IS OF BULK AT MOST 1048576: true; the input reads as it did. -/
def stashBackUptoRow : OpenClaim := { program := "ythmaibbminnplaa", sum := "6fcaf3161fa6c6038cd9749dec721ec9b740583aad47a7a9c5b37fe93fb17ac2", func := "rundale/rundalelaw8.StashBack", spec := "stashBack", apart := false, narrowed := true }
def StashBackUptoSaid : Prop := stashBackUptoRow.holds Try.pinned (OpenSpec.upto stashBackSpec)

/-- 'rundalelaw8.StashCuts', WHERE WHAT IT READS IS OF BULK AT MOST 1048576: true; the input reads as it did. -/
def stashCutsUptoRow : OpenClaim := { program := "ythmaibbminnplaa", sum := "6fcaf3161fa6c6038cd9749dec721ec9b740583aad47a7a9c5b37fe93fb17ac2", func := "rundale/rundalelaw8.StashCuts", spec := "stashCuts", apart := false, narrowed := true }
def StashCutsUptoSaid : Prop := stashCutsUptoRow.holds Try.pinned (OpenSpec.upto stashCutsSpec)

/-- 'rundalelaw8.StashLots', WHERE WHAT IT READS IS OF BULK AT MOST 1048576: true; the input reads as it did. -/
def stashLotsUptoRow : OpenClaim := { program := "ythmaibbminnplaa", sum := "6fcaf3161fa6c6038cd9749dec721ec9b740583aad47a7a9c5b37fe93fb17ac2", func := "rundale/rundalelaw8.StashLots", spec := "stashLots", apart := false, narrowed := true }
def StashLotsUptoSaid : Prop := stashLotsUptoRow.holds Try.pinned (OpenSpec.upto stashLotsSpec)

end Rows
end Go.Proofs.Ythmaibbminnplaa
