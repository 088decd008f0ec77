/-
  No cell of these rows narrows 'for every input' (looked for: loops, veiled, ifaces, maps, wideKeys, modest, calm, conditions, laid).
  DERIVED. THE GIVEN ROWS OF THIS SEAT. 4 by the template 'for every input the law returns true; each argument reads behind the call as it read before'; 0 by the template 'total and deterministic' (their statements: YthajdabdiaogiaaTotals.lean).
  GIVEN WITH THE SEED: the statements are not yours to turn. If you find one false, say at which input.
  Laid BY PROGRAM, IN A SANDBOX (cutbox-rows.mjs): the forced cells as the released guide's own fill.sh prints them over the translation 54c200522f03d165… (all of the seat's roots in one cut). By AI agents, Wed Nov 11 2026. No macro, syntax, notation, axiom, sorry.
-/
import Derived.Test.YthajdabdiaogiaaChecked
import GoSem.Claim
import GoSem.ClaimJoined
import GoSem.ClaimMapViews
import Derived.JoinedTies
import Derived.KernelRfl
namespace Go.Proofs.Ythajdabdiaogiaa
/- THE CELL 'sum', in the pinned program and in every row, IS THE sha256 OF THE DUMP (.gsa) THAT YthajdabdiaogiaaProg.lean LOADS. Nothing in Lean hashes anything: it is a label: what it is worth is what the hold of that sum in a sandbox is worth. -/
noncomputable def Try.pinned : Pinned := { name := "ythajdabdiaogiaa", sum := "54c200522f03d1651db7417b31c7a54a45fac01f823663feb8e2f4e4b095db24", checked := Try.checked }
namespace Rows
def none {H : Type} : Left H := { results := [], args := [] }

/-- 'rundalelaw7.LimboPlays': WHATEVER THE INPUT: true; the input reads as it did. -/
def limboPlaysSpec : ChangeSpec := { name := "limboPlays", fn := fun _ => fun
  | [d] => { results := [.lit (.bool true)], args := [d] }
  | _ => none }
def limboPlaysRow : OpenClaim := { program := "ythajdabdiaogiaa", sum := "54c200522f03d1651db7417b31c7a54a45fac01f823663feb8e2f4e4b095db24", func := "rundale/rundalelaw7.LimboPlays", spec := "limboPlays", apart := false }
def LimboPlaysSaid : Prop := limboPlaysRow.holds Try.pinned (OpenSpec.ofChange limboPlaysSpec)

/-- ITS FALSE NEIGHBOUR: 'it returns false'. Refute it at one input. -/
def limboPlaysWrong : ChangeSpec := { name := "limboPlays", fn := fun _ => fun
  | [d] => { results := [.lit (.bool false)], args := [d] }
  | _ => none }
def LimboPlaysWrongFalsely : Prop := limboPlaysRow.holds Try.pinned (OpenSpec.ofChange limboPlaysWrong)

/-- 'rundalelaw7.LimboOnce': WHATEVER THE INPUT: true; the input reads as it did. -/
def limboOnceSpec : ChangeSpec := { name := "limboOnce", fn := fun _ => fun
  | [d] => { results := [.lit (.bool true)], args := [d] }
  | _ => none }
def limboOnceRow : OpenClaim := { program := "ythajdabdiaogiaa", sum := "54c200522f03d1651db7417b31c7a54a45fac01f823663feb8e2f4e4b095db24", func := "rundale/rundalelaw7.LimboOnce", spec := "limboOnce", apart := false }
def LimboOnceSaid : Prop := limboOnceRow.holds Try.pinned (OpenSpec.ofChange limboOnceSpec)

/-- ITS FALSE NEIGHBOUR: 'it returns false'. Refute it at one input. -/
def limboOnceWrong : ChangeSpec := { name := "limboOnce", fn := fun _ => fun
  | [d] => { results := [.lit (.bool false)], args := [d] }
  | _ => none }
def LimboOnceWrongFalsely : Prop := limboOnceRow.holds Try.pinned (OpenSpec.ofChange limboOnceWrong)

/-- 'rundalelaw7.LimboOrder': WHATEVER THE INPUT: true; the input reads as it did. -/
def limboOrderSpec : ChangeSpec := { name := "limboOrder", fn := fun _ => fun
  | [d1, d2, d3, d4, d5] => { results := [.lit (.bool true)], args := [d1, d2, d3, d4, d5] }
  | _ => none }
def limboOrderRow : OpenClaim := { program := "ythajdabdiaogiaa", sum := "54c200522f03d1651db7417b31c7a54a45fac01f823663feb8e2f4e4b095db24", func := "rundale/rundalelaw7.LimboOrder", spec := "limboOrder", apart := false }
def LimboOrderSaid : Prop := limboOrderRow.holds Try.pinned (OpenSpec.ofChange limboOrderSpec)

/-- ITS FALSE NEIGHBOUR: 'it returns false'. Refute it at one input. -/
def limboOrderWrong : ChangeSpec := { name := "limboOrder", fn := fun _ => fun
  | [d1, d2, d3, d4, d5] => { results := [.lit (.bool false)], args := [d1, d2, d3, d4, d5] }
  | _ => none }
def LimboOrderWrongFalsely : Prop := limboOrderRow.holds Try.pinned (OpenSpec.ofChange limboOrderWrong)

/-- 'rundalelaw7.LimboRefuses': WHATEVER THE INPUT: true; the input reads as it did. -/
def limboRefusesSpec : ChangeSpec := { name := "limboRefuses", fn := fun _ => fun
  | [d1, d2, d3] => { results := [.lit (.bool true)], args := [d1, d2, d3] }
  | _ => none }
def limboRefusesRow : OpenClaim := { program := "ythajdabdiaogiaa", sum := "54c200522f03d1651db7417b31c7a54a45fac01f823663feb8e2f4e4b095db24", func := "rundale/rundalelaw7.LimboRefuses", spec := "limboRefuses", apart := false }
def LimboRefusesSaid : Prop := limboRefusesRow.holds Try.pinned (OpenSpec.ofChange limboRefusesSpec)

/-- ITS FALSE NEIGHBOUR: 'it returns false'. Refute it at one input. -/
def limboRefusesWrong : ChangeSpec := { name := "limboRefuses", fn := fun _ => fun
  | [d1, d2, d3] => { results := [.lit (.bool false)], args := [d1, d2, d3] }
  | _ => none }
def LimboRefusesWrongFalsely : Prop := limboRefusesRow.holds Try.pinned (OpenSpec.ofChange limboRefusesWrong)

/- THE SECOND FORM. 'bulk': how many values and letters a reading holds, each counted each time it is reached (what is shared counts as often as it is met; a slice's spare places count too). A statement '..UptoSaid' is the law's where the arguments, and the package variables that the reading takes, are together of bulk at most 1048576: NARROWER than '..Said'. Prove '..Said' where nothing that the law and all that it calls make is longer than what came in: it says more and counts as full. Else prove '..UptoSaid'. A law counts once. -/
mutual
def uptoBulk {H : Type} : DataW H → Nat
  | .lit (.string bytes) => bytes.length + 1
  | .lit _ => 1
  | .nil => 1
  | .ptr d => uptoBulk d + 1
  | .slice elems spare => uptoBulkAll elems + uptoBulkAll spare + 1
  | .agg parts => uptoBulkAll parts + 1
  | .iface _ d => uptoBulk d + 1
  | .map entries => uptoBulkEntries entries + 1
  | .held _ => 1
def uptoBulkAll {H : Type} : List (DataW H) → Nat
  | [] => 0
  | d :: r => uptoBulk d + uptoBulkAll r
def uptoBulkEntries {H : Type} : List (Lit × DataW H) → Nat
  | [] => 0
  | x :: r => uptoBulkEntry x + uptoBulkEntries r
def uptoBulkEntry {H : Type} : Lit × DataW H → Nat
  | (.string bytes, d) => bytes.length + uptoBulk d + 1
  | (_, d) => uptoBulk d + 1
 end
def uptoSmall : (H : Type) → List (DataW H) → Bool := fun _ ds => decide (uptoBulkAll ds ≤ 1048576)
def OpenSpec.upto (s : _root_.Go.ChangeSpec) : _root_.Go.OpenSpec := { _root_.Go.OpenSpec.ofChange s with cond := some uptoSmall }

/-- 'rundalelaw7.LimboPlays', WHERE WHAT IT READS IS OF BULK AT MOST 1048576: true; the input reads as it did. -/
def limboPlaysUptoRow : OpenClaim := { program := "ythajdabdiaogiaa", sum := "54c200522f03d1651db7417b31c7a54a45fac01f823663feb8e2f4e4b095db24", func := "rundale/rundalelaw7.LimboPlays", spec := "limboPlays", apart := false, narrowed := true }
def LimboPlaysUptoSaid : Prop := limboPlaysUptoRow.holds Try.pinned (OpenSpec.upto limboPlaysSpec)

/-- 'rundalelaw7.LimboOnce', WHERE WHAT IT READS IS OF BULK AT MOST 1048576: true; the input reads as it did. -/
def limboOnceUptoRow : OpenClaim := { program := "ythajdabdiaogiaa", sum := "54c200522f03d1651db7417b31c7a54a45fac01f823663feb8e2f4e4b095db24", func := "rundale/rundalelaw7.LimboOnce", spec := "limboOnce", apart := false, narrowed := true }
def LimboOnceUptoSaid : Prop := limboOnceUptoRow.holds Try.pinned (OpenSpec.upto limboOnceSpec)

/-- 'rundalelaw7.LimboOrder', WHERE WHAT IT READS IS OF BULK AT MOST 1048576: true; the input reads as it did. -/
def limboOrderUptoRow : OpenClaim := { program := "ythajdabdiaogiaa", sum := "54c200522f03d1651db7417b31c7a54a45fac01f823663feb8e2f4e4b095db24", func := "rundale/rundalelaw7.LimboOrder", spec := "limboOrder", apart := false, narrowed := true }
def LimboOrderUptoSaid : Prop := limboOrderUptoRow.holds Try.pinned (OpenSpec.upto limboOrderSpec)

/-- 'rundalelaw7.LimboRefuses', WHERE WHAT IT READS IS OF BULK AT MOST 1048576: true; the input reads as it did. -/
def limboRefusesUptoRow : OpenClaim := { program := "ythajdabdiaogiaa", sum := "54c200522f03d1651db7417b31c7a54a45fac01f823663feb8e2f4e4b095db24", func := "rundale/rundalelaw7.LimboRefuses", spec := "limboRefuses", apart := false, narrowed := true }
def LimboRefusesUptoSaid : Prop := limboRefusesUptoRow.holds Try.pinned (OpenSpec.upto limboRefusesSpec)

end Rows
end Go.Proofs.Ythajdabdiaogiaa
