/-
  No cell of these rows narrows 'for every input' (looked for: loops, veiled, ifaces, maps, wideKeys, modest, calm, conditions, laid).
  DERIVED. THE GIVEN ROWS OF THIS SEAT. 6 by the template 'for every input the law returns true; each argument reads behind the call as it read before'; 0 by the template 'total and deterministic' (their statements: YtjedogkfllddaaaTotals.lean).
  GIVEN WITH THE SEED: the statements are not yours to turn. If you find one false, say at which input.
  Laid BY PROGRAM, IN A SANDBOX (cutbox-rows.mjs): the forced cells as the released guide's own fill.sh prints them over the translation 04e88ea39df31789… (all of the seat's roots in one cut). By AI agents, Wed Nov 11 2026. No macro, syntax, notation, axiom, sorry.
-/
import Derived.Test.YtjedogkfllddaaaChecked
import GoSem.Claim
import GoSem.ClaimJoined
import GoSem.ClaimMapViews
import Derived.JoinedTies
import Derived.KernelRfl
namespace Go.Proofs.Ytjedogkfllddaaa
/- THE CELL 'sum', in the pinned program and in every row, IS THE sha256 OF THE DUMP (.gsa) THAT YtjedogkfllddaaaProg.lean LOADS. Nothing in Lean hashes anything: it is a label: what it is worth is what the hold of that sum in a sandbox is worth. -/
noncomputable def Try.pinned : Pinned := { name := "ytjedogkfllddaaa", sum := "04e88ea39df3178994e867c27d320d74e8ce2f0d9b7731a847c944d551dbd531", checked := Try.checked }
namespace Rows
def none {H : Type} : Left H := { results := [], args := [] }

/-- 'shroudlaw07.PadTells': WHATEVER THE INPUT: true; the input reads as it did. -/
def padTellsSpec : ChangeSpec := { name := "padTells", fn := fun _ => fun
  | [d1, d2, d3, d4] => { results := [.lit (.bool true)], args := [d1, d2, d3, d4] }
  | _ => none }
def padTellsRow : OpenClaim := { program := "ytjedogkfllddaaa", sum := "04e88ea39df3178994e867c27d320d74e8ce2f0d9b7731a847c944d551dbd531", func := "shroud/shroudlaw07.PadTells", spec := "padTells", apart := false }
def PadTellsSaid : Prop := padTellsRow.holds Try.pinned (OpenSpec.ofChange padTellsSpec)

/-- ITS FALSE NEIGHBOUR: 'it returns false'. Refute it at one input. -/
def padTellsWrong : ChangeSpec := { name := "padTells", fn := fun _ => fun
  | [d1, d2, d3, d4] => { results := [.lit (.bool false)], args := [d1, d2, d3, d4] }
  | _ => none }
def PadTellsWrongFalsely : Prop := padTellsRow.holds Try.pinned (OpenSpec.ofChange padTellsWrong)

/-- 'shroudlaw07.PadParts': WHATEVER THE INPUT: true; the input reads as it did. -/
def padPartsSpec : ChangeSpec := { name := "padParts", fn := fun _ => fun
  | [d1, d2, d3] => { results := [.lit (.bool true)], args := [d1, d2, d3] }
  | _ => none }
def padPartsRow : OpenClaim := { program := "ytjedogkfllddaaa", sum := "04e88ea39df3178994e867c27d320d74e8ce2f0d9b7731a847c944d551dbd531", func := "shroud/shroudlaw07.PadParts", spec := "padParts", apart := false }
def PadPartsSaid : Prop := padPartsRow.holds Try.pinned (OpenSpec.ofChange padPartsSpec)

/-- ITS FALSE NEIGHBOUR: 'it returns false'. Refute it at one input. -/
def padPartsWrong : ChangeSpec := { name := "padParts", fn := fun _ => fun
  | [d1, d2, d3] => { results := [.lit (.bool false)], args := [d1, d2, d3] }
  | _ => none }
def PadPartsWrongFalsely : Prop := padPartsRow.holds Try.pinned (OpenSpec.ofChange padPartsWrong)

/-- 'shroudlaw07.PadNext': WHATEVER THE INPUT: true; the input reads as it did. -/
def padNextSpec : ChangeSpec := { name := "padNext", fn := fun _ => fun
  | [d1, d2] => { results := [.lit (.bool true)], args := [d1, d2] }
  | _ => none }
def padNextRow : OpenClaim := { program := "ytjedogkfllddaaa", sum := "04e88ea39df3178994e867c27d320d74e8ce2f0d9b7731a847c944d551dbd531", func := "shroud/shroudlaw07.PadNext", spec := "padNext", apart := false }
def PadNextSaid : Prop := padNextRow.holds Try.pinned (OpenSpec.ofChange padNextSpec)

/-- ITS FALSE NEIGHBOUR: 'it returns false'. Refute it at one input. -/
def padNextWrong : ChangeSpec := { name := "padNext", fn := fun _ => fun
  | [d1, d2] => { results := [.lit (.bool false)], args := [d1, d2] }
  | _ => none }
def PadNextWrongFalsely : Prop := padNextRow.holds Try.pinned (OpenSpec.ofChange padNextWrong)

/-- 'shroudlaw07.PadMany': WHATEVER THE INPUT: true; the input reads as it did. -/
def padManySpec : ChangeSpec := { name := "padMany", fn := fun _ => fun
  | [d1, d2] => { results := [.lit (.bool true)], args := [d1, d2] }
  | _ => none }
def padManyRow : OpenClaim := { program := "ytjedogkfllddaaa", sum := "04e88ea39df3178994e867c27d320d74e8ce2f0d9b7731a847c944d551dbd531", func := "shroud/shroudlaw07.PadMany", spec := "padMany", apart := false }
def PadManySaid : Prop := padManyRow.holds Try.pinned (OpenSpec.ofChange padManySpec)

/-- ITS FALSE NEIGHBOUR: 'it returns false'. Refute it at one input. -/
def padManyWrong : ChangeSpec := { name := "padMany", fn := fun _ => fun
  | [d1, d2] => { results := [.lit (.bool false)], args := [d1, d2] }
  | _ => none }
def PadManyWrongFalsely : Prop := padManyRow.holds Try.pinned (OpenSpec.ofChange padManyWrong)

/-- 'shroudlaw07.PadApart': WHATEVER THE INPUT: true; the input reads as it did. -/
def padApartSpec : ChangeSpec := { name := "padApart", fn := fun _ => fun
  | [d1, d2, d3, d4] => { results := [.lit (.bool true)], args := [d1, d2, d3, d4] }
  | _ => none }
def padApartRow : OpenClaim := { program := "ytjedogkfllddaaa", sum := "04e88ea39df3178994e867c27d320d74e8ce2f0d9b7731a847c944d551dbd531", func := "shroud/shroudlaw07.PadApart", spec := "padApart", apart := false }
def PadApartSaid : Prop := padApartRow.holds Try.pinned (OpenSpec.ofChange padApartSpec)

/-- ITS FALSE NEIGHBOUR: 'it returns false'. Refute it at one input. -/
def padApartWrong : ChangeSpec := { name := "padApart", fn := fun _ => fun
  | [d1, d2, d3, d4] => { results := [.lit (.bool false)], args := [d1, d2, d3, d4] }
  | _ => none }
def PadApartWrongFalsely : Prop := padApartRow.holds Try.pinned (OpenSpec.ofChange padApartWrong)

/-- 'shroudlaw07.PadNumbers': WHATEVER THE INPUT: true; the input reads as it did. -/
def padNumbersSpec : ChangeSpec := { name := "padNumbers", fn := fun _ => fun
  | [d1, d2] => { results := [.lit (.bool true)], args := [d1, d2] }
  | _ => none }
def padNumbersRow : OpenClaim := { program := "ytjedogkfllddaaa", sum := "04e88ea39df3178994e867c27d320d74e8ce2f0d9b7731a847c944d551dbd531", func := "shroud/shroudlaw07.PadNumbers", spec := "padNumbers", apart := false }
def PadNumbersSaid : Prop := padNumbersRow.holds Try.pinned (OpenSpec.ofChange padNumbersSpec)

/-- ITS FALSE NEIGHBOUR: 'it returns false'. Refute it at one input. -/
def padNumbersWrong : ChangeSpec := { name := "padNumbers", fn := fun _ => fun
  | [d1, d2] => { results := [.lit (.bool false)], args := [d1, d2] }
  | _ => none }
def PadNumbersWrongFalsely : Prop := padNumbersRow.holds Try.pinned (OpenSpec.ofChange padNumbersWrong)

/- THE SECOND FORM. 'bulk': how many values and letters a reading holds, each counted each time it is reached (what is shared counts as often as it is met; a slice's spare places count too). A statement '..UptoSaid' is the law's where the arguments, and the package variables that the reading takes, are together of bulk at most 1048576: NARROWER than '..Said'. Prove '..Said' where nothing that the law and all that it calls make is longer than what came in: it says more and counts as full. Else prove '..UptoSaid'. A law counts once. -/
mutual
def uptoBulk {H : Type} : DataW H → Nat
  | .lit (.string bytes) => bytes.length + 1
  | .lit _ => 1
  | .nil => 1
  | .ptr d => uptoBulk d + 1
  | .slice elems spare => uptoBulkAll elems + uptoBulkAll spare + 1
  | .agg parts => uptoBulkAll parts + 1
  | .iface _ d => uptoBulk d + 1
  | .map entries => uptoBulkEntries entries + 1
  | .held _ => 1
def uptoBulkAll {H : Type} : List (DataW H) → Nat
  | [] => 0
  | d :: r => uptoBulk d + uptoBulkAll r
def uptoBulkEntries {H : Type} : List (Lit × DataW H) → Nat
  | [] => 0
  | x :: r => uptoBulkEntry x + uptoBulkEntries r
def uptoBulkEntry {H : Type} : Lit × DataW H → Nat
  | (.string bytes, d) => bytes.length + uptoBulk d + 1
  | (_, d) => uptoBulk d + 1
 end
def uptoSmall : (H : Type) → List (DataW H) → Bool := fun _ ds => decide (uptoBulkAll ds ≤ 1048576)
def OpenSpec.upto (s : _root_.Go.ChangeSpec) : _root_.Go.OpenSpec := { _root_.Go.OpenSpec.ofChange s with cond := some uptoSmall }

/-- 'shroudlaw07.PadTells', WHERE WHAT IT READS IS OF BULK AT MOST 1048576: true; the input reads as it did. -/
def padTellsUptoRow : OpenClaim := { program := "ytjedogkfllddaaa", sum := "04e88ea39df3178994e867c27d320d74e8ce2f0d9b7731a847c944d551dbd531", func := "shroud/shroudlaw07.PadTells", spec := "padTells", apart := false, narrowed := true }
def PadTellsUptoSaid : Prop := padTellsUptoRow.holds Try.pinned (OpenSpec.upto padTellsSpec)

/-- 'shroudlaw07.PadParts', WHERE WHAT IT READS IS OF BULK AT MOST 1048576: true; the input reads as it did. -/
def padPartsUptoRow : OpenClaim := { program := "ytjedogkfllddaaa", sum := "04e88ea39df3178994e867c27d320d74e8ce2f0d9b7731a847c944d551dbd531", func := "shroud/shroudlaw07.PadParts", spec := "padParts", apart := false, narrowed := true }
def PadPartsUptoSaid : Prop := padPartsUptoRow.holds Try.pinned (OpenSpec.upto padPartsSpec)

/-- 'shroudlaw07.PadNext', WHERE WHAT IT READS IS OF BULK AT MOST 1048576: true; the input reads as it did. -/
def padNextUptoRow : OpenClaim := { program := "ytjedogkfllddaaa", sum := "04e88ea39df3178994e867c27d320d74e8ce2f0d9b7731a847c944d551dbd531", func := "shroud/shroudlaw07.PadNext", spec := "padNext", apart := false, narrowed := true }
def PadNextUptoSaid : Prop := padNextUptoRow.holds Try.pinned (OpenSpec.upto padNextSpec)

/-- 'shroudlaw07.PadMany', WHERE WHAT IT READS IS OF BULK AT MOST 1048576: true; the input reads as it did. -/
def padManyUptoRow : OpenClaim := { program := "ytjedogkfllddaaa", sum := "04e88ea39df3178994e867c27d320d74e8ce2f0d9b7731a847c944d551dbd531", func := "shroud/shroudlaw07.PadMany", spec := "padMany", apart := false, narrowed := true }
def PadManyUptoSaid : Prop := padManyUptoRow.holds Try.pinned (OpenSpec.upto padManySpec)

/-- 'shroudlaw07.PadApart', WHERE WHAT IT READS IS OF BULK AT MOST 1048576: true; the input reads as it did. -/
def padApartUptoRow : OpenClaim := { program := "ytjedogkfllddaaa", sum := "04e88ea39df3178994e867c27d320d74e8ce2f0d9b7731a847c944d551dbd531", func := "shroud/shroudlaw07.PadApart", spec := "padApart", apart := false, narrowed := true }
def PadApartUptoSaid : Prop := padApartUptoRow.holds Try.pinned (OpenSpec.upto padApartSpec)

/-- 'shroudlaw07.PadNumbers', WHERE WHAT IT READS IS OF BULK AT MOST 1048576: true; the input reads as it did. -/
def padNumbersUptoRow : OpenClaim := { program := "ytjedogkfllddaaa", sum := "04e88ea39df3178994e867c27d320d74e8ce2f0d9b7731a847c944d551dbd531", func := "shroud/shroudlaw07.PadNumbers", spec := "padNumbers", apart := false, narrowed := true }
def PadNumbersUptoSaid : Prop := padNumbersUptoRow.holds Try.pinned (OpenSpec.upto padNumbersSpec)

end Rows
end Go.Proofs.Ytjedogkfllddaaa
