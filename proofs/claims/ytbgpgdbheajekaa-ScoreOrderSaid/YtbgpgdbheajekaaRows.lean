/-
  No cell of these rows narrows 'for every input' (looked for: loops, veiled, ifaces, maps, wideKeys, modest, calm, conditions, laid).
  DERIVED. THE GIVEN ROWS OF THIS SEAT. 6 by the template 'for every input the law returns true; each argument reads behind the call as it read before'; 0 by the template 'total and deterministic' (their statements: YtbgpgdbheajekaaTotals.lean).
  GIVEN WITH THE SEED: the statements are not yours to turn. If you find one false, say at which input.
  Laid BY PROGRAM, IN A SANDBOX (cutbox-rows.mjs): the forced cells as the released guide's own fill.sh prints them over the translation a5f6e1a0b34c6ebf… (all of the seat's roots in one cut). By AI agents, Wed Nov 11 2026. No macro, syntax, notation, axiom, sorry.
-/
import Derived.Test.YtbgpgdbheajekaaChecked
import GoSem.Claim
import GoSem.ClaimJoined
import GoSem.ClaimMapViews
import Derived.JoinedTies
import Derived.KernelRfl
namespace Go.Proofs.Ytbgpgdbheajekaa
/- THE CELL 'sum', in the pinned program and in every row, IS THE sha256 OF THE DUMP (.gsa) THAT YtbgpgdbheajekaaProg.lean LOADS. Nothing in Lean hashes anything: it is a label: what it is worth is what the hold of that sum in a sandbox is worth. -/
noncomputable def Try.pinned : Pinned := { name := "ytbgpgdbheajekaa", sum := "a5f6e1a0b34c6ebf72cecbfb56a6fe5d4e61a06cf37cbb8affc3fd0fd6e0e760", checked := Try.checked }
namespace Rows
def none {H : Type} : Left H := { results := [], args := [] }

/-- 'shroudlaw15.ScoreTells': WHATEVER THE INPUT: true; the input reads as it did. -/
def scoreTellsSpec : ChangeSpec := { name := "scoreTells", fn := fun _ => fun
  | [d1, d2, d3, d4, d5] => { results := [.lit (.bool true)], args := [d1, d2, d3, d4, d5] }
  | _ => none }
def scoreTellsRow : OpenClaim := { program := "ytbgpgdbheajekaa", sum := "a5f6e1a0b34c6ebf72cecbfb56a6fe5d4e61a06cf37cbb8affc3fd0fd6e0e760", func := "shroud/shroudlaw15.ScoreTells", spec := "scoreTells", apart := false }
def ScoreTellsSaid : Prop := scoreTellsRow.holds Try.pinned (OpenSpec.ofChange scoreTellsSpec)

/-- ITS FALSE NEIGHBOUR: 'it returns false'. Refute it at one input. -/
def scoreTellsWrong : ChangeSpec := { name := "scoreTells", fn := fun _ => fun
  | [d1, d2, d3, d4, d5] => { results := [.lit (.bool false)], args := [d1, d2, d3, d4, d5] }
  | _ => none }
def ScoreTellsWrongFalsely : Prop := scoreTellsRow.holds Try.pinned (OpenSpec.ofChange scoreTellsWrong)

/-- 'shroudlaw15.ScoreOrder': WHATEVER THE INPUT: true; the input reads as it did. -/
def scoreOrderSpec : ChangeSpec := { name := "scoreOrder", fn := fun _ => fun
  | [d1, d2, d3] => { results := [.lit (.bool true)], args := [d1, d2, d3] }
  | _ => none }
def scoreOrderRow : OpenClaim := { program := "ytbgpgdbheajekaa", sum := "a5f6e1a0b34c6ebf72cecbfb56a6fe5d4e61a06cf37cbb8affc3fd0fd6e0e760", func := "shroud/shroudlaw15.ScoreOrder", spec := "scoreOrder", apart := false }
def ScoreOrderSaid : Prop := scoreOrderRow.holds Try.pinned (OpenSpec.ofChange scoreOrderSpec)

/-- ITS FALSE NEIGHBOUR: 'it returns false'. Refute it at one input. -/
def scoreOrderWrong : ChangeSpec := { name := "scoreOrder", fn := fun _ => fun
  | [d1, d2, d3] => { results := [.lit (.bool false)], args := [d1, d2, d3] }
  | _ => none }
def ScoreOrderWrongFalsely : Prop := scoreOrderRow.holds Try.pinned (OpenSpec.ofChange scoreOrderWrong)

/-- 'shroudlaw15.ScoreSorts': WHATEVER THE INPUT: true; the input reads as it did. -/
def scoreSortsSpec : ChangeSpec := { name := "scoreSorts", fn := fun _ => fun
  | [d] => { results := [.lit (.bool true)], args := [d] }
  | _ => none }
def scoreSortsRow : OpenClaim := { program := "ytbgpgdbheajekaa", sum := "a5f6e1a0b34c6ebf72cecbfb56a6fe5d4e61a06cf37cbb8affc3fd0fd6e0e760", func := "shroud/shroudlaw15.ScoreSorts", spec := "scoreSorts", inPlace := ["math.Float64frombits"], unfollowed := true, recurses := true, apart := false }
def ScoreSortsSaid : Prop := scoreSortsRow.holds Try.pinned (OpenSpec.ofChange scoreSortsSpec)

/-- ITS FALSE NEIGHBOUR: 'it returns false'. Refute it at one input. -/
def scoreSortsWrong : ChangeSpec := { name := "scoreSorts", fn := fun _ => fun
  | [d] => { results := [.lit (.bool false)], args := [d] }
  | _ => none }
def ScoreSortsWrongFalsely : Prop := scoreSortsRow.holds Try.pinned (OpenSpec.ofChange scoreSortsWrong)

/-- 'shroudlaw15.ScoreClamps': WHATEVER THE INPUT: true; the input reads as it did. -/
def scoreClampsSpec : ChangeSpec := { name := "scoreClamps", fn := fun _ => fun
  | [d1, d2, d3] => { results := [.lit (.bool true)], args := [d1, d2, d3] }
  | _ => none }
def scoreClampsRow : OpenClaim := { program := "ytbgpgdbheajekaa", sum := "a5f6e1a0b34c6ebf72cecbfb56a6fe5d4e61a06cf37cbb8affc3fd0fd6e0e760", func := "shroud/shroudlaw15.ScoreClamps", spec := "scoreClamps", apart := false }
def ScoreClampsSaid : Prop := scoreClampsRow.holds Try.pinned (OpenSpec.ofChange scoreClampsSpec)

/-- ITS FALSE NEIGHBOUR: 'it returns false'. Refute it at one input. -/
def scoreClampsWrong : ChangeSpec := { name := "scoreClamps", fn := fun _ => fun
  | [d1, d2, d3] => { results := [.lit (.bool false)], args := [d1, d2, d3] }
  | _ => none }
def ScoreClampsWrongFalsely : Prop := scoreClampsRow.holds Try.pinned (OpenSpec.ofChange scoreClampsWrong)

/-- 'shroudlaw15.ScoreRounds': WHATEVER THE INPUT: true; the input reads as it did. -/
def scoreRoundsSpec : ChangeSpec := { name := "scoreRounds", fn := fun _ => fun
  | [d1, d2] => { results := [.lit (.bool true)], args := [d1, d2] }
  | _ => none }
def scoreRoundsRow : OpenClaim := { program := "ytbgpgdbheajekaa", sum := "a5f6e1a0b34c6ebf72cecbfb56a6fe5d4e61a06cf37cbb8affc3fd0fd6e0e760", func := "shroud/shroudlaw15.ScoreRounds", spec := "scoreRounds", apart := false }
def ScoreRoundsSaid : Prop := scoreRoundsRow.holds Try.pinned (OpenSpec.ofChange scoreRoundsSpec)

/-- ITS FALSE NEIGHBOUR: 'it returns false'. Refute it at one input. -/
def scoreRoundsWrong : ChangeSpec := { name := "scoreRounds", fn := fun _ => fun
  | [d1, d2] => { results := [.lit (.bool false)], args := [d1, d2] }
  | _ => none }
def ScoreRoundsWrongFalsely : Prop := scoreRoundsRow.holds Try.pinned (OpenSpec.ofChange scoreRoundsWrong)

/-- 'shroudlaw15.ScoreRates': WHATEVER THE INPUT: true; the input reads as it did. -/
def scoreRatesSpec : ChangeSpec := { name := "scoreRates", fn := fun _ => fun
  | [d1, d2, d3, d4] => { results := [.lit (.bool true)], args := [d1, d2, d3, d4] }
  | _ => none }
def scoreRatesRow : OpenClaim := { program := "ytbgpgdbheajekaa", sum := "a5f6e1a0b34c6ebf72cecbfb56a6fe5d4e61a06cf37cbb8affc3fd0fd6e0e760", func := "shroud/shroudlaw15.ScoreRates", spec := "scoreRates", apart := false }
def ScoreRatesSaid : Prop := scoreRatesRow.holds Try.pinned (OpenSpec.ofChange scoreRatesSpec)

/-- ITS FALSE NEIGHBOUR: 'it returns false'. Refute it at one input. -/
def scoreRatesWrong : ChangeSpec := { name := "scoreRates", fn := fun _ => fun
  | [d1, d2, d3, d4] => { results := [.lit (.bool false)], args := [d1, d2, d3, d4] }
  | _ => none }
def ScoreRatesWrongFalsely : Prop := scoreRatesRow.holds Try.pinned (OpenSpec.ofChange scoreRatesWrong)

/- THE SECOND FORM. 'bulk': how many values and letters a reading holds, each counted each time it is reached (what is shared counts as often as it is met; a slice's spare places count too). A statement '..UptoSaid' is the law's where the arguments, and the package variables that the reading takes, are together of bulk at most 1048576: NARROWER than '..Said'. Prove '..Said' where nothing that the law and all that it calls make is longer than what came in: it says more and counts as full. Else prove '..UptoSaid'. A law counts once. -/
mutual
def uptoBulk {H : Type} : DataW H → Nat
  | .lit (.string bytes) => bytes.length + 1
  | .lit _ => 1
  | .nil => 1
  | .ptr d => uptoBulk d + 1
  | .slice elems spare => uptoBulkAll elems + uptoBulkAll spare + 1
  | .agg parts => uptoBulkAll parts + 1
  | .iface _ d => uptoBulk d + 1
  | .map entries => uptoBulkEntries entries + 1
  | .held _ => 1
def uptoBulkAll {H : Type} : List (DataW H) → Nat
  | [] => 0
  | d :: r => uptoBulk d + uptoBulkAll r
def uptoBulkEntries {H : Type} : List (Lit × DataW H) → Nat
  | [] => 0
  | x :: r => uptoBulkEntry x + uptoBulkEntries r
def uptoBulkEntry {H : Type} : Lit × DataW H → Nat
  | (.string bytes, d) => bytes.length + uptoBulk d + 1
  | (_, d) => uptoBulk d + 1
 end
def uptoSmall : (H : Type) → List (DataW H) → Bool := fun _ ds => decide (uptoBulkAll ds ≤ 1048576)
def OpenSpec.upto (s : _root_.Go.ChangeSpec) : _root_.Go.OpenSpec := { _root_.Go.OpenSpec.ofChange s with cond := some uptoSmall }

/-- 'shroudlaw15.ScoreTells', WHERE WHAT IT READS IS OF BULK AT MOST 1048576: true; the input reads as it did. -/
def scoreTellsUptoRow : OpenClaim := { program := "ytbgpgdbheajekaa", sum := "a5f6e1a0b34c6ebf72cecbfb56a6fe5d4e61a06cf37cbb8affc3fd0fd6e0e760", func := "shroud/shroudlaw15.ScoreTells", spec := "scoreTells", apart := false, narrowed := true }
def ScoreTellsUptoSaid : Prop := scoreTellsUptoRow.holds Try.pinned (OpenSpec.upto scoreTellsSpec)

/-- 'shroudlaw15.ScoreOrder', WHERE WHAT IT READS IS OF BULK AT MOST 1048576: true; the input reads as it did. -/
def scoreOrderUptoRow : OpenClaim := { program := "ytbgpgdbheajekaa", sum := "a5f6e1a0b34c6ebf72cecbfb56a6fe5d4e61a06cf37cbb8affc3fd0fd6e0e760", func := "shroud/shroudlaw15.ScoreOrder", spec := "scoreOrder", apart := false, narrowed := true }
def ScoreOrderUptoSaid : Prop := scoreOrderUptoRow.holds Try.pinned (OpenSpec.upto scoreOrderSpec)

/-- 'shroudlaw15.ScoreSorts', WHERE WHAT IT READS IS OF BULK AT MOST 1048576: true; the input reads as it did. -/
def scoreSortsUptoRow : OpenClaim := { program := "ytbgpgdbheajekaa", sum := "a5f6e1a0b34c6ebf72cecbfb56a6fe5d4e61a06cf37cbb8affc3fd0fd6e0e760", func := "shroud/shroudlaw15.ScoreSorts", spec := "scoreSorts", inPlace := ["math.Float64frombits"], unfollowed := true, recurses := true, apart := false, narrowed := true }
def ScoreSortsUptoSaid : Prop := scoreSortsUptoRow.holds Try.pinned (OpenSpec.upto scoreSortsSpec)

/-- 'shroudlaw15.ScoreClamps', WHERE WHAT IT READS IS OF BULK AT MOST 1048576: true; the input reads as it did. -/
def scoreClampsUptoRow : OpenClaim := { program := "ytbgpgdbheajekaa", sum := "a5f6e1a0b34c6ebf72cecbfb56a6fe5d4e61a06cf37cbb8affc3fd0fd6e0e760", func := "shroud/shroudlaw15.ScoreClamps", spec := "scoreClamps", apart := false, narrowed := true }
def ScoreClampsUptoSaid : Prop := scoreClampsUptoRow.holds Try.pinned (OpenSpec.upto scoreClampsSpec)

/-- 'shroudlaw15.ScoreRounds', WHERE WHAT IT READS IS OF BULK AT MOST 1048576: true; the input reads as it did. -/
def scoreRoundsUptoRow : OpenClaim := { program := "ytbgpgdbheajekaa", sum := "a5f6e1a0b34c6ebf72cecbfb56a6fe5d4e61a06cf37cbb8affc3fd0fd6e0e760", func := "shroud/shroudlaw15.ScoreRounds", spec := "scoreRounds", apart := false, narrowed := true }
def ScoreRoundsUptoSaid : Prop := scoreRoundsUptoRow.holds Try.pinned (OpenSpec.upto scoreRoundsSpec)

/-- 'shroudlaw15.ScoreRates', WHERE WHAT IT READS IS OF BULK AT MOST 1048576: true; the input reads as it did. -/
def scoreRatesUptoRow : OpenClaim := { program := "ytbgpgdbheajekaa", sum := "a5f6e1a0b34c6ebf72cecbfb56a6fe5d4e61a06cf37cbb8affc3fd0fd6e0e760", func := "shroud/shroudlaw15.ScoreRates", spec := "scoreRates", apart := false, narrowed := true }
def ScoreRatesUptoSaid : Prop := scoreRatesUptoRow.holds Try.pinned (OpenSpec.upto scoreRatesSpec)

end Rows
end Go.Proofs.Ytbgpgdbheajekaa
