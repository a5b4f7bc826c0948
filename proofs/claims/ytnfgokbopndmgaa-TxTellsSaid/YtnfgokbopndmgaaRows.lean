/-
  No cell of these rows narrows 'for every input' (looked for: loops, veiled, ifaces, maps, wideKeys, modest, calm, conditions, laid).
  DERIVED. THE GIVEN ROWS OF THIS SEAT. 6 by the template 'for every input the law returns true; each argument reads behind the call as it read before'; 0 by the template 'total and deterministic' (their statements: YtnfgokbopndmgaaTotals.lean).
  GIVEN WITH THE SEED: the statements are not yours to turn. If you find one false, say at which input.
  Laid BY PROGRAM, IN A SANDBOX (cutbox-rows.mjs): the forced cells as the released guide's own fill.sh prints them over the translation 5ea0d75f2c7d00b7… (all of the seat's roots in one cut). By AI agents, Wed Nov 11 2026. No macro, syntax, notation, axiom, sorry.
-/
import Derived.Test.YtnfgokbopndmgaaChecked
import GoSem.Claim
import GoSem.ClaimJoined
import GoSem.ClaimMapViews
import Derived.JoinedTies
import Derived.KernelRfl
namespace Go.Proofs.Ytnfgokbopndmgaa
/- THE CELL 'sum', in the pinned program and in every row, IS THE sha256 OF THE DUMP (.gsa) THAT YtnfgokbopndmgaaProg.lean LOADS. Nothing in Lean hashes anything: it is a label: what it is worth is what the hold of that sum in a sandbox is worth. -/
noncomputable def Try.pinned : Pinned := { name := "ytnfgokbopndmgaa", sum := "5ea0d75f2c7d00b73b778be67368c3d4eb943c1168d031b439980d5d3eddc46d", checked := Try.checked }
namespace Rows
def none {H : Type} : Left H := { results := [], args := [] }

/-- 'shroudlaw14.TxTells': WHATEVER THE INPUT: true; the input reads as it did. -/
def txTellsSpec : ChangeSpec := { name := "txTells", fn := fun _ => fun
  | [d1, d2] => { results := [.lit (.bool true)], args := [d1, d2] }
  | _ => none }
def txTellsRow : OpenClaim := { program := "ytnfgokbopndmgaa", sum := "5ea0d75f2c7d00b73b778be67368c3d4eb943c1168d031b439980d5d3eddc46d", func := "shroud/shroudlaw14.TxTells", spec := "txTells", unfollowed := true, recurses := true, apart := false }
def TxTellsSaid : Prop := txTellsRow.holds Try.pinned (OpenSpec.ofChange txTellsSpec)

/-- ITS FALSE NEIGHBOUR: 'it returns false'. Refute it at one input. -/
def txTellsWrong : ChangeSpec := { name := "txTells", fn := fun _ => fun
  | [d1, d2] => { results := [.lit (.bool false)], args := [d1, d2] }
  | _ => none }
def TxTellsWrongFalsely : Prop := txTellsRow.holds Try.pinned (OpenSpec.ofChange txTellsWrong)

/-- 'shroudlaw14.TxBack': WHATEVER THE INPUT: true; the input reads as it did. -/
def txBackSpec : ChangeSpec := { name := "txBack", fn := fun _ => fun
  | [d1, d2] => { results := [.lit (.bool true)], args := [d1, d2] }
  | _ => none }
def txBackRow : OpenClaim := { program := "ytnfgokbopndmgaa", sum := "5ea0d75f2c7d00b73b778be67368c3d4eb943c1168d031b439980d5d3eddc46d", func := "shroud/shroudlaw14.TxBack", spec := "txBack", unfollowed := true, recurses := true, apart := false }
def TxBackSaid : Prop := txBackRow.holds Try.pinned (OpenSpec.ofChange txBackSpec)

/-- ITS FALSE NEIGHBOUR: 'it returns false'. Refute it at one input. -/
def txBackWrong : ChangeSpec := { name := "txBack", fn := fun _ => fun
  | [d1, d2] => { results := [.lit (.bool false)], args := [d1, d2] }
  | _ => none }
def TxBackWrongFalsely : Prop := txBackRow.holds Try.pinned (OpenSpec.ofChange txBackWrong)

/-- 'shroudlaw14.TxRuns': WHATEVER THE INPUT: true; the input reads as it did. -/
def txRunsSpec : ChangeSpec := { name := "txRuns", fn := fun _ => fun
  | [d1, d2, d3] => { results := [.lit (.bool true)], args := [d1, d2, d3] }
  | _ => none }
def txRunsRow : OpenClaim := { program := "ytnfgokbopndmgaa", sum := "5ea0d75f2c7d00b73b778be67368c3d4eb943c1168d031b439980d5d3eddc46d", func := "shroud/shroudlaw14.TxRuns", spec := "txRuns", unfollowed := true, recurses := true, apart := false }
def TxRunsSaid : Prop := txRunsRow.holds Try.pinned (OpenSpec.ofChange txRunsSpec)

/-- ITS FALSE NEIGHBOUR: 'it returns false'. Refute it at one input. -/
def txRunsWrong : ChangeSpec := { name := "txRuns", fn := fun _ => fun
  | [d1, d2, d3] => { results := [.lit (.bool false)], args := [d1, d2, d3] }
  | _ => none }
def TxRunsWrongFalsely : Prop := txRunsRow.holds Try.pinned (OpenSpec.ofChange txRunsWrong)

/-- 'shroudlaw14.TxOthers': WHATEVER THE INPUT: true; the input reads as it did. -/
def txOthersSpec : ChangeSpec := { name := "txOthers", fn := fun _ => fun
  | [d1, d2, d3] => { results := [.lit (.bool true)], args := [d1, d2, d3] }
  | _ => none }
def txOthersRow : OpenClaim := { program := "ytnfgokbopndmgaa", sum := "5ea0d75f2c7d00b73b778be67368c3d4eb943c1168d031b439980d5d3eddc46d", func := "shroud/shroudlaw14.TxOthers", spec := "txOthers", unfollowed := true, recurses := true, apart := false }
def TxOthersSaid : Prop := txOthersRow.holds Try.pinned (OpenSpec.ofChange txOthersSpec)

/-- ITS FALSE NEIGHBOUR: 'it returns false'. Refute it at one input. -/
def txOthersWrong : ChangeSpec := { name := "txOthers", fn := fun _ => fun
  | [d1, d2, d3] => { results := [.lit (.bool false)], args := [d1, d2, d3] }
  | _ => none }
def TxOthersWrongFalsely : Prop := txOthersRow.holds Try.pinned (OpenSpec.ofChange txOthersWrong)

/-- 'shroudlaw14.TxShort': WHATEVER THE INPUT: true; the input reads as it did. -/
def txShortSpec : ChangeSpec := { name := "txShort", fn := fun _ => fun
  | [d] => { results := [.lit (.bool true)], args := [d] }
  | _ => none }
def txShortRow : OpenClaim := { program := "ytnfgokbopndmgaa", sum := "5ea0d75f2c7d00b73b778be67368c3d4eb943c1168d031b439980d5d3eddc46d", func := "shroud/shroudlaw14.TxShort", spec := "txShort", unfollowed := true, recurses := true, apart := false }
def TxShortSaid : Prop := txShortRow.holds Try.pinned (OpenSpec.ofChange txShortSpec)

/-- ITS FALSE NEIGHBOUR: 'it returns false'. Refute it at one input. -/
def txShortWrong : ChangeSpec := { name := "txShort", fn := fun _ => fun
  | [d] => { results := [.lit (.bool false)], args := [d] }
  | _ => none }
def TxShortWrongFalsely : Prop := txShortRow.holds Try.pinned (OpenSpec.ofChange txShortWrong)

/-- 'shroudlaw14.TxUnlike': WHATEVER THE INPUT: true; the input reads as it did. -/
def txUnlikeSpec : ChangeSpec := { name := "txUnlike", fn := fun _ => fun
  | [d1, d2] => { results := [.lit (.bool true)], args := [d1, d2] }
  | _ => none }
def txUnlikeRow : OpenClaim := { program := "ytnfgokbopndmgaa", sum := "5ea0d75f2c7d00b73b778be67368c3d4eb943c1168d031b439980d5d3eddc46d", func := "shroud/shroudlaw14.TxUnlike", spec := "txUnlike", unfollowed := true, recurses := true, apart := false }
def TxUnlikeSaid : Prop := txUnlikeRow.holds Try.pinned (OpenSpec.ofChange txUnlikeSpec)

/-- ITS FALSE NEIGHBOUR: 'it returns false'. Refute it at one input. -/
def txUnlikeWrong : ChangeSpec := { name := "txUnlike", fn := fun _ => fun
  | [d1, d2] => { results := [.lit (.bool false)], args := [d1, d2] }
  | _ => none }
def TxUnlikeWrongFalsely : Prop := txUnlikeRow.holds Try.pinned (OpenSpec.ofChange txUnlikeWrong)

/- THE SECOND FORM. 'bulk': how many values and letters a reading holds, each counted each time it is reached (what is shared counts as often as it is met; a slice's spare places count too). A statement '..UptoSaid' is the law's where the arguments, and the package variables that the reading takes, are together of bulk at most 1048576: NARROWER than '..Said'. Prove '..Said' where nothing that the law and all that it calls make is longer than what came in: it says more and counts as full. Else prove '..UptoSaid'. A law counts once. -/
mutual
def uptoBulk {H : Type} : DataW H → Nat
  | .lit (.string bytes) => bytes.length + 1
  | .lit _ => 1
  | .nil => 1
  | .ptr d => uptoBulk d + 1
  | .slice elems spare => uptoBulkAll elems + uptoBulkAll spare + 1
  | .agg parts => uptoBulkAll parts + 1
  | .iface _ d => uptoBulk d + 1
  | .map entries => uptoBulkEntries entries + 1
  | .held _ => 1
def uptoBulkAll {H : Type} : List (DataW H) → Nat
  | [] => 0
  | d :: r => uptoBulk d + uptoBulkAll r
def uptoBulkEntries {H : Type} : List (Lit × DataW H) → Nat
  | [] => 0
  | x :: r => uptoBulkEntry x + uptoBulkEntries r
def uptoBulkEntry {H : Type} : Lit × DataW H → Nat
  | (.string bytes, d) => bytes.length + uptoBulk d + 1
  | (_, d) => uptoBulk d + 1
 end
def uptoSmall : (H : Type) → List (DataW H) → Bool := fun _ ds => decide (uptoBulkAll ds ≤ 1048576)
def OpenSpec.upto (s : _root_.Go.ChangeSpec) : _root_.Go.OpenSpec := { _root_.Go.OpenSpec.ofChange s with cond := some uptoSmall }

/-- 'shroudlaw14.TxTells', WHERE WHAT IT READS IS OF BULK AT MOST 1048576: true; the input reads as it did. -/
def txTellsUptoRow : OpenClaim := { program := "ytnfgokbopndmgaa", sum := "5ea0d75f2c7d00b73b778be67368c3d4eb943c1168d031b439980d5d3eddc46d", func := "shroud/shroudlaw14.TxTells", spec := "txTells", unfollowed := true, recurses := true, apart := false, narrowed := true }
def TxTellsUptoSaid : Prop := txTellsUptoRow.holds Try.pinned (OpenSpec.upto txTellsSpec)

/-- 'shroudlaw14.TxBack', WHERE WHAT IT READS IS OF BULK AT MOST 1048576: true; the input reads as it did. -/
def txBackUptoRow : OpenClaim := { program := "ytnfgokbopndmgaa", sum := "5ea0d75f2c7d00b73b778be67368c3d4eb943c1168d031b439980d5d3eddc46d", func := "shroud/shroudlaw14.TxBack", spec := "txBack", unfollowed := true, recurses := true, apart := false, narrowed := true }
def TxBackUptoSaid : Prop := txBackUptoRow.holds Try.pinned (OpenSpec.upto txBackSpec)

/-- 'shroudlaw14.TxRuns', WHERE WHAT IT READS IS OF BULK AT MOST 1048576: true; the input reads as it did. -/
def txRunsUptoRow : OpenClaim := { program := "ytnfgokbopndmgaa", sum := "5ea0d75f2c7d00b73b778be67368c3d4eb943c1168d031b439980d5d3eddc46d", func := "shroud/shroudlaw14.TxRuns", spec := "txRuns", unfollowed := true, recurses := true, apart := false, narrowed := true }
def TxRunsUptoSaid : Prop := txRunsUptoRow.holds Try.pinned (OpenSpec.upto txRunsSpec)

/-- 'shroudlaw14.TxOthers', WHERE WHAT IT READS IS OF BULK AT MOST 1048576: true; the input reads as it did. -/
def txOthersUptoRow : OpenClaim := { program := "ytnfgokbopndmgaa", sum := "5ea0d75f2c7d00b73b778be67368c3d4eb943c1168d031b439980d5d3eddc46d", func := "shroud/shroudlaw14.TxOthers", spec := "txOthers", unfollowed := true, recurses := true, apart := false, narrowed := true }
def TxOthersUptoSaid : Prop := txOthersUptoRow.holds Try.pinned (OpenSpec.upto txOthersSpec)

/-- 'shroudlaw14.TxShort', WHERE WHAT IT READS IS OF BULK AT MOST 1048576: true; the input reads as it did. -/
def txShortUptoRow : OpenClaim := { program := "ytnfgokbopndmgaa", sum := "5ea0d75f2c7d00b73b778be67368c3d4eb943c1168d031b439980d5d3eddc46d", func := "shroud/shroudlaw14.TxShort", spec := "txShort", unfollowed := true, recurses := true, apart := false, narrowed := true }
def TxShortUptoSaid : Prop := txShortUptoRow.holds Try.pinned (OpenSpec.upto txShortSpec)

/-- 'shroudlaw14.TxUnlike', WHERE WHAT IT READS IS OF BULK AT MOST 1048576: true; the input reads as it did. -/
def txUnlikeUptoRow : OpenClaim := { program := "ytnfgokbopndmgaa", sum := "5ea0d75f2c7d00b73b778be67368c3d4eb943c1168d031b439980d5d3eddc46d", func := "shroud/shroudlaw14.TxUnlike", spec := "txUnlike", unfollowed := true, recurses := true, apart := false, narrowed := true }
def TxUnlikeUptoSaid : Prop := txUnlikeUptoRow.holds Try.pinned (OpenSpec.upto txUnlikeSpec)

end Rows
end Go.Proofs.Ytnfgokbopndmgaa
