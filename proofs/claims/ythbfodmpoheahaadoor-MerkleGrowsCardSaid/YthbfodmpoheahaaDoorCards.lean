/-
  DERIVED. GIVEN WITH THE SEED: THE CARDS: each row of YthbfodmpoheahaaDoorRows.lean that lists a variable, with what it lists TIED to the program's text (the seventh form; the later family's looks); each row that meets fmt, with fmt's text TOLD by the authors' own Lean function (tested against real Go, not proved from fmt's source: count such statements apart). THE CARD IS WHAT COUNTS. Prove the row's statement (the work); the ties are given (YthbfodmpoheahaaDoorTie.lean); close each card by the builder's one call (the guide's Derived/Test/ToyasCard.lean, 'card_holds'). Laid BY PROGRAM, IN A SANDBOX (cutbox-door.mjs). By AI agents, Wed Nov 11 2026. No macro, syntax, notation, axiom, sorry.
-/
import Derived.Test.YthbfodmpoheahaaDoorRows
import GoSem.ClaimSeven
namespace Go.Proofs.YthbfodmpoheahaaDoor
namespace Rows

/-- THE TIED CARD OF 'shroudlaw11.MerkleTells'. -/
def merkleTellsCard : Claim7 := { stood := { row := merkleTellsRow, standIns := [], harness := (true, "b1cf742154a6b7edd71fff7200db7c66bb8f0a5442d762dfc5f08511ac97f748"), looks := false }, kinds := [], alts := [], laidByText := true, laidKinds := [.data, .data], laidTests := true, laidLooks := .later }
def MerkleTellsCardSaid : Prop := Claim7.holds Tryd.pinned (.plain (OpenSpec.ofChange merkleTellsSpec)) merkleTellsCard

/-- THE TIED CARD OF 'shroudlaw11.MerkleJudges'. -/
def merkleJudgesCard : Claim7 := { stood := { row := merkleJudgesRow, standIns := [], harness := (true, "b1cf742154a6b7edd71fff7200db7c66bb8f0a5442d762dfc5f08511ac97f748"), looks := false }, kinds := [], alts := [], laidByText := true, laidKinds := [.data, .data], laidTests := true, laidLooks := .later }
def MerkleJudgesCardSaid : Prop := Claim7.holds Tryd.pinned (.plain (OpenSpec.ofChange merkleJudgesSpec)) merkleJudgesCard

/-- THE TIED CARD OF 'shroudlaw11.MerkleShows'. -/
def merkleShowsCard : Claim7 := { stood := { row := merkleShowsRow, standIns := [], harness := (true, "b1cf742154a6b7edd71fff7200db7c66bb8f0a5442d762dfc5f08511ac97f748"), looks := false }, kinds := [], alts := [], laidByText := true, laidKinds := [.data, .data], laidTests := true, laidLooks := .later }
def MerkleShowsCardSaid : Prop := Claim7.holds Tryd.pinned (.plain (OpenSpec.ofChange merkleShowsSpec)) merkleShowsCard

/-- THE TIED CARD OF 'shroudlaw11.MerkleBinds'. -/
def merkleBindsCard : Claim7 := { stood := { row := merkleBindsRow, standIns := [], harness := (true, "b1cf742154a6b7edd71fff7200db7c66bb8f0a5442d762dfc5f08511ac97f748"), looks := false }, kinds := [], alts := [], laidByText := true, laidKinds := [.data, .data], laidTests := true, laidLooks := .later }
def MerkleBindsCardSaid : Prop := Claim7.holds Tryd.pinned (.plain (OpenSpec.ofChange merkleBindsSpec)) merkleBindsCard

/-- THE TIED CARD OF 'shroudlaw11.MerkleGrows'. -/
def merkleGrowsCard : Claim7 := { stood := { row := merkleGrowsRow, standIns := [], harness := (true, "b1cf742154a6b7edd71fff7200db7c66bb8f0a5442d762dfc5f08511ac97f748"), looks := false }, kinds := [], alts := [], laidByText := true, laidKinds := [.data, .data, .data, .data], laidTests := true, laidLooks := .later }
def MerkleGrowsCardSaid : Prop := Claim7.holds Tryd.pinned (.plain (OpenSpec.ofChange merkleGrowsSpec)) merkleGrowsCard

/-- THE TIED CARD OF 'shroudlaw11.MerkleChanges'. -/
def merkleChangesCard : Claim7 := { stood := { row := merkleChangesRow, standIns := [], harness := (true, "b1cf742154a6b7edd71fff7200db7c66bb8f0a5442d762dfc5f08511ac97f748"), looks := false }, kinds := [], alts := [], laidByText := true, laidKinds := [.data, .data], laidTests := true, laidLooks := .later }
def MerkleChangesCardSaid : Prop := Claim7.holds Tryd.pinned (.plain (OpenSpec.ofChange merkleChangesSpec)) merkleChangesCard

/-- THE SECOND FORM's CARD OF 'shroudlaw11.MerkleTells'. -/
def merkleTellsUptoCard : Claim7 := { stood := { row := merkleTellsUptoRow, standIns := [], harness := (true, "b1cf742154a6b7edd71fff7200db7c66bb8f0a5442d762dfc5f08511ac97f748"), looks := false }, kinds := [], alts := [], laidByText := true, laidKinds := [.data, .data], laidTests := true, laidLooks := .later }
def MerkleTellsUptoCardSaid : Prop := Claim7.holds Tryd.pinned (.plain (OpenSpec.upto merkleTellsSpec)) merkleTellsUptoCard

/-- THE SECOND FORM's CARD OF 'shroudlaw11.MerkleJudges'. -/
def merkleJudgesUptoCard : Claim7 := { stood := { row := merkleJudgesUptoRow, standIns := [], harness := (true, "b1cf742154a6b7edd71fff7200db7c66bb8f0a5442d762dfc5f08511ac97f748"), looks := false }, kinds := [], alts := [], laidByText := true, laidKinds := [.data, .data], laidTests := true, laidLooks := .later }
def MerkleJudgesUptoCardSaid : Prop := Claim7.holds Tryd.pinned (.plain (OpenSpec.upto merkleJudgesSpec)) merkleJudgesUptoCard

/-- THE SECOND FORM's CARD OF 'shroudlaw11.MerkleShows'. -/
def merkleShowsUptoCard : Claim7 := { stood := { row := merkleShowsUptoRow, standIns := [], harness := (true, "b1cf742154a6b7edd71fff7200db7c66bb8f0a5442d762dfc5f08511ac97f748"), looks := false }, kinds := [], alts := [], laidByText := true, laidKinds := [.data, .data], laidTests := true, laidLooks := .later }
def MerkleShowsUptoCardSaid : Prop := Claim7.holds Tryd.pinned (.plain (OpenSpec.upto merkleShowsSpec)) merkleShowsUptoCard

/-- THE SECOND FORM's CARD OF 'shroudlaw11.MerkleBinds'. -/
def merkleBindsUptoCard : Claim7 := { stood := { row := merkleBindsUptoRow, standIns := [], harness := (true, "b1cf742154a6b7edd71fff7200db7c66bb8f0a5442d762dfc5f08511ac97f748"), looks := false }, kinds := [], alts := [], laidByText := true, laidKinds := [.data, .data], laidTests := true, laidLooks := .later }
def MerkleBindsUptoCardSaid : Prop := Claim7.holds Tryd.pinned (.plain (OpenSpec.upto merkleBindsSpec)) merkleBindsUptoCard

/-- THE SECOND FORM's CARD OF 'shroudlaw11.MerkleGrows'. -/
def merkleGrowsUptoCard : Claim7 := { stood := { row := merkleGrowsUptoRow, standIns := [], harness := (true, "b1cf742154a6b7edd71fff7200db7c66bb8f0a5442d762dfc5f08511ac97f748"), looks := false }, kinds := [], alts := [], laidByText := true, laidKinds := [.data, .data, .data, .data], laidTests := true, laidLooks := .later }
def MerkleGrowsUptoCardSaid : Prop := Claim7.holds Tryd.pinned (.plain (OpenSpec.upto merkleGrowsSpec)) merkleGrowsUptoCard

/-- THE SECOND FORM's CARD OF 'shroudlaw11.MerkleChanges'. -/
def merkleChangesUptoCard : Claim7 := { stood := { row := merkleChangesUptoRow, standIns := [], harness := (true, "b1cf742154a6b7edd71fff7200db7c66bb8f0a5442d762dfc5f08511ac97f748"), looks := false }, kinds := [], alts := [], laidByText := true, laidKinds := [.data, .data], laidTests := true, laidLooks := .later }
def MerkleChangesUptoCardSaid : Prop := Claim7.holds Tryd.pinned (.plain (OpenSpec.upto merkleChangesSpec)) merkleChangesUptoCard
end Rows
end Go.Proofs.YthbfodmpoheahaaDoor
