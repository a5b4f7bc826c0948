/-
  DERIVED. GIVEN WITH THE SEED: THE CARDS: each row of YtjifionpblpfoaaDoorRows.lean that lists a variable, with what it lists TIED to the program's text (the seventh form; the later family's looks); each row that meets fmt, with fmt's text TOLD by the authors' own Lean function (tested against real Go, not proved from fmt's source: count such statements apart). THE CARD IS WHAT COUNTS. Prove the row's statement (the work); the ties are given (YtjifionpblpfoaaDoorTie.lean); close each card by the builder's one call (the guide's Derived/Test/ToyasCard.lean, 'card_holds'). Laid BY PROGRAM, IN A SANDBOX (cutbox-door.mjs). By AI agents, Wed Nov 11 2026. No macro, syntax, notation, axiom, sorry.
-/
import Derived.Test.YtjifionpblpfoaaDoorRows
import GoSem.ClaimSeven
namespace Go.Proofs.YtjifionpblpfoaaDoor
namespace Rows

/-- THE TIED CARD OF 'shroudlaw16.EnvelopeTells'. -/
def envelopeTellsCard : Claim7 := { stood := { row := envelopeTellsRow, standIns := [], harness := (true, "5ef45c9b7a5493e26c518dd52d7fb1ef42e50c6713a6fdabb04a45f5e0ebbb5d"), looks := true }, kinds := [], alts := [], laidByText := true, laidKinds := [.data, .data], laidTests := true, laidLooks := .later }
def EnvelopeTellsCardSaid : Prop := Claim7.holds Tryd.pinned (.plain (OpenSpec.ofChange envelopeTellsSpec)) envelopeTellsCard

/-- THE TIED CARD OF 'shroudlaw16.EnvelopeBack'. -/
def envelopeBackCard : Claim7 := { stood := { row := envelopeBackRow, standIns := [], harness := (true, "5ef45c9b7a5493e26c518dd52d7fb1ef42e50c6713a6fdabb04a45f5e0ebbb5d"), looks := true }, kinds := [], alts := [], laidByText := true, laidKinds := [.data, .data], laidTests := true, laidLooks := .later }
def EnvelopeBackCardSaid : Prop := Claim7.holds Tryd.pinned (.plain (OpenSpec.ofChange envelopeBackSpec)) envelopeBackCard

/-- THE TIED CARD OF 'shroudlaw16.EnvelopeBlind'. -/
def envelopeBlindCard : Claim7 := { stood := { row := envelopeBlindRow, standIns := [], harness := (true, "5ef45c9b7a5493e26c518dd52d7fb1ef42e50c6713a6fdabb04a45f5e0ebbb5d"), looks := true }, kinds := [], alts := [], laidByText := true, laidKinds := [.data, .data], laidTests := true, laidLooks := .later }
def EnvelopeBlindCardSaid : Prop := Claim7.holds Tryd.pinned (.plain (OpenSpec.ofChange envelopeBlindSpec)) envelopeBlindCard

/-- THE TIED CARD OF 'shroudlaw16.EnvelopeOwn'. -/
def envelopeOwnCard : Claim7 := { stood := { row := envelopeOwnRow, standIns := [], harness := (true, "5ef45c9b7a5493e26c518dd52d7fb1ef42e50c6713a6fdabb04a45f5e0ebbb5d"), looks := true }, kinds := [], alts := [], laidByText := true, laidKinds := [.data, .data], laidTests := true, laidLooks := .later }
def EnvelopeOwnCardSaid : Prop := Claim7.holds Tryd.pinned (.plain (OpenSpec.ofChange envelopeOwnSpec)) envelopeOwnCard

/-- THE TIED CARD OF 'shroudlaw16.EnvelopeUnlike'. -/
def envelopeUnlikeCard : Claim7 := { stood := { row := envelopeUnlikeRow, standIns := [], harness := (true, "5ef45c9b7a5493e26c518dd52d7fb1ef42e50c6713a6fdabb04a45f5e0ebbb5d"), looks := true }, kinds := [], alts := [], laidByText := true, laidKinds := [.data, .data], laidTests := true, laidLooks := .later }
def EnvelopeUnlikeCardSaid : Prop := Claim7.holds Tryd.pinned (.plain (OpenSpec.ofChange envelopeUnlikeSpec)) envelopeUnlikeCard

/-- THE SECOND FORM's CARD OF 'shroudlaw16.EnvelopeTells'. -/
def envelopeTellsUptoCard : Claim7 := { stood := { row := envelopeTellsUptoRow, standIns := [], harness := (true, "5ef45c9b7a5493e26c518dd52d7fb1ef42e50c6713a6fdabb04a45f5e0ebbb5d"), looks := true }, kinds := [], alts := [], laidByText := true, laidKinds := [.data, .data], laidTests := true, laidLooks := .later }
def EnvelopeTellsUptoCardSaid : Prop := Claim7.holds Tryd.pinned (.plain (OpenSpec.upto envelopeTellsSpec)) envelopeTellsUptoCard

/-- THE SECOND FORM's CARD OF 'shroudlaw16.EnvelopeBack'. -/
def envelopeBackUptoCard : Claim7 := { stood := { row := envelopeBackUptoRow, standIns := [], harness := (true, "5ef45c9b7a5493e26c518dd52d7fb1ef42e50c6713a6fdabb04a45f5e0ebbb5d"), looks := true }, kinds := [], alts := [], laidByText := true, laidKinds := [.data, .data], laidTests := true, laidLooks := .later }
def EnvelopeBackUptoCardSaid : Prop := Claim7.holds Tryd.pinned (.plain (OpenSpec.upto envelopeBackSpec)) envelopeBackUptoCard

/-- THE SECOND FORM's CARD OF 'shroudlaw16.EnvelopeBlind'. -/
def envelopeBlindUptoCard : Claim7 := { stood := { row := envelopeBlindUptoRow, standIns := [], harness := (true, "5ef45c9b7a5493e26c518dd52d7fb1ef42e50c6713a6fdabb04a45f5e0ebbb5d"), looks := true }, kinds := [], alts := [], laidByText := true, laidKinds := [.data, .data], laidTests := true, laidLooks := .later }
def EnvelopeBlindUptoCardSaid : Prop := Claim7.holds Tryd.pinned (.plain (OpenSpec.upto envelopeBlindSpec)) envelopeBlindUptoCard

/-- THE SECOND FORM's CARD OF 'shroudlaw16.EnvelopeOwn'. -/
def envelopeOwnUptoCard : Claim7 := { stood := { row := envelopeOwnUptoRow, standIns := [], harness := (true, "5ef45c9b7a5493e26c518dd52d7fb1ef42e50c6713a6fdabb04a45f5e0ebbb5d"), looks := true }, kinds := [], alts := [], laidByText := true, laidKinds := [.data, .data], laidTests := true, laidLooks := .later }
def EnvelopeOwnUptoCardSaid : Prop := Claim7.holds Tryd.pinned (.plain (OpenSpec.upto envelopeOwnSpec)) envelopeOwnUptoCard

/-- THE SECOND FORM's CARD OF 'shroudlaw16.EnvelopeUnlike'. -/
def envelopeUnlikeUptoCard : Claim7 := { stood := { row := envelopeUnlikeUptoRow, standIns := [], harness := (true, "5ef45c9b7a5493e26c518dd52d7fb1ef42e50c6713a6fdabb04a45f5e0ebbb5d"), looks := true }, kinds := [], alts := [], laidByText := true, laidKinds := [.data, .data], laidTests := true, laidLooks := .later }
def EnvelopeUnlikeUptoCardSaid : Prop := Claim7.holds Tryd.pinned (.plain (OpenSpec.upto envelopeUnlikeSpec)) envelopeUnlikeUptoCard
end Rows
end Go.Proofs.YtjifionpblpfoaaDoor
