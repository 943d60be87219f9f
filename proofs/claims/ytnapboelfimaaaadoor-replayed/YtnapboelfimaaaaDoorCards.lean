/-
  DERIVED. GIVEN WITH THE SEED: THE CARDS: each row of YtnapboelfimaaaaDoorRows.lean that lists a variable, with what it lists TIED to the program's text (the seventh form; the later family's looks); each row that meets fmt, with fmt's text TOLD by the authors' own Lean function (tested against real Go, not proved from fmt's source: count such statements apart). THE CARD IS WHAT COUNTS. Prove the row's statement (the work); the ties are given (YtnapboelfimaaaaDoorTie.lean); close each card by the builder's one call (the guide's Derived/Test/ToyasCard.lean, 'card_holds'). Laid BY PROGRAM, IN A SANDBOX (cutbox-door.mjs). By AI agents, Wed Nov 11 2026. No macro, syntax, notation, axiom, sorry.
-/
import Derived.Test.YtnapboelfimaaaaDoorRows
import GoSem.ClaimSeven
namespace Go.Proofs.YtnapboelfimaaaaDoor
namespace Rows

/-- THE TIED CARD OF 'bywaykeep.Found'. -/
def foundCard : Claim7 := { stood := { row := foundRow, standIns := [], harness := (true, "5a95458a7a9389d3a644ad98aea9d7994277df5f0a83ed91be1575dc2e3f57c7"), looks := true }, kinds := [], alts := [], laidByText := true, laidKinds := [.data, .data], laidTests := true, laidLooks := .later }
def FoundCardSaid : Prop := Claim7.holds Tryd.pinned (.plain (OpenSpec.ofChange foundSpec)) foundCard

/-- THE TIED CARD OF 'bywaykeep.Families'. -/
def familiesCard : Claim7 := { stood := { row := familiesRow, standIns := [], harness := (true, "5a95458a7a9389d3a644ad98aea9d7994277df5f0a83ed91be1575dc2e3f57c7"), looks := true }, kinds := [], alts := [], laidByText := true, laidKinds := [.data, .data], laidTests := true, laidLooks := .later }
def FamiliesCardSaid : Prop := Claim7.holds Tryd.pinned (.plain (OpenSpec.ofChange familiesSpec)) familiesCard

/-- THE TIED CARD OF 'bywaykeep.Batch'. -/
def batchCard : Claim7 := { stood := { row := batchRow, standIns := [], harness := (true, "5a95458a7a9389d3a644ad98aea9d7994277df5f0a83ed91be1575dc2e3f57c7"), looks := true }, kinds := [], alts := [], laidByText := true, laidKinds := [.data, .data], laidTests := true, laidLooks := .later }
def BatchCardSaid : Prop := Claim7.holds Tryd.pinned (.plain (OpenSpec.ofChange batchSpec)) batchCard

/-- THE TIED CARD OF 'bywaykeep.Enough'. -/
def enoughCard : Claim7 := { stood := { row := enoughRow, standIns := [], harness := (true, "5a95458a7a9389d3a644ad98aea9d7994277df5f0a83ed91be1575dc2e3f57c7"), looks := true }, kinds := [], alts := [], laidByText := true, laidKinds := [.data, .data], laidTests := true, laidLooks := .later }
def EnoughCardSaid : Prop := Claim7.holds Tryd.pinned (.plain (OpenSpec.ofChange enoughSpec)) enoughCard

/-- THE TIED CARD OF 'bywaykeep.Packed'. -/
def packedCard : Claim7 := { stood := { row := packedRow, standIns := [], harness := (true, "5a95458a7a9389d3a644ad98aea9d7994277df5f0a83ed91be1575dc2e3f57c7"), looks := true }, kinds := [], alts := [], laidByText := true, laidKinds := [.data, .data], laidTests := true, laidLooks := .later }
def PackedCardSaid : Prop := Claim7.holds Tryd.pinned (.plain (OpenSpec.ofChange packedSpec)) packedCard

/-- THE TIED CARD OF 'bywaykeep.Replayed'. -/
def replayedCard : Claim7 := { stood := { row := replayedRow, standIns := [], harness := (true, "5a95458a7a9389d3a644ad98aea9d7994277df5f0a83ed91be1575dc2e3f57c7"), looks := true }, kinds := [], alts := [], laidByText := true, laidKinds := [.data, .data], laidTests := true, laidLooks := .later }
def ReplayedCardSaid : Prop := Claim7.holds Tryd.pinned (.plain (OpenSpec.ofChange replayedSpec)) replayedCard

/-- THE SECOND FORM's CARD OF 'bywaykeep.Found'. -/
def foundUptoCard : Claim7 := { stood := { row := foundUptoRow, standIns := [], harness := (true, "5a95458a7a9389d3a644ad98aea9d7994277df5f0a83ed91be1575dc2e3f57c7"), looks := true }, kinds := [], alts := [], laidByText := true, laidKinds := [.data, .data], laidTests := true, laidLooks := .later }
def FoundUptoCardSaid : Prop := Claim7.holds Tryd.pinned (.plain (OpenSpec.upto foundSpec)) foundUptoCard

/-- THE SECOND FORM's CARD OF 'bywaykeep.Families'. -/
def familiesUptoCard : Claim7 := { stood := { row := familiesUptoRow, standIns := [], harness := (true, "5a95458a7a9389d3a644ad98aea9d7994277df5f0a83ed91be1575dc2e3f57c7"), looks := true }, kinds := [], alts := [], laidByText := true, laidKinds := [.data, .data], laidTests := true, laidLooks := .later }
def FamiliesUptoCardSaid : Prop := Claim7.holds Tryd.pinned (.plain (OpenSpec.upto familiesSpec)) familiesUptoCard

/-- THE SECOND FORM's CARD OF 'bywaykeep.Batch'. -/
def batchUptoCard : Claim7 := { stood := { row := batchUptoRow, standIns := [], harness := (true, "5a95458a7a9389d3a644ad98aea9d7994277df5f0a83ed91be1575dc2e3f57c7"), looks := true }, kinds := [], alts := [], laidByText := true, laidKinds := [.data, .data], laidTests := true, laidLooks := .later }
def BatchUptoCardSaid : Prop := Claim7.holds Tryd.pinned (.plain (OpenSpec.upto batchSpec)) batchUptoCard

/-- THE SECOND FORM's CARD OF 'bywaykeep.Enough'. -/
def enoughUptoCard : Claim7 := { stood := { row := enoughUptoRow, standIns := [], harness := (true, "5a95458a7a9389d3a644ad98aea9d7994277df5f0a83ed91be1575dc2e3f57c7"), looks := true }, kinds := [], alts := [], laidByText := true, laidKinds := [.data, .data], laidTests := true, laidLooks := .later }
def EnoughUptoCardSaid : Prop := Claim7.holds Tryd.pinned (.plain (OpenSpec.upto enoughSpec)) enoughUptoCard

/-- THE SECOND FORM's CARD OF 'bywaykeep.Packed'. -/
def packedUptoCard : Claim7 := { stood := { row := packedUptoRow, standIns := [], harness := (true, "5a95458a7a9389d3a644ad98aea9d7994277df5f0a83ed91be1575dc2e3f57c7"), looks := true }, kinds := [], alts := [], laidByText := true, laidKinds := [.data, .data], laidTests := true, laidLooks := .later }
def PackedUptoCardSaid : Prop := Claim7.holds Tryd.pinned (.plain (OpenSpec.upto packedSpec)) packedUptoCard

/-- THE SECOND FORM's CARD OF 'bywaykeep.Replayed'. -/
def replayedUptoCard : Claim7 := { stood := { row := replayedUptoRow, standIns := [], harness := (true, "5a95458a7a9389d3a644ad98aea9d7994277df5f0a83ed91be1575dc2e3f57c7"), looks := true }, kinds := [], alts := [], laidByText := true, laidKinds := [.data, .data], laidTests := true, laidLooks := .later }
def ReplayedUptoCardSaid : Prop := Claim7.holds Tryd.pinned (.plain (OpenSpec.upto replayedSpec)) replayedUptoCard
end Rows
end Go.Proofs.YtnapboelfimaaaaDoor
