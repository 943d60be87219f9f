/-
  DERIVED. GIVEN WITH THE SEED: THE CARDS: each row of YtnapboelfimaaaaGreatDoorRows.lean that lists a variable, with what it lists TIED to the program's text (the seventh form; the later family's looks); each row that meets fmt, with fmt's text TOLD by the authors' own Lean function (tested against real Go, not proved from fmt's source: count such statements apart). THE CARD IS WHAT COUNTS. Prove the row's statement (the work); the ties are given (YtnapboelfimaaaaGreatDoorTie.lean); close each card by the builder's one call (the guide's Derived/Test/ToyasCard.lean, 'card_holds'). Laid BY PROGRAM, IN A SANDBOX (cutbox-door.mjs). By AI agents, Wed Nov 11 2026. No macro, syntax, notation, axiom, sorry.
-/
import Derived.Test.YtnapboelfimaaaaGreatDoorRows
import GoSem.ClaimSeven
namespace Go.Proofs.YtnapboelfimaaaaGreatDoor
namespace Rows

/-- THE TIED CARD OF 'bywaylaw.News'. -/
def newsCard : Claim7 := { stood := { row := newsRow, standIns := [], harness := (true, "6f8b11a3a9da776e4b7c452a811e595f05122ed61b9a9a38e5dcff675a725d7c"), looks := true }, kinds := [], alts := [], laidByText := true, laidKinds := [.data, .data], laidTests := true, laidLooks := .later }
def NewsCardSaid : Prop := Claim7.holds Tryz.pinned (.plain (OpenSpec.ofChange newsSpec)) newsCard

/-- THE TIED CARD OF 'bywaylaw.Runs'. -/
def runsCard : Claim7 := { stood := { row := runsRow, standIns := [], harness := (true, "6f8b11a3a9da776e4b7c452a811e595f05122ed61b9a9a38e5dcff675a725d7c"), looks := true }, kinds := [], alts := [], laidByText := true, laidKinds := [.data, .data], laidTests := true, laidLooks := .later }
def RunsCardSaid : Prop := Claim7.holds Tryz.pinned (.plain (OpenSpec.ofChange runsSpec)) runsCard

/-- THE TIED CARD OF 'bywaylaw.Dumps'. -/
def dumpsCard : Claim7 := { stood := { row := dumpsRow, standIns := [], harness := (true, "6f8b11a3a9da776e4b7c452a811e595f05122ed61b9a9a38e5dcff675a725d7c"), looks := true }, kinds := [], alts := [], laidByText := true, laidKinds := [.data, .data], laidTests := true, laidLooks := .later }
def DumpsCardSaid : Prop := Claim7.holds Tryz.pinned (.plain (OpenSpec.ofChange dumpsSpec)) dumpsCard

/-- THE TIED CARD OF 'bywaylaw.All'. -/
def allCard : Claim7 := { stood := { row := allRow, standIns := [], harness := (true, "6f8b11a3a9da776e4b7c452a811e595f05122ed61b9a9a38e5dcff675a725d7c"), looks := true }, kinds := [], alts := [], laidByText := true, laidKinds := [.data, .data], laidTests := true, laidLooks := .later }
def AllCardSaid : Prop := Claim7.holds Tryz.pinned (.plain (OpenSpec.ofChange allSpec)) allCard

/-- THE SECOND FORM's CARD OF 'bywaylaw.News'. -/
def newsUptoCard : Claim7 := { stood := { row := newsUptoRow, standIns := [], harness := (true, "6f8b11a3a9da776e4b7c452a811e595f05122ed61b9a9a38e5dcff675a725d7c"), looks := true }, kinds := [], alts := [], laidByText := true, laidKinds := [.data, .data], laidTests := true, laidLooks := .later }
def NewsUptoCardSaid : Prop := Claim7.holds Tryz.pinned (.plain (OpenSpec.upto newsSpec)) newsUptoCard

/-- THE SECOND FORM's CARD OF 'bywaylaw.Runs'. -/
def runsUptoCard : Claim7 := { stood := { row := runsUptoRow, standIns := [], harness := (true, "6f8b11a3a9da776e4b7c452a811e595f05122ed61b9a9a38e5dcff675a725d7c"), looks := true }, kinds := [], alts := [], laidByText := true, laidKinds := [.data, .data], laidTests := true, laidLooks := .later }
def RunsUptoCardSaid : Prop := Claim7.holds Tryz.pinned (.plain (OpenSpec.upto runsSpec)) runsUptoCard

/-- THE SECOND FORM's CARD OF 'bywaylaw.Dumps'. -/
def dumpsUptoCard : Claim7 := { stood := { row := dumpsUptoRow, standIns := [], harness := (true, "6f8b11a3a9da776e4b7c452a811e595f05122ed61b9a9a38e5dcff675a725d7c"), looks := true }, kinds := [], alts := [], laidByText := true, laidKinds := [.data, .data], laidTests := true, laidLooks := .later }
def DumpsUptoCardSaid : Prop := Claim7.holds Tryz.pinned (.plain (OpenSpec.upto dumpsSpec)) dumpsUptoCard

/-- THE SECOND FORM's CARD OF 'bywaylaw.All'. -/
def allUptoCard : Claim7 := { stood := { row := allUptoRow, standIns := [], harness := (true, "6f8b11a3a9da776e4b7c452a811e595f05122ed61b9a9a38e5dcff675a725d7c"), looks := true }, kinds := [], alts := [], laidByText := true, laidKinds := [.data, .data], laidTests := true, laidLooks := .later }
def AllUptoCardSaid : Prop := Claim7.holds Tryz.pinned (.plain (OpenSpec.upto allSpec)) allUptoCard
end Rows
end Go.Proofs.YtnapboelfimaaaaGreatDoor
