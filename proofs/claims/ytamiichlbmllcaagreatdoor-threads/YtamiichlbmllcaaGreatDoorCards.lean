/-
  DERIVED. GIVEN WITH THE SEED: THE CARDS: each row of YtamiichlbmllcaaGreatDoorRows.lean that lists a variable, with what it lists TIED to the program's text (the seventh form; the later family's looks); each row that meets fmt, with fmt's text TOLD by the authors' own Lean function (tested against real Go, not proved from fmt's source: count such statements apart). THE CARD IS WHAT COUNTS. Prove the row's statement (the work); the ties are given (YtamiichlbmllcaaGreatDoorTie.lean); close each card by the builder's one call (the guide's Derived/Test/ToyasCard.lean, 'card_holds'). Laid BY PROGRAM, IN A SANDBOX (cutbox-door.mjs). By AI agents, Wed Nov 11 2026. No macro, syntax, notation, axiom, sorry.
-/
import Derived.Test.YtamiichlbmllcaaGreatDoorRows
import GoSem.ClaimSeven
namespace Go.Proofs.YtamiichlbmllcaaGreatDoor
namespace Rows

/-- THE TIED CARD OF 'suretylaw.Codes'. -/
def codesCard : Claim7 := { stood := { row := codesRow, standIns := [], harness := (true, "37de30be9fae5fc5fa0f78d53df48437729556ad54b75db2f1ee192c2d6f57e9"), looks := true }, kinds := [], alts := [], laidByText := true, laidKinds := [.called], laidTests := true, laidLooks := .later }
def CodesCardSaid : Prop := Claim7.holds Tryz.pinned (.plain (OpenSpec.ofChange codesSpec)) codesCard

/-- THE TIED CARD OF 'suretylaw.Runs'. -/
def runsCard : Claim7 := { stood := { row := runsRow, standIns := [], harness := (true, "37de30be9fae5fc5fa0f78d53df48437729556ad54b75db2f1ee192c2d6f57e9"), looks := true }, kinds := [], alts := [], laidByText := true, laidKinds := [.called], laidTests := true, laidLooks := .later }
def RunsCardSaid : Prop := Claim7.holds Tryz.pinned (.plain (OpenSpec.ofChange runsSpec)) runsCard

/-- THE TIED CARD OF 'suretylaw.Proves'. -/
def provesCard : Claim7 := { stood := { row := provesRow, standIns := [], harness := (true, "37de30be9fae5fc5fa0f78d53df48437729556ad54b75db2f1ee192c2d6f57e9"), looks := true }, kinds := [], alts := [], laidByText := true, laidKinds := [.called], laidTests := true, laidLooks := .later }
def ProvesCardSaid : Prop := Claim7.holds Tryz.pinned (.plain (OpenSpec.ofChange provesSpec)) provesCard

/-- THE TIED CARD OF 'suretylaw.Threads'. -/
def threadsCard : Claim7 := { stood := { row := threadsRow, standIns := [], harness := (true, "37de30be9fae5fc5fa0f78d53df48437729556ad54b75db2f1ee192c2d6f57e9"), looks := true }, kinds := [], alts := [], laidByText := true, laidKinds := [.called], laidTests := true, laidLooks := .later }
def ThreadsCardSaid : Prop := Claim7.holds Tryz.pinned (.plain (OpenSpec.ofChange threadsSpec)) threadsCard

/-- THE TIED CARD OF 'suretykeep.Safe'. -/
def safeCard : Claim7 := { stood := { row := safeRow, standIns := [], harness := (true, "37de30be9fae5fc5fa0f78d53df48437729556ad54b75db2f1ee192c2d6f57e9"), looks := true }, kinds := [], alts := [], laidByText := true, laidKinds := [.called], laidTests := true, laidLooks := .later }
def SafeCardSaid : Prop := Claim7.holds Tryz.pinned (.plain (OpenSpec.ofChange safeSpec)) safeCard

/-- THE TIED CARD OF 'suretykeep.Within'. -/
def withinCard : Claim7 := { stood := { row := withinRow, standIns := [], harness := (true, "37de30be9fae5fc5fa0f78d53df48437729556ad54b75db2f1ee192c2d6f57e9"), looks := true }, kinds := [], alts := [], laidByText := true, laidKinds := [.called], laidTests := true, laidLooks := .later }
def WithinCardSaid : Prop := Claim7.holds Tryz.pinned (.plain (OpenSpec.ofChange withinSpec)) withinCard

/-- THE TIED CARD OF 'suretykeep.Accepted'. -/
def acceptedCard : Claim7 := { stood := { row := acceptedRow, standIns := [], harness := (true, "37de30be9fae5fc5fa0f78d53df48437729556ad54b75db2f1ee192c2d6f57e9"), looks := true }, kinds := [], alts := [], laidByText := true, laidKinds := [.called], laidTests := true, laidLooks := .later }
def AcceptedCardSaid : Prop := Claim7.holds Tryz.pinned (.plain (OpenSpec.ofChange acceptedSpec)) acceptedCard

/-- THE TIED CARD OF 'suretykeep.Alike'. -/
def alikeCard : Claim7 := { stood := { row := alikeRow, standIns := [], harness := (true, "37de30be9fae5fc5fa0f78d53df48437729556ad54b75db2f1ee192c2d6f57e9"), looks := true }, kinds := [], alts := [], laidByText := true, laidKinds := [.called], laidTests := true, laidLooks := .later }
def AlikeCardSaid : Prop := Claim7.holds Tryz.pinned (.plain (OpenSpec.ofChange alikeSpec)) alikeCard

/-- THE TIED CARD OF 'suretykeep.Narrower'. -/
def narrowerCard : Claim7 := { stood := { row := narrowerRow, standIns := [], harness := (true, "37de30be9fae5fc5fa0f78d53df48437729556ad54b75db2f1ee192c2d6f57e9"), looks := true }, kinds := [], alts := [], laidByText := true, laidKinds := [.called], laidTests := true, laidLooks := .later }
def NarrowerCardSaid : Prop := Claim7.holds Tryz.pinned (.plain (OpenSpec.ofChange narrowerSpec)) narrowerCard

/-- THE TIED CARD OF 'suretykeep.Found'. -/
def foundCard : Claim7 := { stood := { row := foundRow, standIns := [], harness := (true, "37de30be9fae5fc5fa0f78d53df48437729556ad54b75db2f1ee192c2d6f57e9"), looks := true }, kinds := [], alts := [], laidByText := true, laidKinds := [.called], laidTests := true, laidLooks := .later }
def FoundCardSaid : Prop := Claim7.holds Tryz.pinned (.plain (OpenSpec.ofChange foundSpec)) foundCard

/-- THE SECOND FORM's CARD OF 'suretylaw.Codes'. -/
def codesUptoCard : Claim7 := { stood := { row := codesUptoRow, standIns := [], harness := (true, "37de30be9fae5fc5fa0f78d53df48437729556ad54b75db2f1ee192c2d6f57e9"), looks := true }, kinds := [], alts := [], laidByText := true, laidKinds := [.called], laidTests := true, laidLooks := .later }
def CodesUptoCardSaid : Prop := Claim7.holds Tryz.pinned (.plain (OpenSpec.upto codesSpec)) codesUptoCard

/-- THE SECOND FORM's CARD OF 'suretylaw.Runs'. -/
def runsUptoCard : Claim7 := { stood := { row := runsUptoRow, standIns := [], harness := (true, "37de30be9fae5fc5fa0f78d53df48437729556ad54b75db2f1ee192c2d6f57e9"), looks := true }, kinds := [], alts := [], laidByText := true, laidKinds := [.called], laidTests := true, laidLooks := .later }
def RunsUptoCardSaid : Prop := Claim7.holds Tryz.pinned (.plain (OpenSpec.upto runsSpec)) runsUptoCard

/-- THE SECOND FORM's CARD OF 'suretylaw.Proves'. -/
def provesUptoCard : Claim7 := { stood := { row := provesUptoRow, standIns := [], harness := (true, "37de30be9fae5fc5fa0f78d53df48437729556ad54b75db2f1ee192c2d6f57e9"), looks := true }, kinds := [], alts := [], laidByText := true, laidKinds := [.called], laidTests := true, laidLooks := .later }
def ProvesUptoCardSaid : Prop := Claim7.holds Tryz.pinned (.plain (OpenSpec.upto provesSpec)) provesUptoCard

/-- THE SECOND FORM's CARD OF 'suretylaw.Threads'. -/
def threadsUptoCard : Claim7 := { stood := { row := threadsUptoRow, standIns := [], harness := (true, "37de30be9fae5fc5fa0f78d53df48437729556ad54b75db2f1ee192c2d6f57e9"), looks := true }, kinds := [], alts := [], laidByText := true, laidKinds := [.called], laidTests := true, laidLooks := .later }
def ThreadsUptoCardSaid : Prop := Claim7.holds Tryz.pinned (.plain (OpenSpec.upto threadsSpec)) threadsUptoCard

/-- THE SECOND FORM's CARD OF 'suretykeep.Safe'. -/
def safeUptoCard : Claim7 := { stood := { row := safeUptoRow, standIns := [], harness := (true, "37de30be9fae5fc5fa0f78d53df48437729556ad54b75db2f1ee192c2d6f57e9"), looks := true }, kinds := [], alts := [], laidByText := true, laidKinds := [.called], laidTests := true, laidLooks := .later }
def SafeUptoCardSaid : Prop := Claim7.holds Tryz.pinned (.plain (OpenSpec.upto safeSpec)) safeUptoCard

/-- THE SECOND FORM's CARD OF 'suretykeep.Within'. -/
def withinUptoCard : Claim7 := { stood := { row := withinUptoRow, standIns := [], harness := (true, "37de30be9fae5fc5fa0f78d53df48437729556ad54b75db2f1ee192c2d6f57e9"), looks := true }, kinds := [], alts := [], laidByText := true, laidKinds := [.called], laidTests := true, laidLooks := .later }
def WithinUptoCardSaid : Prop := Claim7.holds Tryz.pinned (.plain (OpenSpec.upto withinSpec)) withinUptoCard

/-- THE SECOND FORM's CARD OF 'suretykeep.Accepted'. -/
def acceptedUptoCard : Claim7 := { stood := { row := acceptedUptoRow, standIns := [], harness := (true, "37de30be9fae5fc5fa0f78d53df48437729556ad54b75db2f1ee192c2d6f57e9"), looks := true }, kinds := [], alts := [], laidByText := true, laidKinds := [.called], laidTests := true, laidLooks := .later }
def AcceptedUptoCardSaid : Prop := Claim7.holds Tryz.pinned (.plain (OpenSpec.upto acceptedSpec)) acceptedUptoCard

/-- THE SECOND FORM's CARD OF 'suretykeep.Alike'. -/
def alikeUptoCard : Claim7 := { stood := { row := alikeUptoRow, standIns := [], harness := (true, "37de30be9fae5fc5fa0f78d53df48437729556ad54b75db2f1ee192c2d6f57e9"), looks := true }, kinds := [], alts := [], laidByText := true, laidKinds := [.called], laidTests := true, laidLooks := .later }
def AlikeUptoCardSaid : Prop := Claim7.holds Tryz.pinned (.plain (OpenSpec.upto alikeSpec)) alikeUptoCard

/-- THE SECOND FORM's CARD OF 'suretykeep.Narrower'. -/
def narrowerUptoCard : Claim7 := { stood := { row := narrowerUptoRow, standIns := [], harness := (true, "37de30be9fae5fc5fa0f78d53df48437729556ad54b75db2f1ee192c2d6f57e9"), looks := true }, kinds := [], alts := [], laidByText := true, laidKinds := [.called], laidTests := true, laidLooks := .later }
def NarrowerUptoCardSaid : Prop := Claim7.holds Tryz.pinned (.plain (OpenSpec.upto narrowerSpec)) narrowerUptoCard

/-- THE SECOND FORM's CARD OF 'suretykeep.Found'. -/
def foundUptoCard : Claim7 := { stood := { row := foundUptoRow, standIns := [], harness := (true, "37de30be9fae5fc5fa0f78d53df48437729556ad54b75db2f1ee192c2d6f57e9"), looks := true }, kinds := [], alts := [], laidByText := true, laidKinds := [.called], laidTests := true, laidLooks := .later }
def FoundUptoCardSaid : Prop := Claim7.holds Tryz.pinned (.plain (OpenSpec.upto foundSpec)) foundUptoCard
end Rows
end Go.Proofs.YtamiichlbmllcaaGreatDoor
