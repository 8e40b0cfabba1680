/-
  DERIVED. GIVEN WITH THE SEED: THE CARDS: each row of YtgifhgnccmnbiabGreatDoorRows.lean that lists a variable, with what it lists TIED to the program's text (the seventh form; the later family's looks); each row that meets fmt, with fmt's text TOLD by the authors' own Lean function (tested against real Go, not proved from fmt's source: count such statements apart). THE CARD IS WHAT COUNTS. Prove the row's statement (the work); the ties are given (YtgifhgnccmnbiabGreatDoorTie.lean); close each card by the builder's one call (the guide's Derived/Test/ToyasCard.lean, 'card_holds'). Laid BY PROGRAM, IN A SANDBOX (cutbox-door.mjs). By AI agents, Wed Nov 11 2026. No macro, syntax, notation, axiom, sorry.
-/
import Derived.Test.YtgifhgnccmnbiabGreatDoorRows
import GoSem.ClaimSeven
namespace Go.Proofs.YtgifhgnccmnbiabGreatDoor
namespace Rows

/-- THE TIED CARD OF 'siftlaw.Greps'. -/
def grepsCard : Claim7 := { stood := { row := grepsRow, standIns := [], harness := (true, "d33d2023c31aac7cf6f6c78efd034af911c618b4200b83f716fdeeaff55d87e9"), looks := false }, kinds := [], alts := [], laidByText := true, laidKinds := [.data, .data, .data], laidTests := true, laidLooks := .later }
def GrepsCardSaid : Prop := Claim7.holds Tryz.pinned (.plain (OpenSpec.ofChange grepsSpec)) grepsCard

/-- THE TIED CARD OF 'siftkeep.Alike'. -/
def alikeCard : Claim7 := { stood := { row := alikeRow, standIns := [], harness := (true, "d33d2023c31aac7cf6f6c78efd034af911c618b4200b83f716fdeeaff55d87e9"), looks := false }, kinds := [], alts := [], laidByText := true, laidKinds := [.data, .data, .data], laidTests := true, laidLooks := .later }
def AlikeCardSaid : Prop := Claim7.holds Tryz.pinned (.plain (OpenSpec.ofChange alikeSpec)) alikeCard

/-- THE TIED CARD OF 'siftkeep.Summed'. -/
def summedCard : Claim7 := { stood := { row := summedRow, standIns := [], harness := (true, "d33d2023c31aac7cf6f6c78efd034af911c618b4200b83f716fdeeaff55d87e9"), looks := false }, kinds := [], alts := [], laidByText := true, laidKinds := [.data, .data, .data], laidTests := true, laidLooks := .later }
def SummedCardSaid : Prop := Claim7.holds Tryz.pinned (.plain (OpenSpec.ofChange summedSpec)) summedCard

/-- THE TIED CARD OF 'siftkeep.Many'. -/
def manyCard : Claim7 := { stood := { row := manyRow, standIns := [], harness := (true, "d33d2023c31aac7cf6f6c78efd034af911c618b4200b83f716fdeeaff55d87e9"), looks := false }, kinds := [], alts := [], laidByText := true, laidKinds := [.data, .data, .data], laidTests := true, laidLooks := .later }
def ManyCardSaid : Prop := Claim7.holds Tryz.pinned (.plain (OpenSpec.ofChange manySpec)) manyCard

/-- THE TIED CARD OF 'siftkeep.Far'. -/
def farCard : Claim7 := { stood := { row := farRow, standIns := [], harness := (true, "d33d2023c31aac7cf6f6c78efd034af911c618b4200b83f716fdeeaff55d87e9"), looks := false }, kinds := [], alts := [], laidByText := true, laidKinds := [.data, .data, .data], laidTests := true, laidLooks := .later }
def FarCardSaid : Prop := Claim7.holds Tryz.pinned (.plain (OpenSpec.ofChange farSpec)) farCard

/-- THE TIED CARD OF 'siftlaw.All'. -/
def allCard : Claim7 := { stood := { row := allRow, standIns := [], harness := (true, "d33d2023c31aac7cf6f6c78efd034af911c618b4200b83f716fdeeaff55d87e9"), looks := false }, kinds := [], alts := [], laidByText := true, laidKinds := [.data, .data, .data], laidTests := true, laidLooks := .later }
def AllCardSaid : Prop := Claim7.holds Tryz.pinned (.plain (OpenSpec.ofChange allSpec)) allCard

/-- THE SECOND FORM's CARD OF 'siftlaw.Greps'. -/
def grepsUptoCard : Claim7 := { stood := { row := grepsUptoRow, standIns := [], harness := (true, "d33d2023c31aac7cf6f6c78efd034af911c618b4200b83f716fdeeaff55d87e9"), looks := false }, kinds := [], alts := [], laidByText := true, laidKinds := [.data, .data, .data], laidTests := true, laidLooks := .later }
def GrepsUptoCardSaid : Prop := Claim7.holds Tryz.pinned (.plain (OpenSpec.upto grepsSpec)) grepsUptoCard

/-- THE SECOND FORM's CARD OF 'siftkeep.Alike'. -/
def alikeUptoCard : Claim7 := { stood := { row := alikeUptoRow, standIns := [], harness := (true, "d33d2023c31aac7cf6f6c78efd034af911c618b4200b83f716fdeeaff55d87e9"), looks := false }, kinds := [], alts := [], laidByText := true, laidKinds := [.data, .data, .data], laidTests := true, laidLooks := .later }
def AlikeUptoCardSaid : Prop := Claim7.holds Tryz.pinned (.plain (OpenSpec.upto alikeSpec)) alikeUptoCard

/-- THE SECOND FORM's CARD OF 'siftkeep.Summed'. -/
def summedUptoCard : Claim7 := { stood := { row := summedUptoRow, standIns := [], harness := (true, "d33d2023c31aac7cf6f6c78efd034af911c618b4200b83f716fdeeaff55d87e9"), looks := false }, kinds := [], alts := [], laidByText := true, laidKinds := [.data, .data, .data], laidTests := true, laidLooks := .later }
def SummedUptoCardSaid : Prop := Claim7.holds Tryz.pinned (.plain (OpenSpec.upto summedSpec)) summedUptoCard

/-- THE SECOND FORM's CARD OF 'siftkeep.Many'. -/
def manyUptoCard : Claim7 := { stood := { row := manyUptoRow, standIns := [], harness := (true, "d33d2023c31aac7cf6f6c78efd034af911c618b4200b83f716fdeeaff55d87e9"), looks := false }, kinds := [], alts := [], laidByText := true, laidKinds := [.data, .data, .data], laidTests := true, laidLooks := .later }
def ManyUptoCardSaid : Prop := Claim7.holds Tryz.pinned (.plain (OpenSpec.upto manySpec)) manyUptoCard

/-- THE SECOND FORM's CARD OF 'siftkeep.Far'. -/
def farUptoCard : Claim7 := { stood := { row := farUptoRow, standIns := [], harness := (true, "d33d2023c31aac7cf6f6c78efd034af911c618b4200b83f716fdeeaff55d87e9"), looks := false }, kinds := [], alts := [], laidByText := true, laidKinds := [.data, .data, .data], laidTests := true, laidLooks := .later }
def FarUptoCardSaid : Prop := Claim7.holds Tryz.pinned (.plain (OpenSpec.upto farSpec)) farUptoCard

/-- THE SECOND FORM's CARD OF 'siftlaw.All'. -/
def allUptoCard : Claim7 := { stood := { row := allUptoRow, standIns := [], harness := (true, "d33d2023c31aac7cf6f6c78efd034af911c618b4200b83f716fdeeaff55d87e9"), looks := false }, kinds := [], alts := [], laidByText := true, laidKinds := [.data, .data, .data], laidTests := true, laidLooks := .later }
def AllUptoCardSaid : Prop := Claim7.holds Tryz.pinned (.plain (OpenSpec.upto allSpec)) allUptoCard
end Rows
end Go.Proofs.YtgifhgnccmnbiabGreatDoor
