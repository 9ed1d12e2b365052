/-
  DERIVED. GIVEN WITH THE SEED: THE CARDS: each row of YtkcnageeamappaaGreatDoorRows.lean that lists a variable, with what it lists TIED to the program's text (the seventh form; the later family's looks); each row that meets fmt, with fmt's text TOLD by the authors' own Lean function (tested against real Go, not proved from fmt's source: count such statements apart). THE CARD IS WHAT COUNTS. Prove the row's statement (the work); the ties are given (YtkcnageeamappaaGreatDoorTie.lean); close each card by the builder's one call (the guide's Derived/Test/ToyasCard.lean, 'card_holds'). Laid BY PROGRAM, IN A SANDBOX (cutbox-door.mjs). By AI agents, Wed Nov 11 2026. No macro, syntax, notation, axiom, sorry.
-/
import Derived.Test.YtkcnageeamappaaGreatDoorRows
import GoSem.ClaimSeven
namespace Go.Proofs.YtkcnageeamappaaGreatDoor
namespace Rows

/-- THE TIED CARD OF 'moorlaw.Hosts'. -/
def hostsCard : Claim7 := { stood := { row := hostsRow, standIns := [], harness := (true, "09db863217c94cf01ba2243e1bf59419ff785cc8f5deda7e970ef0faef93e803"), looks := true }, kinds := [], alts := [], laidByText := true, laidKinds := [.data, .data, .data, .data, .handle, .sentinel, .sentinel, .data, .wider, .sentinel, .sentinel, .sentinel, .sentinel, .sentinel, .sentinel, .sentinel, .sentinel, .sentinel, .sentinel, .sentinel, .sentinel, .sentinel, .sentinel, .sentinel, .pinned, .pinned], laidTests := true, laidLooks := .later }
def HostsCardSaid : Prop := Claim7.holds Tryz.pinned (.plain (OpenSpec.ofChange hostsSpec)) hostsCard

/-- THE TIED CARD OF 'moorkeep.Fours'. -/
def foursCard : Claim7 := { stood := { row := foursRow, standIns := [], harness := (true, "09db863217c94cf01ba2243e1bf59419ff785cc8f5deda7e970ef0faef93e803"), looks := true }, kinds := [], alts := [], laidByText := true, laidKinds := [.data, .data, .data, .data, .handle, .data, .sentinel, .sentinel, .sentinel, .sentinel, .sentinel, .sentinel, .pinned, .pinned], laidTests := true, laidLooks := .later }
def FoursCardSaid : Prop := Claim7.holds Tryz.pinned (.plain (OpenSpec.ofChange foursSpec)) foursCard

/-- THE TIED CARD OF 'moorkeep.Sixes'. -/
def sixesCard : Claim7 := { stood := { row := sixesRow, standIns := [], harness := (true, "09db863217c94cf01ba2243e1bf59419ff785cc8f5deda7e970ef0faef93e803"), looks := true }, kinds := [], alts := [], laidByText := true, laidKinds := [.data, .data, .data, .data, .handle, .data, .sentinel, .sentinel, .sentinel, .sentinel, .sentinel, .sentinel, .pinned, .pinned], laidTests := true, laidLooks := .later }
def SixesCardSaid : Prop := Claim7.holds Tryz.pinned (.plain (OpenSpec.ofChange sixesSpec)) sixesCard

/-- THE TIED CARD OF 'moorlaw.Reads'. -/
def readsCard : Claim7 := { stood := { row := readsRow, standIns := [], harness := (true, "09db863217c94cf01ba2243e1bf59419ff785cc8f5deda7e970ef0faef93e803"), looks := true }, kinds := [], alts := [], laidByText := true, laidKinds := [.data, .data, .data, .data, .handle, .sentinel, .sentinel, .data, .wider, .sentinel, .sentinel, .sentinel, .sentinel, .sentinel, .sentinel, .sentinel, .sentinel, .sentinel, .sentinel, .sentinel, .sentinel, .sentinel, .sentinel, .sentinel, .pinned, .pinned], laidTests := true, laidLooks := .later }
def ReadsCardSaid : Prop := Claim7.holds Tryz.pinned (.plain (OpenSpec.ofChange readsSpec)) readsCard

/-- THE TIED CARD OF 'moorkeep.Again'. -/
def againCard : Claim7 := { stood := { row := againRow, standIns := [], harness := (true, "09db863217c94cf01ba2243e1bf59419ff785cc8f5deda7e970ef0faef93e803"), looks := true }, kinds := [], alts := [], laidByText := true, laidKinds := [.data, .data, .data, .data, .handle, .sentinel, .sentinel, .data, .sentinel, .sentinel, .sentinel, .sentinel, .sentinel, .sentinel, .sentinel, .sentinel, .sentinel, .pinned, .pinned], laidTests := true, laidLooks := .later }
def AgainCardSaid : Prop := Claim7.holds Tryz.pinned (.plain (OpenSpec.ofChange againSpec)) againCard

/-- THE TIED CARD OF 'moorkeep.Beside'. -/
def besideCard : Claim7 := { stood := { row := besideRow, standIns := [], harness := (true, "09db863217c94cf01ba2243e1bf59419ff785cc8f5deda7e970ef0faef93e803"), looks := true }, kinds := [], alts := [], laidByText := true, laidKinds := [.data, .data, .data, .data, .handle, .sentinel, .sentinel, .data, .sentinel, .sentinel, .sentinel, .sentinel, .sentinel, .sentinel, .sentinel, .sentinel, .sentinel, .data, .pinned, .pinned], laidTests := true, laidLooks := .later }
def BesideCardSaid : Prop := Claim7.holds Tryz.pinned (.plain (OpenSpec.ofChange besideSpec)) besideCard

/-- THE TIED CARD OF 'moorkeep.Written'. -/
def writtenCard : Claim7 := { stood := { row := writtenRow, standIns := [], harness := (true, "09db863217c94cf01ba2243e1bf59419ff785cc8f5deda7e970ef0faef93e803"), looks := true }, kinds := [], alts := [], laidByText := true, laidKinds := [.data, .data, .data, .data, .handle, .sentinel, .sentinel, .data, .sentinel, .sentinel, .sentinel, .sentinel, .sentinel, .sentinel, .sentinel, .sentinel, .sentinel, .data, .data, .pinned, .pinned], laidTests := true, laidLooks := .later }
def WrittenCardSaid : Prop := Claim7.holds Tryz.pinned (.plain (OpenSpec.ofChange writtenSpec)) writtenCard

/-- THE TIED CARD OF 'moorkeep.Drives'. -/
def drivesCard : Claim7 := { stood := { row := drivesRow, standIns := [], harness := (true, "09db863217c94cf01ba2243e1bf59419ff785cc8f5deda7e970ef0faef93e803"), looks := true }, kinds := [], alts := [], laidByText := true, laidKinds := [.data, .data, .data, .data, .handle, .sentinel, .sentinel, .data, .sentinel, .sentinel, .sentinel, .sentinel, .sentinel, .sentinel, .sentinel, .sentinel, .sentinel, .pinned, .pinned], laidTests := true, laidLooks := .later }
def DrivesCardSaid : Prop := Claim7.holds Tryz.pinned (.plain (OpenSpec.ofChange drivesSpec)) drivesCard

/-- THE TIED CARD OF 'moorlaw.All'. -/
def allCard : Claim7 := { stood := { row := allRow, standIns := [], harness := (true, "09db863217c94cf01ba2243e1bf59419ff785cc8f5deda7e970ef0faef93e803"), looks := true }, kinds := [], alts := [], laidByText := true, laidKinds := [.data, .data, .data, .data, .handle, .sentinel, .sentinel, .data, .wider, .sentinel, .sentinel, .sentinel, .sentinel, .sentinel, .sentinel, .sentinel, .sentinel, .sentinel, .sentinel, .sentinel, .sentinel, .sentinel, .sentinel, .sentinel, .pinned, .pinned], laidTests := true, laidLooks := .later }
def AllCardSaid : Prop := Claim7.holds Tryz.pinned (.plain (OpenSpec.ofChange allSpec)) allCard

/-- THE TIED CARD OF 'moorkeep.Given'. -/
def givenCard : Claim7 := { stood := { row := givenRow, standIns := [], harness := (true, "09db863217c94cf01ba2243e1bf59419ff785cc8f5deda7e970ef0faef93e803"), looks := true }, kinds := [], alts := [], laidByText := true, laidKinds := [.data, .data, .data, .data, .handle, .sentinel, .sentinel, .data, .sentinel, .sentinel, .sentinel, .sentinel, .sentinel, .sentinel, .sentinel, .sentinel, .sentinel, .sentinel, .sentinel, .sentinel, .sentinel, .sentinel, .sentinel, .pinned, .pinned], laidTests := true, laidLooks := .later }
def GivenCardSaid : Prop := Claim7.holds Tryz.pinned (.plain (OpenSpec.ofChange givenSpec)) givenCard

/-- THE SECOND FORM's CARD OF 'moorlaw.Hosts'. -/
def hostsUptoCard : Claim7 := { stood := { row := hostsUptoRow, standIns := [], harness := (true, "09db863217c94cf01ba2243e1bf59419ff785cc8f5deda7e970ef0faef93e803"), looks := true }, kinds := [], alts := [], laidByText := true, laidKinds := [.data, .data, .data, .data, .handle, .sentinel, .sentinel, .data, .wider, .sentinel, .sentinel, .sentinel, .sentinel, .sentinel, .sentinel, .sentinel, .sentinel, .sentinel, .sentinel, .sentinel, .sentinel, .sentinel, .sentinel, .sentinel, .pinned, .pinned], laidTests := true, laidLooks := .later }
def HostsUptoCardSaid : Prop := Claim7.holds Tryz.pinned (.plain (OpenSpec.upto hostsSpec)) hostsUptoCard

/-- THE SECOND FORM's CARD OF 'moorkeep.Fours'. -/
def foursUptoCard : Claim7 := { stood := { row := foursUptoRow, standIns := [], harness := (true, "09db863217c94cf01ba2243e1bf59419ff785cc8f5deda7e970ef0faef93e803"), looks := true }, kinds := [], alts := [], laidByText := true, laidKinds := [.data, .data, .data, .data, .handle, .data, .sentinel, .sentinel, .sentinel, .sentinel, .sentinel, .sentinel, .pinned, .pinned], laidTests := true, laidLooks := .later }
def FoursUptoCardSaid : Prop := Claim7.holds Tryz.pinned (.plain (OpenSpec.upto foursSpec)) foursUptoCard

/-- THE SECOND FORM's CARD OF 'moorkeep.Sixes'. -/
def sixesUptoCard : Claim7 := { stood := { row := sixesUptoRow, standIns := [], harness := (true, "09db863217c94cf01ba2243e1bf59419ff785cc8f5deda7e970ef0faef93e803"), looks := true }, kinds := [], alts := [], laidByText := true, laidKinds := [.data, .data, .data, .data, .handle, .data, .sentinel, .sentinel, .sentinel, .sentinel, .sentinel, .sentinel, .pinned, .pinned], laidTests := true, laidLooks := .later }
def SixesUptoCardSaid : Prop := Claim7.holds Tryz.pinned (.plain (OpenSpec.upto sixesSpec)) sixesUptoCard

/-- THE SECOND FORM's CARD OF 'moorlaw.Reads'. -/
def readsUptoCard : Claim7 := { stood := { row := readsUptoRow, standIns := [], harness := (true, "09db863217c94cf01ba2243e1bf59419ff785cc8f5deda7e970ef0faef93e803"), looks := true }, kinds := [], alts := [], laidByText := true, laidKinds := [.data, .data, .data, .data, .handle, .sentinel, .sentinel, .data, .wider, .sentinel, .sentinel, .sentinel, .sentinel, .sentinel, .sentinel, .sentinel, .sentinel, .sentinel, .sentinel, .sentinel, .sentinel, .sentinel, .sentinel, .sentinel, .pinned, .pinned], laidTests := true, laidLooks := .later }
def ReadsUptoCardSaid : Prop := Claim7.holds Tryz.pinned (.plain (OpenSpec.upto readsSpec)) readsUptoCard

/-- THE SECOND FORM's CARD OF 'moorkeep.Again'. -/
def againUptoCard : Claim7 := { stood := { row := againUptoRow, standIns := [], harness := (true, "09db863217c94cf01ba2243e1bf59419ff785cc8f5deda7e970ef0faef93e803"), looks := true }, kinds := [], alts := [], laidByText := true, laidKinds := [.data, .data, .data, .data, .handle, .sentinel, .sentinel, .data, .sentinel, .sentinel, .sentinel, .sentinel, .sentinel, .sentinel, .sentinel, .sentinel, .sentinel, .pinned, .pinned], laidTests := true, laidLooks := .later }
def AgainUptoCardSaid : Prop := Claim7.holds Tryz.pinned (.plain (OpenSpec.upto againSpec)) againUptoCard

/-- THE SECOND FORM's CARD OF 'moorkeep.Beside'. -/
def besideUptoCard : Claim7 := { stood := { row := besideUptoRow, standIns := [], harness := (true, "09db863217c94cf01ba2243e1bf59419ff785cc8f5deda7e970ef0faef93e803"), looks := true }, kinds := [], alts := [], laidByText := true, laidKinds := [.data, .data, .data, .data, .handle, .sentinel, .sentinel, .data, .sentinel, .sentinel, .sentinel, .sentinel, .sentinel, .sentinel, .sentinel, .sentinel, .sentinel, .data, .pinned, .pinned], laidTests := true, laidLooks := .later }
def BesideUptoCardSaid : Prop := Claim7.holds Tryz.pinned (.plain (OpenSpec.upto besideSpec)) besideUptoCard

/-- THE SECOND FORM's CARD OF 'moorkeep.Written'. -/
def writtenUptoCard : Claim7 := { stood := { row := writtenUptoRow, standIns := [], harness := (true, "09db863217c94cf01ba2243e1bf59419ff785cc8f5deda7e970ef0faef93e803"), looks := true }, kinds := [], alts := [], laidByText := true, laidKinds := [.data, .data, .data, .data, .handle, .sentinel, .sentinel, .data, .sentinel, .sentinel, .sentinel, .sentinel, .sentinel, .sentinel, .sentinel, .sentinel, .sentinel, .data, .data, .pinned, .pinned], laidTests := true, laidLooks := .later }
def WrittenUptoCardSaid : Prop := Claim7.holds Tryz.pinned (.plain (OpenSpec.upto writtenSpec)) writtenUptoCard

/-- THE SECOND FORM's CARD OF 'moorkeep.Drives'. -/
def drivesUptoCard : Claim7 := { stood := { row := drivesUptoRow, standIns := [], harness := (true, "09db863217c94cf01ba2243e1bf59419ff785cc8f5deda7e970ef0faef93e803"), looks := true }, kinds := [], alts := [], laidByText := true, laidKinds := [.data, .data, .data, .data, .handle, .sentinel, .sentinel, .data, .sentinel, .sentinel, .sentinel, .sentinel, .sentinel, .sentinel, .sentinel, .sentinel, .sentinel, .pinned, .pinned], laidTests := true, laidLooks := .later }
def DrivesUptoCardSaid : Prop := Claim7.holds Tryz.pinned (.plain (OpenSpec.upto drivesSpec)) drivesUptoCard

/-- THE SECOND FORM's CARD OF 'moorlaw.All'. -/
def allUptoCard : Claim7 := { stood := { row := allUptoRow, standIns := [], harness := (true, "09db863217c94cf01ba2243e1bf59419ff785cc8f5deda7e970ef0faef93e803"), looks := true }, kinds := [], alts := [], laidByText := true, laidKinds := [.data, .data, .data, .data, .handle, .sentinel, .sentinel, .data, .wider, .sentinel, .sentinel, .sentinel, .sentinel, .sentinel, .sentinel, .sentinel, .sentinel, .sentinel, .sentinel, .sentinel, .sentinel, .sentinel, .sentinel, .sentinel, .pinned, .pinned], laidTests := true, laidLooks := .later }
def AllUptoCardSaid : Prop := Claim7.holds Tryz.pinned (.plain (OpenSpec.upto allSpec)) allUptoCard

/-- THE SECOND FORM's CARD OF 'moorkeep.Given'. -/
def givenUptoCard : Claim7 := { stood := { row := givenUptoRow, standIns := [], harness := (true, "09db863217c94cf01ba2243e1bf59419ff785cc8f5deda7e970ef0faef93e803"), looks := true }, kinds := [], alts := [], laidByText := true, laidKinds := [.data, .data, .data, .data, .handle, .sentinel, .sentinel, .data, .sentinel, .sentinel, .sentinel, .sentinel, .sentinel, .sentinel, .sentinel, .sentinel, .sentinel, .sentinel, .sentinel, .sentinel, .sentinel, .sentinel, .sentinel, .pinned, .pinned], laidTests := true, laidLooks := .later }
def GivenUptoCardSaid : Prop := Claim7.holds Tryz.pinned (.plain (OpenSpec.upto givenSpec)) givenUptoCard
end Rows
end Go.Proofs.YtkcnageeamappaaGreatDoor
