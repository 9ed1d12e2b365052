/-
  DERIVED. GIVEN WITH THE SEED: THE CARDS: each row of YtebiknkedhiekaaGreatDoorRows.lean that lists a variable, with what it lists TIED to the program's text (the seventh form; the later family's looks); each row that meets fmt, with fmt's text TOLD by the authors' own Lean function (tested against real Go, not proved from fmt's source: count such statements apart). THE CARD IS WHAT COUNTS. Prove the row's statement (the work); the ties are given (YtebiknkedhiekaaGreatDoorTie.lean); close each card by the builder's one call (the guide's Derived/Test/ToyasCard.lean, 'card_holds'). Laid BY PROGRAM, IN A SANDBOX (cutbox-door.mjs). By AI agents, Wed Nov 11 2026. No macro, syntax, notation, axiom, sorry.
-/
import Derived.Test.YtebiknkedhiekaaGreatDoorRows
import GoSem.ClaimSeven
namespace Go.Proofs.YtebiknkedhiekaaGreatDoor
namespace Rows

/-- THE TIED CARD OF 'moorlaw.Hosts'. -/
def hostsCard : Claim7 := { stood := { row := hostsRow, standIns := [], harness := (true, "82ddea9cfd7670369b31854854ec5080789cc65f4c52f20938565215454790fc"), looks := true }, kinds := [], alts := [], laidByText := true, laidKinds := [.data, .data, .data, .data, .handle, .data, .sentinel, .sentinel, .sentinel, .sentinel, .sentinel, .sentinel, .pinned, .pinned], laidTests := true, laidLooks := .later }
def HostsCardSaid : Prop := Claim7.holds Tryz.pinned (.plain (OpenSpec.ofChange hostsSpec)) hostsCard

/-- THE TIED CARD OF 'moorkeep.Fours'. -/
def foursCard : Claim7 := { stood := { row := foursRow, standIns := [], harness := (true, "82ddea9cfd7670369b31854854ec5080789cc65f4c52f20938565215454790fc"), looks := true }, kinds := [], alts := [], laidByText := true, laidKinds := [.data, .data, .data, .data, .handle, .data, .sentinel, .sentinel, .sentinel, .sentinel, .sentinel, .sentinel, .pinned, .pinned], laidTests := true, laidLooks := .later }
def FoursCardSaid : Prop := Claim7.holds Tryz.pinned (.plain (OpenSpec.ofChange foursSpec)) foursCard

/-- THE TIED CARD OF 'moorkeep.Sixes'. -/
def sixesCard : Claim7 := { stood := { row := sixesRow, standIns := [], harness := (true, "82ddea9cfd7670369b31854854ec5080789cc65f4c52f20938565215454790fc"), looks := true }, kinds := [], alts := [], laidByText := true, laidKinds := [.data, .data, .data, .data, .handle, .data, .sentinel, .sentinel, .sentinel, .sentinel, .sentinel, .sentinel, .pinned, .pinned], laidTests := true, laidLooks := .later }
def SixesCardSaid : Prop := Claim7.holds Tryz.pinned (.plain (OpenSpec.ofChange sixesSpec)) sixesCard

/-- THE SECOND FORM's CARD OF 'moorlaw.Hosts'. -/
def hostsUptoCard : Claim7 := { stood := { row := hostsUptoRow, standIns := [], harness := (true, "82ddea9cfd7670369b31854854ec5080789cc65f4c52f20938565215454790fc"), looks := true }, kinds := [], alts := [], laidByText := true, laidKinds := [.data, .data, .data, .data, .handle, .data, .sentinel, .sentinel, .sentinel, .sentinel, .sentinel, .sentinel, .pinned, .pinned], laidTests := true, laidLooks := .later }
def HostsUptoCardSaid : Prop := Claim7.holds Tryz.pinned (.plain (OpenSpec.upto hostsSpec)) hostsUptoCard

/-- THE SECOND FORM's CARD OF 'moorkeep.Fours'. -/
def foursUptoCard : Claim7 := { stood := { row := foursUptoRow, standIns := [], harness := (true, "82ddea9cfd7670369b31854854ec5080789cc65f4c52f20938565215454790fc"), looks := true }, kinds := [], alts := [], laidByText := true, laidKinds := [.data, .data, .data, .data, .handle, .data, .sentinel, .sentinel, .sentinel, .sentinel, .sentinel, .sentinel, .pinned, .pinned], laidTests := true, laidLooks := .later }
def FoursUptoCardSaid : Prop := Claim7.holds Tryz.pinned (.plain (OpenSpec.upto foursSpec)) foursUptoCard

/-- THE SECOND FORM's CARD OF 'moorkeep.Sixes'. -/
def sixesUptoCard : Claim7 := { stood := { row := sixesUptoRow, standIns := [], harness := (true, "82ddea9cfd7670369b31854854ec5080789cc65f4c52f20938565215454790fc"), looks := true }, kinds := [], alts := [], laidByText := true, laidKinds := [.data, .data, .data, .data, .handle, .data, .sentinel, .sentinel, .sentinel, .sentinel, .sentinel, .sentinel, .pinned, .pinned], laidTests := true, laidLooks := .later }
def SixesUptoCardSaid : Prop := Claim7.holds Tryz.pinned (.plain (OpenSpec.upto sixesSpec)) sixesUptoCard
end Rows
end Go.Proofs.YtebiknkedhiekaaGreatDoor
