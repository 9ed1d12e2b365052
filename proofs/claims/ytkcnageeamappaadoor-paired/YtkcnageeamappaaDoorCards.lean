/-
  DERIVED. GIVEN WITH THE SEED: THE CARDS: each row of YtkcnageeamappaaDoorRows.lean that lists a variable, with what it lists TIED to the program's text (the seventh form; the later family's looks); each row that meets fmt, with fmt's text TOLD by the authors' own Lean function (tested against real Go, not proved from fmt's source: count such statements apart). THE CARD IS WHAT COUNTS. Prove the row's statement (the work); the ties are given (YtkcnageeamappaaDoorTie.lean); close each card by the builder's one call (the guide's Derived/Test/ToyasCard.lean, 'card_holds'). Laid BY PROGRAM, IN A SANDBOX (cutbox-door.mjs). By AI agents, Wed Nov 11 2026. No macro, syntax, notation, axiom, sorry.
-/
import Derived.Test.YtkcnageeamappaaDoorRows
import GoSem.ClaimSeven
namespace Go.Proofs.YtkcnageeamappaaDoor
namespace Rows

/-- THE TIED CARD OF 'moorkeep.Escaped'. -/
def escapedCard : Claim7 := { stood := { row := escapedRow, standIns := [], harness := (true, "11dd853f80065fdb5c3d35e94bbeb416cc857117202f92c21e6e97e21cecf882"), looks := false }, kinds := [], alts := [], laidByText := true, laidKinds := [.data], laidTests := true, laidLooks := .later }
def EscapedCardSaid : Prop := Claim7.holds Tryd.pinned (.plain (OpenSpec.ofChange escapedSpec)) escapedCard

/-- THE TIED CARD OF 'moorkeep.Paired'. -/
def pairedCard : Claim7 := { stood := { row := pairedRow, standIns := [], harness := (true, "11dd853f80065fdb5c3d35e94bbeb416cc857117202f92c21e6e97e21cecf882"), looks := false }, kinds := [], alts := [], laidByText := true, laidKinds := [.data, .data, .wider, .pinned], laidTests := true, laidLooks := .later }
def PairedCardSaid : Prop := Claim7.holds Tryd.pinned (.plain (OpenSpec.ofChange pairedSpec)) pairedCard

/-- THE SECOND FORM's CARD OF 'moorkeep.Escaped'. -/
def escapedUptoCard : Claim7 := { stood := { row := escapedUptoRow, standIns := [], harness := (true, "11dd853f80065fdb5c3d35e94bbeb416cc857117202f92c21e6e97e21cecf882"), looks := false }, kinds := [], alts := [], laidByText := true, laidKinds := [.data], laidTests := true, laidLooks := .later }
def EscapedUptoCardSaid : Prop := Claim7.holds Tryd.pinned (.plain (OpenSpec.upto escapedSpec)) escapedUptoCard

/-- THE SECOND FORM's CARD OF 'moorkeep.Paired'. -/
def pairedUptoCard : Claim7 := { stood := { row := pairedUptoRow, standIns := [], harness := (true, "11dd853f80065fdb5c3d35e94bbeb416cc857117202f92c21e6e97e21cecf882"), looks := false }, kinds := [], alts := [], laidByText := true, laidKinds := [.data, .data, .wider, .pinned], laidTests := true, laidLooks := .later }
def PairedUptoCardSaid : Prop := Claim7.holds Tryd.pinned (.plain (OpenSpec.upto pairedSpec)) pairedUptoCard
end Rows
end Go.Proofs.YtkcnageeamappaaDoor
