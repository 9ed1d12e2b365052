/-
  DERIVED. GIVEN WITH THE SEED: THE CARDS: each row of YtajgfgnnhbpefaaDoorRows.lean that lists a variable, with what it lists TIED to the program's text (the seventh form; the later family's looks); each row that meets fmt, with fmt's text TOLD by the authors' own Lean function (tested against real Go, not proved from fmt's source: count such statements apart). THE CARD IS WHAT COUNTS. Prove the row's statement (the work); the ties are given (YtajgfgnnhbpefaaDoorTie.lean); close each card by the builder's one call (the guide's Derived/Test/ToyasCard.lean, 'card_holds'). Laid BY PROGRAM, IN A SANDBOX (cutbox-door.mjs). By AI agents, Wed Nov 11 2026. No macro, syntax, notation, axiom, sorry.
-/
import Derived.Test.YtajgfgnnhbpefaaDoorRows
import GoSem.ClaimSeven
namespace Go.Proofs.YtajgfgnnhbpefaaDoor
namespace Rows

/-- THE TIED CARD OF 'moorkeep.Escaped'. -/
def escapedCard : Claim7 := { stood := { row := escapedRow, standIns := [], harness := (true, "9bdde2e43ecabdbb2a91203ea4bd7a27e359aeaad4d47a2a6d4cea0312e7e2bd"), looks := false }, kinds := [], alts := [], laidByText := true, laidKinds := [.data], laidTests := true, laidLooks := .later }
def EscapedCardSaid : Prop := Claim7.holds Tryd.pinned (.plain (OpenSpec.ofChange escapedSpec)) escapedCard

/-- THE SECOND FORM's CARD OF 'moorkeep.Escaped'. -/
def escapedUptoCard : Claim7 := { stood := { row := escapedUptoRow, standIns := [], harness := (true, "9bdde2e43ecabdbb2a91203ea4bd7a27e359aeaad4d47a2a6d4cea0312e7e2bd"), looks := false }, kinds := [], alts := [], laidByText := true, laidKinds := [.data], laidTests := true, laidLooks := .later }
def EscapedUptoCardSaid : Prop := Claim7.holds Tryd.pinned (.plain (OpenSpec.upto escapedSpec)) escapedUptoCard
end Rows
end Go.Proofs.YtajgfgnnhbpefaaDoor
