/-
  NARROWER THAN 'FOR EVERY INPUT', by the rows' own cells (each row's printed sentence says how): Escaped: laid.
  DERIVED. THE GIVEN ROWS OF THIS SEAT. 1 by the template 'for every input the law returns true; each argument reads behind the call as it read before'; 0 by the template 'total and deterministic' (their statements: YtajgfgnnhbpefaaDoorTotals.lean).
  GIVEN WITH THE SEED: the statements are not yours to turn. If you find one false, say at which input.
  Laid BY PROGRAM, IN A SANDBOX (cutbox-rows.mjs): the forced cells as the released guide's own fill.sh prints them over the translation 48a4268ec5f9f556… (all of the seat's roots in one cut). By AI agents, Wed Nov 11 2026. No macro, syntax, notation, axiom, sorry.
-/
import Derived.Test.YtajgfgnnhbpefaaDoorChecked
import GoSem.Claim
import GoSem.ClaimJoined
import GoSem.ClaimMapViews
import Derived.JoinedTies
import Derived.KernelRfl
namespace Go.Proofs.YtajgfgnnhbpefaaDoor
/- THE CELL 'sum', in the pinned program and in every row, IS THE sha256 OF THE DUMP (.gsa) THAT YtajgfgnnhbpefaaDoorProg.lean LOADS. Nothing in Lean hashes anything: it is a label: what it is worth is what the hold of that sum in a sandbox is worth. -/
noncomputable def Tryd.pinned : Pinned := { name := "ytajgfgnnhbpefaadoor", sum := "48a4268ec5f9f556ff367b2ebf9c887f0a1fb0539caba362fb2c357d83417383", checked := Tryd.checked }
namespace Rows
def none {H : Type} : Left H := { results := [], args := [] }

/- WHAT THE LISTED PACKAGE-LEVEL VARIABLES READ AS WHEN THE CALL BEGINS. Each datum BY PROGRAM (the guide's laid-datum.mjs) off the statement by which the dump's own 'gosem.cut.vars' lays the variable. In a bare row this is a premise. The card (YtajgfgnnhbpefaaDoorCards.lean) ties it to the program's text. -/
def laid_moor_escape_sets {H : Type} : DataW H := .agg [.agg [.lit (.int .u64 4294967295), .lit (.int .u64 9223372036854775808), .lit (.int .u64 18446744073709551615), .lit (.int .u64 18446744073709551615)], .agg [.lit (.int .u64 5764607548804038655), .lit (.int .u64 9223372041149743104), .lit (.int .u64 18446744073709551615), .lit (.int .u64 18446744073709551615)], .agg [.lit (.int .u64 5764607583163777023), .lit (.int .u64 9223372036854775808), .lit (.int .u64 18446744073709551615), .lit (.int .u64 18446744073709551615)], .agg [.lit (.int .u64 5764608132919590911), .lit (.int .u64 9223372036854775808), .lit (.int .u64 18446744073709551615), .lit (.int .u64 18446744073709551615)], .agg [.lit (.int .u64 14987979620018552831), .lit (.int .u64 12105675803740602368), .lit (.int .u64 18446744073709551615), .lit (.int .u64 18446744073709551615)], .agg [.lit (.int .u64 18158654495175737343), .lit (.int .u64 13258597309286973441), .lit (.int .u64 18446744073709551615), .lit (.int .u64 18446744073709551615)], .agg [.lit (.int .u64 18158681364491141119), .lit (.int .u64 13258597309286973441), .lit (.int .u64 18446744073709551615), .lit (.int .u64 18446744073709551615)]]

/-- 'moorkeep.Escaped': WHATEVER THE INPUT: true; the input reads as it did. -/
def escapedSpec : ChangeSpec := { name := "escaped", fn := fun _ => fun
  | [d1, d2] => { results := [.lit (.bool true)], args := [d1, d2] }
  | _ => none }
def escapedRow : OpenClaim := { program := "ytajgfgnnhbpefaadoor", sum := "48a4268ec5f9f556ff367b2ebf9c887f0a1fb0539caba362fb2c357d83417383", func := "moor/moorkeep.Escaped", spec := "escaped", inPlace := ["internal/abi.NoEscape", "internal/bytealg.IndexByteString", "internal/bytealg.IndexString"], named := ["moor/escape.sets", "internal/bytealg.MaxLen"], apart := false, laid := [("moor/escape.sets", laid_moor_escape_sets)] }
def EscapedSaid : Prop := escapedRow.holds Tryd.pinned (OpenSpec.ofChange escapedSpec)

/-- ITS FALSE NEIGHBOUR: 'it returns false'. Refute it at one input. -/
def escapedWrong : ChangeSpec := { name := "escaped", fn := fun _ => fun
  | [d1, d2] => { results := [.lit (.bool false)], args := [d1, d2] }
  | _ => none }
def EscapedWrongFalsely : Prop := escapedRow.holds Tryd.pinned (OpenSpec.ofChange escapedWrong)

/- THE SECOND FORM. 'bulk': how many values and letters a reading holds, each counted each time it is reached (what is shared counts as often as it is met; a slice's spare places count too). A statement '..UptoSaid' is the law's where the arguments, and the package variables that the reading takes, are together of bulk at most 1048576: NARROWER than '..Said'. Prove '..Said' where nothing that the law and all that it calls make is longer than what came in: it says more and counts as full. Else prove '..UptoSaid'. A law counts once. -/
mutual
def uptoBulk {H : Type} : DataW H → Nat
  | .lit (.string bytes) => bytes.length + 1
  | .lit _ => 1
  | .nil => 1
  | .ptr d => uptoBulk d + 1
  | .slice elems spare => uptoBulkAll elems + uptoBulkAll spare + 1
  | .agg parts => uptoBulkAll parts + 1
  | .iface _ d => uptoBulk d + 1
  | .map entries => uptoBulkEntries entries + 1
  | .held _ => 1
def uptoBulkAll {H : Type} : List (DataW H) → Nat
  | [] => 0
  | d :: r => uptoBulk d + uptoBulkAll r
def uptoBulkEntries {H : Type} : List (Lit × DataW H) → Nat
  | [] => 0
  | x :: r => uptoBulkEntry x + uptoBulkEntries r
def uptoBulkEntry {H : Type} : Lit × DataW H → Nat
  | (.string bytes, d) => bytes.length + uptoBulk d + 1
  | (_, d) => uptoBulk d + 1
 end
def uptoSmall : (H : Type) → List (DataW H) → Bool := fun _ ds => decide (uptoBulkAll ds ≤ 1048576)
def OpenSpec.upto (s : _root_.Go.ChangeSpec) : _root_.Go.OpenSpec := { _root_.Go.OpenSpec.ofChange s with cond := some uptoSmall }

/-- 'moorkeep.Escaped', WHERE WHAT IT READS IS OF BULK AT MOST 1048576: true; the input reads as it did. -/
def escapedUptoRow : OpenClaim := { program := "ytajgfgnnhbpefaadoor", sum := "48a4268ec5f9f556ff367b2ebf9c887f0a1fb0539caba362fb2c357d83417383", func := "moor/moorkeep.Escaped", spec := "escaped", inPlace := ["internal/abi.NoEscape", "internal/bytealg.IndexByteString", "internal/bytealg.IndexString"], named := ["moor/escape.sets", "internal/bytealg.MaxLen"], apart := false, laid := [("moor/escape.sets", laid_moor_escape_sets)], narrowed := true }
def EscapedUptoSaid : Prop := escapedUptoRow.holds Tryd.pinned (OpenSpec.upto escapedSpec)

end Rows
end Go.Proofs.YtajgfgnnhbpefaaDoor
