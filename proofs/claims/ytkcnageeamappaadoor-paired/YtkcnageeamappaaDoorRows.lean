/-
  NARROWER THAN 'FOR EVERY INPUT', by the rows' own cells (each row's printed sentence says how): Escaped: laid · Paired: laid.
  DERIVED. THE GIVEN ROWS OF THIS SEAT. 2 by the template 'for every input the law returns true; each argument reads behind the call as it read before'; 0 by the template 'total and deterministic' (their statements: YtkcnageeamappaaDoorTotals.lean).
  GIVEN WITH THE SEED: the statements are not yours to turn. If you find one false, say at which input.
  Laid BY PROGRAM, IN A SANDBOX (cutbox-rows.mjs): the forced cells as the released guide's own fill.sh prints them over the translation 5dc0ebceb9d094d7… (all of the seat's roots in one cut). By AI agents, Wed Nov 11 2026. No macro, syntax, notation, axiom, sorry.
-/
import Derived.Test.YtkcnageeamappaaDoorChecked
import GoSem.PinnedTables
import GoSem.Claim
import GoSem.ClaimJoined
import GoSem.ClaimMapViews
import Derived.JoinedTies
import Derived.KernelRfl
namespace Go.Proofs.YtkcnageeamappaaDoor
/- THE CELL 'sum', in the pinned program and in every row, IS THE sha256 OF THE DUMP (.gsa) THAT YtkcnageeamappaaDoorProg.lean LOADS. Nothing in Lean hashes anything: it is a label: what it is worth is what the hold of that sum in a sandbox is worth. -/
noncomputable def Tryd.pinned : Pinned := { name := "ytkcnageeamappaadoor", sum := "5dc0ebceb9d094d7b8644dd95a4102489a2d2fcfb5e0508d5abec997575d7efa", checked := Tryd.checked }
namespace Rows
def none {H : Type} : Left H := { results := [], args := [] }

/- WHAT THE LISTED PACKAGE-LEVEL VARIABLES READ AS WHEN THE CALL BEGINS. Each datum BY PROGRAM (the guide's laid-datum.mjs) off the statement by which the dump's own 'gosem.cut.vars' lays the variable. In a bare row this is a premise. The card (YtkcnageeamappaaDoorCards.lean) ties it to the program's text. -/
def laid_moor_escape_sets {H : Type} : DataW H := .agg [.agg [.lit (.int .u64 4294967295), .lit (.int .u64 9223372036854775808), .lit (.int .u64 18446744073709551615), .lit (.int .u64 18446744073709551615)], .agg [.lit (.int .u64 5764607548804038655), .lit (.int .u64 9223372041149743104), .lit (.int .u64 18446744073709551615), .lit (.int .u64 18446744073709551615)], .agg [.lit (.int .u64 5764607583163777023), .lit (.int .u64 9223372036854775808), .lit (.int .u64 18446744073709551615), .lit (.int .u64 18446744073709551615)], .agg [.lit (.int .u64 5764608132919590911), .lit (.int .u64 9223372036854775808), .lit (.int .u64 18446744073709551615), .lit (.int .u64 18446744073709551615)], .agg [.lit (.int .u64 14987979620018552831), .lit (.int .u64 12105675803740602368), .lit (.int .u64 18446744073709551615), .lit (.int .u64 18446744073709551615)], .agg [.lit (.int .u64 18158654495175737343), .lit (.int .u64 13258597309286973441), .lit (.int .u64 18446744073709551615), .lit (.int .u64 18446744073709551615)], .agg [.lit (.int .u64 18158681364491141119), .lit (.int .u64 13258597309286973441), .lit (.int .u64 18446744073709551615), .lit (.int .u64 18446744073709551615)]]
def laid_unicode_utf8_acceptRanges {H : Type} : DataW H := .agg [.agg [.lit (.int .u8 128), .lit (.int .u8 191)], .agg [.lit (.int .u8 160), .lit (.int .u8 191)], .agg [.lit (.int .u8 128), .lit (.int .u8 159)], .agg [.lit (.int .u8 144), .lit (.int .u8 191)], .agg [.lit (.int .u8 128), .lit (.int .u8 143)], .agg [.lit (.int .u8 0), .lit (.int .u8 0)], .agg [.lit (.int .u8 0), .lit (.int .u8 0)], .agg [.lit (.int .u8 0), .lit (.int .u8 0)], .agg [.lit (.int .u8 0), .lit (.int .u8 0)], .agg [.lit (.int .u8 0), .lit (.int .u8 0)], .agg [.lit (.int .u8 0), .lit (.int .u8 0)], .agg [.lit (.int .u8 0), .lit (.int .u8 0)], .agg [.lit (.int .u8 0), .lit (.int .u8 0)], .agg [.lit (.int .u8 0), .lit (.int .u8 0)], .agg [.lit (.int .u8 0), .lit (.int .u8 0)], .agg [.lit (.int .u8 0), .lit (.int .u8 0)]]
def laid_moor_escape_pairSet {H : Type} : DataW H := .agg [.lit (.int .u64 18158685221371772927), .lit (.int .u64 17870283327714361345), .lit (.int .u64 18446744073709551615), .lit (.int .u64 18446744073709551615)]
/-- One of Go's own tables, pinned by name: the form's constant. -/
def laid_unicode_utf8_first : DataW Unit := Go.Pinned.utf8First

/-- 'moorkeep.Escaped': WHATEVER THE INPUT: true; the input reads as it did. -/
def escapedSpec : ChangeSpec := { name := "escaped", fn := fun _ => fun
  | [d1, d2] => { results := [.lit (.bool true)], args := [d1, d2] }
  | _ => none }
def escapedRow : OpenClaim := { program := "ytkcnageeamappaadoor", sum := "5dc0ebceb9d094d7b8644dd95a4102489a2d2fcfb5e0508d5abec997575d7efa", func := "moor/moorkeep.Escaped", spec := "escaped", inPlace := ["internal/abi.NoEscape", "internal/bytealg.IndexByteString", "internal/bytealg.IndexString"], named := ["moor/escape.sets", "internal/bytealg.MaxLen"], apart := false, laid := [("moor/escape.sets", laid_moor_escape_sets)] }
def EscapedSaid : Prop := escapedRow.holds Tryd.pinned (OpenSpec.ofChange escapedSpec)

/-- ITS FALSE NEIGHBOUR: 'it returns false'. Refute it at one input. -/
def escapedWrong : ChangeSpec := { name := "escaped", fn := fun _ => fun
  | [d1, d2] => { results := [.lit (.bool false)], args := [d1, d2] }
  | _ => none }
def EscapedWrongFalsely : Prop := escapedRow.holds Tryd.pinned (OpenSpec.ofChange escapedWrong)

/-- 'moorkeep.Paired': WHATEVER THE INPUT: true; the input reads as it did. -/
def pairedSpec : ChangeSpec := { name := "paired", fn := fun _ => fun
  | [d1, d2] => { results := [.lit (.bool true)], args := [d1, d2] }
  | _ => none }
def pairedRow : OpenClaim := { program := "ytkcnageeamappaadoor", sum := "5dc0ebceb9d094d7b8644dd95a4102489a2d2fcfb5e0508d5abec997575d7efa", func := "moor/moorkeep.Paired", spec := "paired", inPlace := ["internal/abi.NoEscape", "internal/bytealg.CountString", "internal/bytealg.IndexByteString", "internal/bytealg.IndexString", "internal/bytealg.MakeNoZero"], named := ["moor/escape.sets", "moor/escape.pairSet", "internal/bytealg.MaxLen", "unicode/utf8.first", "unicode/utf8.acceptRanges"], apart := false, laid := [("unicode/utf8.acceptRanges", laid_unicode_utf8_acceptRanges), ("moor/escape.sets", laid_moor_escape_sets), ("moor/escape.pairSet", laid_moor_escape_pairSet), ("unicode/utf8.first", laid_unicode_utf8_first)] }
def PairedSaid : Prop := pairedRow.holds Tryd.pinned (OpenSpec.ofChange pairedSpec)

/-- ITS FALSE NEIGHBOUR: 'it returns false'. Refute it at one input. -/
def pairedWrong : ChangeSpec := { name := "paired", fn := fun _ => fun
  | [d1, d2] => { results := [.lit (.bool false)], args := [d1, d2] }
  | _ => none }
def PairedWrongFalsely : Prop := pairedRow.holds Tryd.pinned (OpenSpec.ofChange pairedWrong)

/- THE SECOND FORM. 'bulk': how many values and letters a reading holds, each counted each time it is reached (what is shared counts as often as it is met; a slice's spare places count too). A statement '..UptoSaid' is the law's where the arguments, and the package variables that the reading takes, are together of bulk at most 1048576: NARROWER than '..Said'. Prove '..Said' where nothing that the law and all that it calls make is longer than what came in: it says more and counts as full. Else prove '..UptoSaid'. A law counts once. -/
mutual
def uptoBulk {H : Type} : DataW H → Nat
  | .lit (.string bytes) => bytes.length + 1
  | .lit _ => 1
  | .nil => 1
  | .ptr d => uptoBulk d + 1
  | .slice elems spare => uptoBulkAll elems + uptoBulkAll spare + 1
  | .agg parts => uptoBulkAll parts + 1
  | .iface _ d => uptoBulk d + 1
  | .map entries => uptoBulkEntries entries + 1
  | .held _ => 1
def uptoBulkAll {H : Type} : List (DataW H) → Nat
  | [] => 0
  | d :: r => uptoBulk d + uptoBulkAll r
def uptoBulkEntries {H : Type} : List (Lit × DataW H) → Nat
  | [] => 0
  | x :: r => uptoBulkEntry x + uptoBulkEntries r
def uptoBulkEntry {H : Type} : Lit × DataW H → Nat
  | (.string bytes, d) => bytes.length + uptoBulk d + 1
  | (_, d) => uptoBulk d + 1
 end
def uptoSmall : (H : Type) → List (DataW H) → Bool := fun _ ds => decide (uptoBulkAll ds ≤ 1048576)
def OpenSpec.upto (s : _root_.Go.ChangeSpec) : _root_.Go.OpenSpec := { _root_.Go.OpenSpec.ofChange s with cond := some uptoSmall }

/-- 'moorkeep.Escaped', WHERE WHAT IT READS IS OF BULK AT MOST 1048576: true; the input reads as it did. -/
def escapedUptoRow : OpenClaim := { program := "ytkcnageeamappaadoor", sum := "5dc0ebceb9d094d7b8644dd95a4102489a2d2fcfb5e0508d5abec997575d7efa", func := "moor/moorkeep.Escaped", spec := "escaped", inPlace := ["internal/abi.NoEscape", "internal/bytealg.IndexByteString", "internal/bytealg.IndexString"], named := ["moor/escape.sets", "internal/bytealg.MaxLen"], apart := false, laid := [("moor/escape.sets", laid_moor_escape_sets)], narrowed := true }
def EscapedUptoSaid : Prop := escapedUptoRow.holds Tryd.pinned (OpenSpec.upto escapedSpec)

/-- 'moorkeep.Paired', WHERE WHAT IT READS IS OF BULK AT MOST 1048576: true; the input reads as it did. -/
def pairedUptoRow : OpenClaim := { program := "ytkcnageeamappaadoor", sum := "5dc0ebceb9d094d7b8644dd95a4102489a2d2fcfb5e0508d5abec997575d7efa", func := "moor/moorkeep.Paired", spec := "paired", inPlace := ["internal/abi.NoEscape", "internal/bytealg.CountString", "internal/bytealg.IndexByteString", "internal/bytealg.IndexString", "internal/bytealg.MakeNoZero"], named := ["moor/escape.sets", "moor/escape.pairSet", "internal/bytealg.MaxLen", "unicode/utf8.first", "unicode/utf8.acceptRanges"], apart := false, laid := [("unicode/utf8.acceptRanges", laid_unicode_utf8_acceptRanges), ("moor/escape.sets", laid_moor_escape_sets), ("moor/escape.pairSet", laid_moor_escape_pairSet), ("unicode/utf8.first", laid_unicode_utf8_first)], narrowed := true }
def PairedUptoSaid : Prop := pairedUptoRow.holds Tryd.pinned (OpenSpec.upto pairedSpec)

end Rows
end Go.Proofs.YtkcnageeamappaaDoor
