/-
  What the row's list gives of the table that the base 16 wants.
-/
import Derived.Test.YtkcnageeamappaaGreatDoorLaid
import Derived.Test.YtkcnageeamappaaGreatDoorSFmt
namespace Go.Proofs.YtkcnageeamappaaGreatDoor
open Go.ChangeShapes Go.WideShapes Go.ChangeAt Go.RowKit Go.Moor

def tab64 : List Int := [0, 1, 56, 2, 57, 49, 28, 3, 61, 58, 42, 50, 38, 29, 17, 4, 62, 47, 59, 36, 45, 43, 51, 22, 53, 39, 33, 30, 24, 18, 12, 5, 63, 55, 48, 27, 60, 41, 37, 16, 46, 35, 44, 21, 52, 32, 23, 11, 54, 26, 40, 15, 34, 20, 31, 10, 25, 14, 19, 9, 13, 8, 7, 6]
theorem gTz : Tryz.prog.globalNamed "math/bits.deBruijn64tab" = some 28 := by kernel_rfl
theorem gTzType : (Tryz.prog.globals[28]?).map (·.type) = some 313 := by kernel_rfl
theorem cellsByte : Tryz.prog.cellsOf 5 = 1 := by kernel_rfl
theorem cellsTz : Tryz.prog.cellsOf 313 = 64 := by kernel_rfl
theorem laid_tz : (Rows.laid_math_bits_deBruijn64tab : DataW Unit) = Lib.tabData .u8 tab64 := by kernel_rfl

theorem tz_of_reads {W : World} (h : Lib.VarReads Tryz.prog W "math/bits.deBruijn64tab" Rows.laid_math_bits_deBruijn64tab) : Tryz.Tz W := by
  obtain ⟨g', t', cs, fuel, p, hg', ht', hvar, hd⟩ := h
  obtain rfl := Option.some.inj (gTz.symm.trans hg')
  obtain rfl := Option.some.inj (gTzType.symm.trans ht')
  rw [laid_tz] at hd
  have h3 := Lib.cells_of_tab Tryz.underlying313 Tryz.underlying5 cellsByte cellsTz hd
  show _ = _
  rw [World.var?_cell gTz hvar 15, ← Array.getElem?_toList, h3]
  rfl

theorem tz_of_laid {W : World} (h : laidMetH Tryz.prog Rows.foursRow.laid W) : Tryz.Tz W := by
  obtain ⟨hp, _⟩ := laid_parts h
  exact tz_of_reads (Lib.laidMet.reads hp (by simp [plainLaid]))
end Go.Proofs.YtkcnageeamappaaGreatDoor
