import Derived.Test.YtkcnageeamappaaGreatDoorXLaid
import Derived.Test.YtkcnageeamappaaGreatDoorXSIp6L
import Derived.Test.YtkcnageeamappaaGreatDoorXQ13
import Derived.Test.YtkcnageeamappaaGreatDoorXAs2
import Derived.Test.YtkcnageeamappaaGreatDoorXQ4
import Derived.Test.YtkcnageeamappaaGreatDoorXFPlain
import Derived.Deep.DeepHandedRow
import Derived.ChangeSlices
import Derived.Test.YtkcnageeamappaaGreatDoorXHMarks
namespace Go.Proofs.YtkcnageeamappaaGreatDoor
open Go.ChangeShapes Go.WideShapes Go.ChangeAt Go.RowKit Go.Moor
def tab64 : List Int := [0, 1, 56, 2, 57, 49, 28, 3, 61, 58, 42, 50, 38, 29, 17, 4, 62, 47, 59, 36, 45, 43, 51, 22, 53, 39, 33, 30, 24, 18, 12, 5, 63, 55, 48, 27, 60, 41, 37, 16, 46, 35, 44, 21, 52, 32, 23, 11, 54, 26, 40, 15, 34, 20, 31, 10, 25, 14, 19, 9, 13, 8, 7, 6]
theorem gTz : Tryz.prog.globalNamed "math/bits.deBruijn64tab" = some 28 := by kernel_rfl
theorem gTzType : (Tryz.prog.globals[28]?).map (·.type) = some 313 := by kernel_rfl
theorem cellsByte : Tryz.prog.cellsOf 5 = 1 := by kernel_rfl
theorem cellsTz : Tryz.prog.cellsOf 313 = 64 := by kernel_rfl
theorem laid_tz : (Rows.laid_math_bits_deBruijn64tab : DataW Unit) = Lib.tabData .u8 tab64 := by kernel_rfl
theorem tz_of_reads {W : World} (h : Lib.VarReads Tryz.prog W "math/bits.deBruijn64tab" Rows.laid_math_bits_deBruijn64tab) : Tryz.Tz W := by
  obtain ⟨g', t', cs, fuel, p, hg', ht', hvar, hd⟩ := h
  obtain rfl := Option.some.inj (gTz.symm.trans hg')
  obtain rfl := Option.some.inj (gTzType.symm.trans ht')
  rw [laid_tz] at hd
  have h3 := Lib.cells_of_tab Tryz.underlying313 Tryz.underlying5 cellsByte cellsTz hd
  show _ = _
  rw [World.var?_cell gTz hvar 15, ← Array.getElem?_toList, h3]
  rfl
end Go.Proofs.YtkcnageeamappaaGreatDoor
namespace Go.Proofs.YtkcnageeamappaaGreatDoor
open Go.ChangeShapes Go.WideShapes Go.ChangeAt Go.RowKit Go.Moor
theorem gFirst : Tryz.prog.globalNamed "unicode/utf8.first" = some 21 := by kernel_rfl
theorem gAcc : Tryz.prog.globalNamed "unicode/utf8.acceptRanges" = some 22 := by kernel_rfl
theorem gFirstType : (Tryz.prog.globals[21]?).map (·.type) = some 288 := by kernel_rfl
theorem gAccType : (Tryz.prog.globals[22]?).map (·.type) = some 291 := by kernel_rfl
theorem cellsFirst : Tryz.prog.cellsOf 288 = 256 := by kernel_rfl
theorem cellsAcc : Tryz.prog.cellsOf 290 = 2 := by kernel_rfl
theorem laid_first : (Rows.laid_unicode_utf8_first : DataW Unit) = Lib.firstData := by kernel_rfl
theorem laid_accept : (Rows.laid_unicode_utf8_acceptRanges : DataW Unit) = Lib.acceptData := by kernel_rfl
theorem u8_of_reads {w : World} (h3 : Lib.VarReads Tryz.prog w "unicode/utf8.first" Rows.laid_unicode_utf8_first) (h4 : Lib.VarReads Tryz.prog w "unicode/utf8.acceptRanges" Rows.laid_unicode_utf8_acceptRanges) : Lib.Utf8Tabs 21 22 w := by
  rw [laid_first] at h3
  rw [laid_accept] at h4
  refine ⟨fun c hc => ?_, fun i hi => ?_⟩
  · obtain ⟨g, t, cs, fuel, p, hg, hty, hvar, hd⟩ := h3
    obtain rfl := Option.some.inj (gFirst.symm.trans hg)
    obtain rfl := Option.some.inj (gFirstType.symm.trans hty)
    have hcs := Lib.cells_of_tab Tryz.underlying288 Tryz.underlying5 cellsByte cellsFirst hd
    have := World.var?_cell hg hvar c
    rw [this, ← Array.getElem?_toList, hcs]
    simp [Lib.firstTab, hc]
  · obtain ⟨g, t, cs, fuel, p, hg, hty, hvar, hd⟩ := h4
    obtain rfl := Option.some.inj (gAcc.symm.trans hg)
    obtain rfl := Option.some.inj (gAccType.symm.trans hty)
    obtain ⟨fuel', d, q, hdi, he⟩ := Lib.array_elem Tryz.underlying291 hd i hi
    simp only [List.getElem?_map, List.getElem?_range hi, Option.map_some, Option.some.injEq] at hdi
    subst hdi
    rw [cellsAcc] at he
    have hcs := Lib.ints_of_struct Tryz.underlying290 (fun j f hj => by
      match j, hj with
      | 0, hj => simp at hj; subst hj; exact ⟨Tryz.underlying5, rfl, cellsByte⟩
      | 1, hj => simp at hj; subst hj; exact ⟨Tryz.underlying5, rfl, cellsByte⟩
      | j + 2, hj => simp at hj) (by rw [cellsAcc]; rfl) he
    have e0 := congrArg (·[0]?) hcs
    have e1 := congrArg (·[1]?) hcs
    simp only [List.getElem?_take, List.getElem?_drop] at e0 e1
    constructor
    · rw [World.var?_cell hg hvar (2 * i), ← Array.getElem?_toList]
      simpa [Nat.mul_comm] using e0
    · rw [World.var?_cell hg hvar (2 * i + 1), ← Array.getElem?_toList]
      simpa [Nat.mul_comm] using e1
def needLaid : List (String × DataW Unit) := [("strconv.ErrRange", Rows.laid_strconv_ErrRange), ("strconv.ErrSyntax", Rows.laid_strconv_ErrSyntax), ("moor/address.errNoBase", Rows.laid_moor_address_errNoBase), ("moor/address.errOpaqueBase", Rows.laid_moor_address_errOpaqueBase), ("moor/address.errNoHost", Rows.laid_moor_address_errNoHost)]
theorem env2_of_reads {W : World} (hp : ∀ x ∈ plainLaid, Lib.VarReads Tryz.prog W x.1 x.2) (hq : ∀ x ∈ needLaid, Lib.VarReads Tryz.prog W x.1 x.2) (hh : handlesMet Tryz.prog [("errors.errorType", Rows.laid_errors_errorType)] W) (hsh : W.ShapedOpen Tryz.prog) : Tryz.Env2 W := by
  have h : Tryz.Env W := ⟨size_of_shape hsh, sets_of_reads (hp ("moor/escape.sets", _) (by simp [plainLaid]; rfl)), maxLen_of_shape hsh,
    err_of_reads (by kernel_rfl) (by kernel_rfl) (hp ("moor/host.errEmpty", _) (by simp [plainLaid]; rfl)), err_of_reads (by kernel_rfl) (by kernel_rfl) (hp ("moor/host.errBracket", _) (by simp [plainLaid]; rfl)),
    err_of_reads (by kernel_rfl) (by kernel_rfl) (hp ("moor/host.errCount", _) (by simp [plainLaid]; rfl)), err_of_reads (by kernel_rfl) (by kernel_rfl) (hp ("moor/host.errLength", _) (by simp [plainLaid]; rfl)),
    err_of_reads (by kernel_rfl) (by kernel_rfl) (hp ("moor/host.errNought", _) (by simp [plainLaid]; rfl)), err_of_reads (by kernel_rfl) (by kernel_rfl) (hp ("moor/host.errTooGreat", _) (by simp [plainLaid]; rfl)),
    pow_of_reads (hp ("internal/strconv.uint64pow10", _) (by simp [plainLaid]; rfl)), handle_of_met hh⟩
  exact ⟨h, tz_of_reads (hp ("math/bits.deBruijn64tab", _) (by simp [plainLaid]; rfl)), u8_of_reads (hp ("unicode/utf8.first", _) (by simp [plainLaid]; rfl)) (hp ("unicode/utf8.acceptRanges", _) (by simp [plainLaid]; rfl)),
    err_of_reads (by kernel_rfl) (by kernel_rfl) (hq ("moor/address.errNoBase", _) (by simp [needLaid]; rfl)), err_of_reads (by kernel_rfl) (by kernel_rfl) (hq ("moor/address.errOpaqueBase", _) (by simp [needLaid]; rfl)),
    err_of_reads (by kernel_rfl) (by kernel_rfl) (hq ("moor/address.errNoHost", _) (by simp [needLaid]; rfl)), err_of_reads (by kernel_rfl) (by kernel_rfl) (hq ("strconv.ErrSyntax", _) (by simp [needLaid]; rfl)), err_of_reads (by kernel_rfl) (by kernel_rfl) (hq ("strconv.ErrRange", _) (by simp [needLaid]; rfl))⟩
end Go.Proofs.YtkcnageeamappaaGreatDoor
namespace Go.Proofs
open Go.RowKit Go.Moor
structure Tryz.Env3 (w : World) : Prop where
  env2 : Tryz.Env2 w
  ePart : Tryz.Err 3 w
  eScheme : Tryz.Err 7 w
  eKind : Tryz.Err 8 w
  eBare : Tryz.Err 9 w
  eBeside : Tryz.Err 11 w
  eOpaq : Tryz.Err 10 w
end Go.Proofs
