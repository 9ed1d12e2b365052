import Derived.Test.YtkcnageeamappaaGreatDoorRows
import Derived.Test.YtkcnageeamappaaGreatDoorXQ4
import Derived.ProofKit
import Derived.OpenShut
import Derived.Lib.LaidU8
import Derived.Lib.LaidTab
import Derived.Lay
import Derived.LaidHandle
import Derived.Shelf.Vars
namespace Go.Proofs.YtkcnageeamappaaGreatDoor
open Go.ChangeShapes Go.WideShapes Go.ChangeAt Go.RowKit Go.Moor
theorem gSets : Tryz.prog.globalNamed "moor/escape.sets" = some 13 := by kernel_rfl
theorem gSetsType : (Tryz.prog.globals[13]?).map (·.type) = some 218 := by kernel_rfl
theorem cellsRow : Tryz.prog.cellsOf 153 = 4 := by kernel_rfl
theorem cellsWord : Tryz.prog.cellsOf 151 = 1 := by kernel_rfl
theorem cellsPow : Tryz.prog.cellsOf 283 = 20 := by kernel_rfl
theorem gPowType : (Tryz.prog.globals[20]?).map (·.type) = some 283 := by kernel_rfl
def rowData {H : Type} (i : Nat) : DataW H := Lib.tabData .u64 [tabAt (i * 4), tabAt (i * 4 + 1), tabAt (i * 4 + 2), tabAt (i * 4 + 3)]
theorem laid_rows : (Rows.laid_moor_escape_sets : DataW Unit) = .agg ((List.range 7).map rowData) := by kernel_rfl
theorem laid_pow : (Rows.laid_internal_strconv_uint64pow10 : DataW Unit) = Lib.tabData .u64 Lib.pow10Tab := by kernel_rfl
theorem sets_of_reads {W : World} (h : Lib.VarReads Tryz.prog W "moor/escape.sets" Rows.laid_moor_escape_sets) : Tryz.Sets W := by
  obtain ⟨g', t', cs, fuel, p, hg', ht', hvar, hd⟩ := h
  obtain rfl := Option.some.inj (gSets.symm.trans hg')
  obtain rfl := Option.some.inj (gSetsType.symm.trans ht')
  rw [laid_rows] at hd
  obtain ⟨xs, m, rfl, hx, hcl, hxl, hall⟩ := DataW.trod_array Tryz.underlying218 hd
  have hxs : xs.map (·.1) = (List.range 7).map (rowData (H := Unit)) := by
    have := congrArg Prod.fst hx
    simpa using this.symm
  intro k hk
  have hi : k / 4 < 7 := by omega
  have h1 := hall (k / 4) hi
  have h2 : (xs.map (·.1))[k / 4]? = some (rowData (H := Unit) (k / 4)) := by rw [hxs]; simp [hi]
  rw [List.getElem?_map, Option.map_eq_some_iff] at h2
  obtain ⟨y, hy, hy1⟩ := h2
  rw [hy, cellsRow] at h1
  have h3 := Lib.cells_of_tab Tryz.underlying153 Tryz.underlying151 cellsWord cellsRow (zs := [tabAt (k / 4 * 4), tabAt (k / 4 * 4 + 1), tabAt (k / 4 * 4 + 2), tabAt (k / 4 * 4 + 3)]) (p := y.2) (by
    rw [h1]
    show some y = some (rowData (k / 4), y.2)
    rw [← hy1])
  rw [World.var?_cell gSets hvar k]
  have h4 : cs[k]? = ((cs.toList.drop (k / 4 * 4)).take 4)[k % 4]? := by
    rw [List.getElem?_take, if_pos (by omega), List.getElem?_drop, Array.getElem?_toList, show k / 4 * 4 + k % 4 = k by omega]
  rw [h4, h3]
  have hr : k % 4 = 0 ∨ k % 4 = 1 ∨ k % 4 = 2 ∨ k % 4 = 3 := by omega
  rcases hr with hr | hr | hr | hr
  · rw [hr, show k / 4 * 4 = k by omega]; rfl
  · rw [hr, show k / 4 * 4 = k - 1 by omega, show k - 1 + 1 = k by omega]; rfl
  · rw [hr, show k / 4 * 4 = k - 2 by omega, show k - 2 + 2 = k by omega]; rfl
  · rw [hr, show k / 4 * 4 = k - 3 by omega, show k - 3 + 3 = k by omega]; rfl
theorem pow_of_reads {W : World} (h : Lib.VarReads Tryz.prog W "internal/strconv.uint64pow10" Rows.laid_internal_strconv_uint64pow10) : Lib.TabIs Tryz.prog W "internal/strconv.uint64pow10" .u64 Lib.pow10Tab := by
  obtain ⟨g', t', cs, fuel, p, hg', ht', hvar, hd⟩ := h
  obtain rfl := Option.some.inj (Tryz.gPow.symm.trans hg')
  obtain rfl := Option.some.inj (gPowType.symm.trans ht')
  rw [laid_pow] at hd
  unfold Lib.TabIs
  rw [hvar, ← Lib.cells_of_tab Tryz.underlying283 Tryz.underlying151 cellsWord cellsPow hd]
theorem err_of_reads {W : World} {name : String} {g : Nat} {nm : String} {d : DataW Unit} (hg : Tryz.prog.globalNamed name = some g) (ht : (Tryz.prog.globals[g]?).map (·.type) = some 65)
    (h : Lib.VarReads Tryz.prog W name (.iface nm d)) : Tryz.Err g W := by
  obtain ⟨g', t', cs, fuel, p, hg', ht', hvar, hd⟩ := h
  obtain rfl := Option.some.inj (hg.symm.trans hg')
  obtain rfl := Option.some.inj (ht.symm.trans ht')
  have hc := World.var?_cell hg hvar 0
  have key : ∃ u v, cs.toList = [.iface u v] := by
    cases fuel with
    | zero => simp [DataW.trod] at hd
    | succ f =>
      rcases hl : cs.toList with _ | ⟨x, _ | ⟨y, r⟩⟩
      · rw [hl] at hd
        simp [DataW.trod, Tryz.underlying65] at hd
      · rw [hl] at hd
        cases x <;> first
          | exact ⟨_, _, rfl⟩
          | (exfalso; simp [DataW.trod, Tryz.underlying65] at hd)
      · rw [hl] at hd
        simp [DataW.trod, Tryz.underlying65] at hd
  obtain ⟨u, v, hk⟩ := key
  refine ⟨u, v, hc.trans ?_⟩
  rw [← Array.getElem?_toList, hk]
  rfl
theorem rt : (Tryz.prog.cutTypes.find? (·.1 == "internal/reflectlite.rtype")).map (·.2) = some 193 := by kernel_rfl
theorem typesSize : Tryz.prog.types.size = 343 := by kernel_rfl
theorem oneRow : ((List.range 343).filter fun t => Tryz.prog.rowNamed t [101, 114, 114, 111, 114]) = [65] := by kernel_rfl
theorem gType : Tryz.prog.globalNamed "errors.errorType" = some 2 := by kernel_rfl
theorem theHandle : typeHandle Tryz.prog 65 = .pointer (some ⟨29, 65, none⟩) := by kernel_rfl
theorem handle_of_met {W : World} (h : handlesMet Tryz.prog [("errors.errorType", Rows.laid_errors_errorType)] W) : W.cell? ⟨2, 0, none⟩ = some (.iface 193 (.agg #[.pointer (some ⟨29, 65, none⟩)])) := by
  obtain ⟨name, u, ty, e1, e2, e3, e4, e5⟩ := h _ (List.mem_singleton.2 rfl)
  have en : name = [101, 114, 114, 111, 114] := (Option.some.inj e1).symm
  subst en
  obtain rfl := Option.some.inj (rt.symm.trans e2)
  have hm : ty ∈ (List.range 343).filter fun t => Tryz.prog.rowNamed t [101, 114, 114, 111, 114] := List.mem_filter.2 ⟨List.mem_range.2 (by rw [← typesSize]; exact e3), e4⟩
  rw [oneRow] at hm
  obtain rfl := List.mem_singleton.1 hm
  rw [theHandle] at e5
  simpa using World.var?_cell gType e5 0
theorem maxLen_of_shape {W : World} (h : W.ShapedOpen Tryz.prog) : ∃ m, W.cell? ⟨16, 0, none⟩ = some (.int .i64 m) :=
  cell_of_shapedOpen_int (zero := #[.int .i64 0]) (t := 3) h (of_decide_eq_true (by kernel_rfl)) (by kernel_rfl) rfl (by kernel_rfl) (by kernel_rfl) Tryz.underlying3
def plainLaid : List (String × DataW Unit) := [("math/bits.deBruijn32tab", Rows.laid_math_bits_deBruijn32tab), ("math/bits.deBruijn64tab", Rows.laid_math_bits_deBruijn64tab), ("internal/strconv.uint64pow10", Rows.laid_internal_strconv_uint64pow10), ("unicode/utf8.acceptRanges", Rows.laid_unicode_utf8_acceptRanges), ("moor/escape.sets", Rows.laid_moor_escape_sets), ("moor/host.errEmpty", Rows.laid_moor_host_errEmpty), ("moor/host.errBracket", Rows.laid_moor_host_errBracket), ("moor/host.errCount", Rows.laid_moor_host_errCount), ("moor/host.errLength", Rows.laid_moor_host_errLength), ("moor/host.errNought", Rows.laid_moor_host_errNought), ("moor/host.errTooGreat", Rows.laid_moor_host_errTooGreat), ("unicode.CaseRanges", Rows.laid_unicode_CaseRanges), ("unicode/utf8.first", Rows.laid_unicode_utf8_first)]
theorem size_of_shape {W : World} (h : W.ShapedOpen Tryz.prog) : 29 ≤ W.heap.size := by
  obtain ⟨o, o0, h1, _⟩ := h.2 29 (by rw [show Tryz.prog.globals.size = 29 by kernel_rfl]; exact Nat.le_refl _) (of_decide_eq_true (by kernel_rfl))
  have := (Array.getElem?_eq_some_iff.1 h1).1
  omega
end Go.Proofs.YtkcnageeamappaaGreatDoor
