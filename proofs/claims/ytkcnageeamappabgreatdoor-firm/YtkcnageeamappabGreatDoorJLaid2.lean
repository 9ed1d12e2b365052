/-
  What the row's list gives: the variables hold what the walks ask of them; and a world that meets the list, for the witness.
-/
import Derived.Test.YtkcnageeamappabGreatDoorRows
import Derived.Test.YtkcnageeamappabGreatDoorJDrew
import Derived.ProofKit
import Derived.OpenShut
import Derived.Lib.LaidU8
import Derived.Lib.LaidTab
import Derived.Lay
import Derived.LaidHandle
import Derived.Shelf.Vars
import Derived.Test.YtkcnageeamappabGreatDoorJSFmt
import Derived.Test.YtkcnageeamappabGreatDoorJATrim
import Derived.Test.YtkcnageeamappabGreatDoorJAParse
import Derived.Test.YtkcnageeamappabGreatDoorJADrive
import Derived.Deep.DeepHandedRow
import Derived.ChangeSlices
namespace Go.Proofs.YtkcnageeamappabGreatDoor
open Go.ChangeShapes Go.WideShapes Go.ChangeAt Go.RowKit Go.Moor

theorem gSets : Tryz.prog.globalNamed "moor/escape.sets" = some 14 := by kernel_rfl
theorem gSetsType : (Tryz.prog.globals[14]?).map (·.type) = some 204 := by kernel_rfl
theorem cellsRow : Tryz.prog.cellsOf 172 = 4 := by kernel_rfl
theorem cellsWord : Tryz.prog.cellsOf 136 = 1 := by kernel_rfl
theorem cellsPow : Tryz.prog.cellsOf 227 = 20 := by kernel_rfl
theorem gPowType : (Tryz.prog.globals[16]?).map (·.type) = some 227 := by kernel_rfl

def rowData {H : Type} (i : Nat) : DataW H := Lib.tabData .u64 [tabAt (i * 4), tabAt (i * 4 + 1), tabAt (i * 4 + 2), tabAt (i * 4 + 3)]
theorem laid_rows : (Rows.laid_moor_escape_sets : DataW Unit) = .agg ((List.range 7).map rowData) := by kernel_rfl
theorem laid_pow : (Rows.laid_internal_strconv_uint64pow10 : DataW Unit) = Lib.tabData .u64 Lib.pow10Tab := by kernel_rfl

theorem sets_of_reads {W : World} (h : Lib.VarReads Tryz.prog W "moor/escape.sets" Rows.laid_moor_escape_sets) : Tryz.Sets W := by
  obtain ⟨g', t', cs, fuel, p, hg', ht', hvar, hd⟩ := h
  obtain rfl := Option.some.inj (gSets.symm.trans hg')
  obtain rfl := Option.some.inj (gSetsType.symm.trans ht')
  rw [laid_rows] at hd
  obtain ⟨xs, m, rfl, hx, hcl, hxl, hall⟩ := DataW.trod_array Tryz.underlying204 hd
  have hxs : xs.map (·.1) = (List.range 7).map (rowData (H := Unit)) := by
    have := congrArg Prod.fst hx
    simpa using this.symm
  intro k hk
  have hi : k / 4 < 7 := by omega
  have h1 := hall (k / 4) hi
  have h2 : (xs.map (·.1))[k / 4]? = some (rowData (H := Unit) (k / 4)) := by rw [hxs]; simp [hi]
  rw [List.getElem?_map, Option.map_eq_some_iff] at h2
  obtain ⟨y, hy, hy1⟩ := h2
  rw [hy, cellsRow] at h1
  have h3 := Lib.cells_of_tab Tryz.underlying172 Tryz.underlying136 cellsWord cellsRow (zs := [tabAt (k / 4 * 4), tabAt (k / 4 * 4 + 1), tabAt (k / 4 * 4 + 2), tabAt (k / 4 * 4 + 3)]) (p := y.2) (by
    rw [h1]
    show some y = some (rowData (k / 4), y.2)
    rw [← hy1])
  rw [World.var?_cell gSets hvar k]
  have h4 : cs[k]? = ((cs.toList.drop (k / 4 * 4)).take 4)[k % 4]? := by
    rw [List.getElem?_take, if_pos (by omega), List.getElem?_drop, Array.getElem?_toList, show k / 4 * 4 + k % 4 = k by omega]
  rw [h4, h3]
  have hr : k % 4 = 0 ∨ k % 4 = 1 ∨ k % 4 = 2 ∨ k % 4 = 3 := by omega
  rcases hr with hr | hr | hr | hr
  · rw [hr, show k / 4 * 4 = k by omega]; rfl
  · rw [hr, show k / 4 * 4 = k - 1 by omega, show k - 1 + 1 = k by omega]; rfl
  · rw [hr, show k / 4 * 4 = k - 2 by omega, show k - 2 + 2 = k by omega]; rfl
  · rw [hr, show k / 4 * 4 = k - 3 by omega, show k - 3 + 3 = k by omega]; rfl

theorem pow_of_reads {W : World} (h : Lib.VarReads Tryz.prog W "internal/strconv.uint64pow10" Rows.laid_internal_strconv_uint64pow10) : Lib.TabIs Tryz.prog W "internal/strconv.uint64pow10" .u64 Lib.pow10Tab := by
  obtain ⟨g', t', cs, fuel, p, hg', ht', hvar, hd⟩ := h
  obtain rfl := Option.some.inj (Tryz.gPow.symm.trans hg')
  obtain rfl := Option.some.inj (gPowType.symm.trans ht')
  rw [laid_pow] at hd
  unfold Lib.TabIs
  rw [hvar, ← Lib.cells_of_tab Tryz.underlying227 Tryz.underlying136 cellsWord cellsPow hd]

theorem err_of_reads {W : World} {name : String} {g : Nat} {nm : String} {d : DataW Unit} (hg : Tryz.prog.globalNamed name = some g) (ht : (Tryz.prog.globals[g]?).map (·.type) = some 60)
    (h : Lib.VarReads Tryz.prog W name (.iface nm d)) : Tryz.Err g W := by
  obtain ⟨g', t', cs, fuel, p, hg', ht', hvar, hd⟩ := h
  obtain rfl := Option.some.inj (hg.symm.trans hg')
  obtain rfl := Option.some.inj (ht.symm.trans ht')
  have hc := World.var?_cell hg hvar 0
  have key : ∃ u v, cs.toList = [.iface u v] := by
    cases fuel with
    | zero => simp [DataW.trod] at hd
    | succ f =>
      rcases hl : cs.toList with _ | ⟨x, _ | ⟨y, r⟩⟩
      · rw [hl] at hd
        simp [DataW.trod, Tryz.underlying60] at hd
      · rw [hl] at hd
        cases x <;> first
          | exact ⟨_, _, rfl⟩
          | (exfalso; simp [DataW.trod, Tryz.underlying60] at hd)
      · rw [hl] at hd
        simp [DataW.trod, Tryz.underlying60] at hd
  obtain ⟨u, v, hk⟩ := key
  refine ⟨u, v, hc.trans ?_⟩
  rw [← Array.getElem?_toList, hk]
  rfl

theorem rt : (Tryz.prog.cutTypes.find? (·.1 == "internal/reflectlite.rtype")).map (·.2) = some 156 := by kernel_rfl
theorem typesSize : Tryz.prog.types.size = 294 := by kernel_rfl
theorem oneRow : ((List.range 294).filter fun t => Tryz.prog.rowNamed t [101, 114, 114, 111, 114]) = [60] := by kernel_rfl
theorem gType : Tryz.prog.globalNamed "errors.errorType" = some 1 := by kernel_rfl
theorem theHandle : typeHandle Tryz.prog 60 = .pointer (some ⟨27, 60, none⟩) := by kernel_rfl

theorem handle_of_met {W : World} (h : handlesMet Tryz.prog [("errors.errorType", Rows.laid_errors_errorType)] W) : W.cell? ⟨1, 0, none⟩ = some (.iface 156 (.agg #[.pointer (some ⟨27, 60, none⟩)])) := by
  obtain ⟨name, u, ty, e1, e2, e3, e4, e5⟩ := h _ (List.mem_singleton.2 rfl)
  have en : name = [101, 114, 114, 111, 114] := (Option.some.inj e1).symm
  subst en
  obtain rfl := Option.some.inj (rt.symm.trans e2)
  have hm : ty ∈ (List.range 294).filter fun t => Tryz.prog.rowNamed t [101, 114, 114, 111, 114] := List.mem_filter.2 ⟨List.mem_range.2 (by rw [← typesSize]; exact e3), e4⟩
  rw [oneRow] at hm
  obtain rfl := List.mem_singleton.1 hm
  rw [theHandle] at e5
  simpa using World.var?_cell gType e5 0

theorem maxLen_of_shape {W : World} (h : W.ShapedOpen Tryz.prog) : ∃ m, W.cell? ⟨15, 0, none⟩ = some (.int .i64 m) :=
  cell_of_shapedOpen_int (zero := #[.int .i64 0]) (t := 3) h (of_decide_eq_true (by kernel_rfl)) (by kernel_rfl) rfl (by kernel_rfl) (by kernel_rfl) Tryz.underlying3

/-- The listed variables without the handle. -/
def plainLaid : List (String × DataW Unit) := [("math/bits.deBruijn32tab", Rows.laid_math_bits_deBruijn32tab), ("math/bits.deBruijn64tab", Rows.laid_math_bits_deBruijn64tab), ("internal/strconv.uint64pow10", Rows.laid_internal_strconv_uint64pow10), ("unicode/utf8.acceptRanges", Rows.laid_unicode_utf8_acceptRanges), ("moor/escape.sets", Rows.laid_moor_escape_sets), ("moor/host.errEmpty", Rows.laid_moor_host_errEmpty), ("moor/host.errBracket", Rows.laid_moor_host_errBracket), ("moor/host.errCount", Rows.laid_moor_host_errCount), ("moor/host.errLength", Rows.laid_moor_host_errLength), ("moor/host.errNought", Rows.laid_moor_host_errNought), ("moor/host.errTooGreat", Rows.laid_moor_host_errTooGreat), ("unicode.CaseRanges", Rows.laid_unicode_CaseRanges), ("unicode/utf8.first", Rows.laid_unicode_utf8_first)]
theorem size_of_shape {W : World} (h : W.ShapedOpen Tryz.prog) : 27 ≤ W.heap.size := by
  obtain ⟨o, o0, h1, _⟩ := h.2 27 (by rw [show Tryz.prog.globals.size = 27 by kernel_rfl]; exact Nat.le_refl _) (of_decide_eq_true (by kernel_rfl))
  have := (Array.getElem?_eq_some_iff.1 h1).1
  omega

end Go.Proofs.YtkcnageeamappabGreatDoor
/-
  What the row's list gives of the table that the base 16 wants.
-/
namespace Go.Proofs.YtkcnageeamappabGreatDoor
open Go.ChangeShapes Go.WideShapes Go.ChangeAt Go.RowKit Go.Moor

def tab64 : List Int := [0, 1, 56, 2, 57, 49, 28, 3, 61, 58, 42, 50, 38, 29, 17, 4, 62, 47, 59, 36, 45, 43, 51, 22, 53, 39, 33, 30, 24, 18, 12, 5, 63, 55, 48, 27, 60, 41, 37, 16, 46, 35, 44, 21, 52, 32, 23, 11, 54, 26, 40, 15, 34, 20, 31, 10, 25, 14, 19, 9, 13, 8, 7, 6]
theorem gTz : Tryz.prog.globalNamed "math/bits.deBruijn64tab" = some 23 := by kernel_rfl
theorem gTzType : (Tryz.prog.globals[23]?).map (·.type) = some 258 := by kernel_rfl
theorem cellsByte : Tryz.prog.cellsOf 5 = 1 := by kernel_rfl
theorem cellsTz : Tryz.prog.cellsOf 258 = 64 := by kernel_rfl
theorem laid_tz : (Rows.laid_math_bits_deBruijn64tab : DataW Unit) = Lib.tabData .u8 tab64 := by kernel_rfl

theorem tz_of_reads {W : World} (h : Lib.VarReads Tryz.prog W "math/bits.deBruijn64tab" Rows.laid_math_bits_deBruijn64tab) : Tryz.Tz W := by
  obtain ⟨g', t', cs, fuel, p, hg', ht', hvar, hd⟩ := h
  obtain rfl := Option.some.inj (gTz.symm.trans hg')
  obtain rfl := Option.some.inj (gTzType.symm.trans ht')
  rw [laid_tz] at hd
  have h3 := Lib.cells_of_tab Tryz.underlying258 Tryz.underlying5 cellsByte cellsTz hd
  show _ = _
  rw [World.var?_cell gTz hvar 15, ← Array.getElem?_toList, h3]
  rfl

end Go.Proofs.YtkcnageeamappabGreatDoor
/-
  Plain mathematics on addresses of known making: small words, paths of them, dots; no program is named here.
-/
namespace Go.Moor
open Go

/-- A small letter. -/
def smallB (c : UInt8) : Prop := 97 ≤ c.toNat ∧ c.toNat ≤ 122
/-- A word: one small letter at least. -/
def wordB (l : Bs) : Prop := l ≠ [] ∧ ∀ c ∈ l, smallB c

theorem small_fin (c : UInt8) (h : smallB c) : ∃ k : Fin 26, c = (97 + k.val).toUInt8 := by
  obtain ⟨h1, h2⟩ := h
  refine ⟨⟨c.toNat - 97, by omega⟩, ?_⟩
  apply UInt8.toNat_inj.1
  show c.toNat = (UInt8.ofNat (97 + (c.toNat - 97))).toNat
  rw [UInt8.toNat_ofNat']
  omega
theorem small_holds : ∀ (s : Fin 7) (k : Fin 26), holdsB (s.val : Int) ((97 + k.val).toUInt8.toNat : Int) = false := by decide +kernel
theorem small_out (c : UInt8) (h : smallB c) (s : Nat) (hs : s < 7) : holdsB (s : Int) c.toNat = false := by
  obtain ⟨k, rfl⟩ := small_fin c h
  exact small_holds ⟨s, hs⟩ k

theorem esc_same (s : Int) : ∀ l : Bs, (∀ c ∈ l, holdsB s c.toNat = false) → esc s l = l
  | [], _ => rfl
  | c :: l, h => by
    have ih := esc_same s l (fun x hx => h x (by simp [hx]))
    have e : esc s (c :: l) = escB s c ++ esc s l := rfl
    rw [e, ih, escB, h c (by simp)]
    rfl
theorem esc_word (s : Nat) (hs : s < 7) (l : Bs) (h : wordB l) : esc (s : Int) l = l := esc_same _ l fun c hc => small_out c (h.2 c hc) s hs

theorem lowDots_same : ∀ l : Bs, (∀ c ∈ l, c ≠ 37) → lowDots l = l
  | [], _ => rfl
  | c :: l, h => by
    have ih := lowDots_same l (fun x hx => h x (by simp [hx]))
    unfold lowDots
    split
    · rename_i heq
      cases heq
      exact absurd rfl (h 37 (by simp))
    · rename_i heq
      cases heq
      rw [ih]
    · rename_i heq
      cases heq
theorem small_ne (c : UInt8) (h : smallB c) (k : Nat) (hk : k < 97 ∨ 122 < k) (hk2 : k < 256) : c ≠ k.toUInt8 := by
  intro e
  rw [e] at h
  have : (k.toUInt8).toNat = k := by rw [show k.toUInt8.toNat = k % 256 from rfl]; omega
  obtain ⟨h1, h2⟩ := h
  omega
theorem dots_word (l : Bs) (h : wordB l) : dots l = 0 := by
  have h37 : ∀ c ∈ l, c ≠ 37 := fun c hc => small_ne c (h.2 c hc) 37 (by omega) (by omega)
  have hd : ∀ c ∈ l, c ≠ 46 := fun c hc => small_ne c (h.2 c hc) 46 (by omega) (by omega)
  unfold dots
  rw [lowDots_same l h37]
  match l, h.1 with
  | c :: r, _ =>
    have h1 := h37 c (by simp)
    have h2 := hd c (by simp)
    simp [h1, h2]
theorem drive_word (l : Bs) (h : wordB l) : isDrive l = false := by
  unfold isDrive
  split
  · rename_i a b
    have h1 : b ≠ 58 := small_ne b (h.2 b (by simp)) 58 (by omega) (by omega)
    have h2 : b ≠ 124 := small_ne b (h.2 b (by simp)) 124 (by omega) (by omega)
    simp [h1, h2]
  · rfl

-- paths
theorem splitOn_tell : ∀ (l : List Bs) (x : Bs), (∀ c ∈ x, c ≠ 47) → (∀ p ∈ l, ∀ c ∈ p, c ≠ 47) → splitOn 47 (x ++ tellSegs l) = x :: l
  | [], x, hx, _ => by
    show splitOn 47 (x ++ []) = [x]
    rw [List.append_nil, splitOn_miss 47 x hx]
  | p :: l, x, hx, hl => by
    show splitOn 47 (x ++ 47 :: (p ++ tellSegs l)) = _
    rw [splitOn_hit 47 _ x hx, splitOn_tell l p (hl p (by simp)) (fun q hq => hl q (by simp [hq]))]
theorem tellSegs_app (a b : List Bs) : tellSegs (a ++ b) = tellSegs a ++ tellSegs b := by
  unfold tellSegs
  rw [List.flatMap_append]

/-- A segment that comes as it is written. -/
def stays (s p : Bs) : Prop := dots p = 0 ∧ esc 4 p = p ∧ (s = sFile → isDrive p = false)
theorem stays_word (s p : Bs) (h : wordB p) : stays s p := ⟨dots_word p h, esc_word 4 (by omega) p h, fun _ => drive_word p h⟩
theorem tellSeg_stays (s p : Bs) (f : Bool) (h : stays s p) : tellSeg s p f = p := by
  unfold tellSeg
  by_cases hs : s = sFile
  · rw [h.2.2 hs, if_neg (by simp), h.2.1]
  · rw [if_neg (by simp [hs]), h.2.1]
theorem segLoop_stays (s : Bs) (r : List Bs) : ∀ (ps segs : List Bs), (∀ p ∈ ps, stays s p) → segLoop s segs (ps ++ r) = segLoop s (segs ++ ps) r
  | [], segs, _ => by rw [List.append_nil]; rfl
  | p :: ps, segs, h => by
    have hp := h p (by simp)
    show segLoop s segs (p :: (ps ++ r)) = _
    rw [segLoop, if_pos hp.1, tellSeg_stays s p _ hp, segLoop_stays s r ps _ (fun x hx => h x (by simp [hx])), List.append_assoc]
    rfl
theorem segLoop_up (s p : Bs) (hp : dots p = 2) (r : List Bs) (hr : r ≠ []) (segs : List Bs) : segLoop s segs (p :: r) = segLoop s (withoutLast s segs) r := by
  rw [segLoop, if_neg (by omega), if_pos hp]
  cases r with
  | nil => exact absurd rfl hr
  | cons x r => simp
theorem segLoop_here (s p : Bs) (hp : dots p = 1) (r : List Bs) (hr : r ≠ []) (segs : List Bs) : segLoop s segs (p :: r) = segLoop s segs r := by
  rw [segLoop, if_neg (by omega), if_neg (by omega)]
  cases r with
  | nil => exact absurd rfl hr
  | cons x r => simp
theorem withoutLast_plain (s : Bs) (hs : s ≠ sFile) (segs : List Bs) : withoutLast s segs = segs.dropLast := by
  unfold withoutLast
  rw [if_neg (by simp [hs])]

-- what has no marks
theorem cutB_none (c : UInt8) : ∀ l : Bs, (∀ x ∈ l, x ≠ c) → cutB c l = none
  | [], _ => rfl
  | b :: l, h => by
    rw [cutB, if_neg (h b (by simp)), cutB_none c l (fun x hx => h x (by simp [hx]))]
    rfl
theorem cutB_some (c : UInt8) (r : Bs) : ∀ p : Bs, (∀ x ∈ p, x ≠ c) → cutB c (p ++ c :: r) = some (p, r)
  | [], _ => by simp [cutB]
  | b :: p, h => by
    show cutB c (b :: (p ++ c :: r)) = _
    rw [cutB, if_neg (h b (by simp)), cutB_some c r p (fun x hx => h x (by simp [hx]))]
    rfl
theorem strip_same (l : Bs) (h : ∀ c ∈ l, 33 ≤ c.toNat) : stripB l = l := by
  have hd : ∀ l : Bs, (∀ c ∈ l, 33 ≤ c.toNat) → l.dropWhile blankB = l := by
    intro l h
    cases l with
    | nil => rfl
    | cons c l => rw [List.dropWhile_cons_of_neg (by have := h c (by simp); simp [blankB]; omega)]
  unfold stripB trimB
  rw [hd l h, hd l.reverse (fun c hc => h c (by simpa using hc)), List.reverse_reverse, List.filter_eq_self]
  intro c hc
  have := h c hc
  have e : ∀ k : Nat, k < 33 → c ≠ k.toUInt8 := by
    intro k hk e
    rw [e] at this
    have : (k.toUInt8).toNat = k := by rw [show k.toUInt8.toNat = k % 256 from rfl]; omega
    omega
  have e9 : c ≠ 9 := e 9 (by omega)
  have e10 : c ≠ 10 := e 10 (by omega)
  have e13 : c ≠ 13 := e 13 (by omega)
  simp [breakB, e9, e10, e13]
theorem even_same (s t : Bs) (h : ∀ c ∈ t, c ≠ 92) : evenSlashes s t = t := by
  unfold evenSlashes
  split
  · exact (List.map_congr_left (g := id) (fun c hc => if_neg (h c hc))).trans (List.map_id t)
  · rfl
theorem cutSlash_at (x r : Bs) (h : ∀ c ∈ x, c ≠ 47) : cutSlash (x ++ 47 :: r) = (x, 47 :: r) := by
  unfold cutSlash
  rw [List.takeWhile_append_of_pos (by simpa using h), List.dropWhile_append_of_pos (by simpa using h)]
  simp
theorem cutSlash_none (x : Bs) (h : ∀ c ∈ x, c ≠ 47) : cutSlash x = (x, []) := by
  unfold cutSlash
  have e1 := List.takeWhile_append_of_pos (p := fun c : UInt8 => decide (c ≠ 47)) (l₁ := x) (l₂ := []) (by simpa using h)
  have e2 := List.dropWhile_append_of_pos (p := fun c : UInt8 => decide (c ≠ 47)) (l₁ := x) (l₂ := []) (by simpa using h)
  simp only [List.append_nil, List.takeWhile_nil, List.dropWhile_nil] at e1 e2
  rw [e1, e2]
end Go.Moor
/-
  What moorkeep.number and moorkeep.dotted answer.
-/
namespace Go.Proofs
open Go.RowKit Go.Moor

theorem app4 (a b c d : List UInt8) : ((((((⟨a.toArray⟩ ++ ⟨[46].toArray⟩ : ByteArray) ++ ⟨b.toArray⟩) ++ ⟨[46].toArray⟩) ++ ⟨c.toArray⟩) ++ ⟨[46].toArray⟩) ++ ⟨d.toArray⟩ : ByteArray) = ⟨(joinDots [a, b, c, d]).toArray⟩ := by
  simp only [app_mk, joinDots, List.append_assoc, List.cons_append, List.nil_append]
theorem app3 (a b d : List UInt8) : ((((⟨a.toArray⟩ ++ ⟨[46].toArray⟩ : ByteArray) ++ ⟨b.toArray⟩) ++ ⟨[46].toArray⟩) ++ ⟨d.toArray⟩ : ByteArray) = ⟨(joinDots [a, b, d]).toArray⟩ := by
  simp only [app_mk, joinDots, List.append_assoc, List.cons_append, List.nil_append]
theorem app2 (a d : List UInt8) : ((⟨a.toArray⟩ ++ ⟨[46].toArray⟩ : ByteArray) ++ ⟨d.toArray⟩ : ByteArray) = ⟨(joinDots [a, d]).toArray⟩ := by
  simp only [app_mk, joinDots, List.append_assoc, List.cons_append, List.nil_append]

theorem dotted_tell (n : Nat) : joinDots [digsF 10 31 (n / 16777216 % 256), digsF 10 31 (n / 65536 % 256), digsF 10 31 (n / 256 % 256), digsF 10 31 (n % 256)] = tell4 n := by
  have h : ∀ m : Nat, m < 256 → digsF 10 31 m = Lib.decDigits m := fun m hm => digs_dec 31 m (Nat.lt_of_lt_of_le (by omega) (pow_big 10 (by omega)))
  rw [h _ (by omega), h _ (by omega), h _ (by omega), h _ (by omega), tell4_eq]
  have e0 : byte4 n 0 = n / 16777216 % 256 := rfl
  have e1 : byte4 n 1 = n / 65536 % 256 := rfl
  have e2 : byte4 n 2 = n / 256 % 256 := rfl
  have e3 : byte4 n 3 = n % 256 := by show n / 1 % 256 = _; rw [Nat.div_one]
  rw [e0, e1, e2, e3]
  rfl

end Go.Proofs
/-
  What pick, word, path, told, refused of package moorkeep answer.
-/
namespace Go.Proofs
open Go.RowKit Go.Moor

/-- A number below N out of any. -/
def pickN (c N : Int) : Nat := ((if c < 0 then -(c + 1) else c) % N).toNat
theorem pickN_lt (c N : Int) (h : 0 < N) : (pickN c N : Int) < N := by
  unfold pickN
  have h1 : 0 ≤ (if c < 0 then -(c + 1) else c) % N := Int.emod_nonneg _ (by omega)
  have h2 : (if c < 0 then -(c + 1) else c) % N < N := Int.emod_lt_of_pos _ h
  omega
set_option maxHeartbeats 400000 in
theorem Tryz.pick_fun (c N : Int) (w : World) (h0 : -(2 ^ 63) ≤ c) (h1 : c < 2 ^ 63) (hN0 : 0 < N) (hN1 : N ≤ 2000000000000) :
    Calls Tryz.prog 4 #[.int .i64 c, .int .i64 N] w fun e w' => e = .returned (.int .i64 (pickN c N)) ∧ w' = w := by
  by_cases h : c < 0
  · have HE : Hid (((pickN c N : Nat) : Int) = (-(c + 1)) % N) := by
      show _ = _
      unfold pickN
      rw [if_pos h, Int.toNat_of_nonneg (Int.emod_nonneg _ (by omega))]
    go_enter Tryz.func4, Tryz.ntmps4
    go_wp2
    go_ret
    have e : -(c + 1).tmod N = (-(c + 1)) % N := by
      rw [← Int.tmod_eq_emod_of_nonneg (by omega), Int.neg_tmod]
    refine ⟨?_, rfl⟩
    show Ending.returned (.int .i64 (-(c + 1).tmod N)) = _
    rw [e, HE.out]
  · have HE : Hid (((pickN c N : Nat) : Int) = c % N) := by
      show _ = _
      unfold pickN
      rw [if_neg h, Int.toNat_of_nonneg (Int.emod_nonneg _ (by omega))]
    go_enter Tryz.func4, Tryz.ntmps4
    go_wp2
    go_ret
    refine ⟨?_, rfl⟩
    show Ending.returned (.int .i64 (c % N)) = _
    rw [HE.out]

theorem tdiv_range (a : Int) (h0 : -(2 ^ 63) ≤ a) (h1 : a < 2 ^ 63) (k : Int) (hk : 1 < k) : -(2 ^ 62) ≤ a.tdiv k ∧ a.tdiv k ≤ 2 ^ 62 := by
  by_cases h : 0 ≤ a
  · rw [Int.tdiv_eq_ediv_of_nonneg h]
    have h2 : a / k ≤ a / 2 := by
      have : a / k * 2 ≤ a / k * k := Int.mul_le_mul_of_nonneg_left (by omega) (Int.ediv_nonneg h (by omega))
      have h3 := Int.ediv_mul_le a (show k ≠ 0 by omega)
      omega
    have h4 := Int.ediv_nonneg h (show 0 ≤ k by omega)
    omega
  · have e : a.tdiv k = -((-a) / k) := by
      rw [← Int.tdiv_eq_ediv_of_nonneg (by omega), Int.neg_tdiv, Int.neg_neg]
    have h2 : (-a) / k ≤ (-a) / 2 := by
      have : (-a) / k * 2 ≤ (-a) / k * k := Int.mul_le_mul_of_nonneg_left (by omega) (Int.ediv_nonneg (by omega) (by omega))
      have h3 := Int.ediv_mul_le (-a) (show k ≠ 0 by omega)
      omega
    have h4 := Int.ediv_nonneg (show 0 ≤ -a by omega) (show 0 ≤ k by omega)
    rw [e]
    omega
theorem small_mod (k : Nat) : smallB (97 + k % 26).toUInt8 := by
  have h : (97 + k % 26).toUInt8.toNat = 97 + k % 26 := by
    show (97 + k % 26) % 256 = _
    omega
  unfold smallB
  omega
end Go.Proofs
/-
  What path, words, told, refused of package moorkeep answer.
-/
namespace Go.Proofs
open Go.RowKit Go.Moor

set_option maxHeartbeats 4000000 in
theorem Tryz.told_any (t b want : Bs) (w : World) (ht : t.length ≤ 100000) (hb : b.length ≤ 100000) (henv : Tryz.Env2 w) (hp : parse hostTell t b = .ok want) :
    Calls Tryz.prog 25 #[.string ⟨t.toArray⟩, .string ⟨b.toArray⟩, .string ⟨want.toArray⟩] w fun e w' => e = .returned (.bool true) ∧ Below w.heap.size w w' := by
  have HP : Hid (Calls Tryz.prog 13 #[.string ⟨t.toArray⟩, .string ⟨b.toArray⟩] w fun e w' => e = .returned (.tuple #[.string ⟨want.toArray⟩, .int .i64 0]) ∧ Below w.heap.size w w') := by
    have h := Tryz.Parse_any t b w (by unfold maxLen; omega) (by unfold maxLen; omega) henv
    rw [hp] at h
    exact h
  clear ht hb henv hp
  generalize (⟨t.toArray⟩ : ByteArray) = x at *
  generalize (⟨b.toArray⟩ : ByteArray) = y at *
  generalize (⟨want.toArray⟩ : ByteArray) = z at *
  go_enter Tryz.func25, Tryz.ntmps25
  go_wp2_with fail
  refine HP.out.mono ?_
  rintro e w1 ⟨rfl, b1⟩
  go_wp2_with fail
  go_ret
  exact ⟨rfl, b1⟩

set_option maxHeartbeats 4000000 in
theorem Tryz.refused_any (t b : Bs) (n : Int) (w : World) (ht : t.length ≤ 100000) (hb : b.length ≤ 100000) (henv : Tryz.Env2 w) (hp : parse hostTell t b = .error n) :
    Calls Tryz.prog 5 #[.string ⟨t.toArray⟩, .string ⟨b.toArray⟩, .int .i64 n] w fun e w' => e = .returned (.bool true) ∧ Below w.heap.size w w' := by
  have HP : Hid (Calls Tryz.prog 13 #[.string ⟨t.toArray⟩, .string ⟨b.toArray⟩] w fun e w' => e = .returned (.tuple #[.string ⟨#[]⟩, .int .i64 n]) ∧ Below w.heap.size w w') := by
    have h := Tryz.Parse_any t b w (by unfold maxLen; omega) (by unfold maxLen; omega) henv
    rw [hp] at h
    exact h
  have e0 := empty_yes
  clear ht hb henv hp
  generalize (⟨t.toArray⟩ : ByteArray) = x at *
  generalize (⟨b.toArray⟩ : ByteArray) = y at *
  go_enter Tryz.func5, Tryz.ntmps5
  go_wp2_with fail
  refine HP.out.mono ?_
  rintro e w1 ⟨rfl, b1⟩
  go_wp2_with fail
  go_ret
  exact ⟨rfl, b1⟩

/-- A row of numbers that can be read. -/
def IntRow (w : World) (sp : Option Go.Addr) (xs : List Int) : Prop := ∀ (j : Nat) x, xs[j]? = some x → ∃ a0 : Go.Addr, sp = some a0 ∧ a0.block < w.heap.size ∧ w.cell? (a0.add j) = some (.int .i64 x)
theorem IntRow.below {w w' : World} {sp : Option Go.Addr} {xs : List Int} (h : IntRow w sp xs) (hb : Below w.heap.size w w') : IntRow w' sp xs := by
  intro j x hj
  obtain ⟨a0, h1, h2, h3⟩ := h j x hj
  refine ⟨a0, h1, Nat.lt_of_lt_of_le h2 hb.size, ?_⟩
  rw [← h3]
  exact hb.cell (p := a0.add j) (by rw [show (a0.add j).block = a0.block by unfold Go.Addr.add; split <;> rfl]; exact h2)
end Go.Proofs
/-
  What a row's list gives of all that the walks of addresses ask of the variables; how arguments are opened and shut.
-/
namespace Go.Proofs.YtkcnageeamappabGreatDoor
open Go.ChangeShapes Go.WideShapes Go.ChangeAt Go.RowKit Go.Moor

theorem gFirst : Tryz.prog.globalNamed "unicode/utf8.first" = some 17 := by kernel_rfl
theorem gAcc : Tryz.prog.globalNamed "unicode/utf8.acceptRanges" = some 18 := by kernel_rfl
theorem gFirstType : (Tryz.prog.globals[17]?).map (·.type) = some 233 := by kernel_rfl
theorem gAccType : (Tryz.prog.globals[18]?).map (·.type) = some 236 := by kernel_rfl
theorem cellsFirst : Tryz.prog.cellsOf 233 = 256 := by kernel_rfl
theorem cellsAcc : Tryz.prog.cellsOf 235 = 2 := by kernel_rfl
theorem laid_first : (Rows.laid_unicode_utf8_first : DataW Unit) = Lib.firstData := by kernel_rfl
theorem laid_accept : (Rows.laid_unicode_utf8_acceptRanges : DataW Unit) = Lib.acceptData := by kernel_rfl
theorem u8_of_reads {w : World} (h3 : Lib.VarReads Tryz.prog w "unicode/utf8.first" Rows.laid_unicode_utf8_first) (h4 : Lib.VarReads Tryz.prog w "unicode/utf8.acceptRanges" Rows.laid_unicode_utf8_acceptRanges) : Lib.Utf8Tabs 17 18 w := by
  rw [laid_first] at h3
  rw [laid_accept] at h4
  refine ⟨fun c hc => ?_, fun i hi => ?_⟩
  · obtain ⟨g, t, cs, fuel, p, hg, hty, hvar, hd⟩ := h3
    obtain rfl := Option.some.inj (gFirst.symm.trans hg)
    obtain rfl := Option.some.inj (gFirstType.symm.trans hty)
    have hcs := Lib.cells_of_tab Tryz.underlying233 Tryz.underlying5 cellsByte cellsFirst hd
    have := World.var?_cell hg hvar c
    rw [this, ← Array.getElem?_toList, hcs]
    simp [Lib.firstTab, hc]
  · obtain ⟨g, t, cs, fuel, p, hg, hty, hvar, hd⟩ := h4
    obtain rfl := Option.some.inj (gAcc.symm.trans hg)
    obtain rfl := Option.some.inj (gAccType.symm.trans hty)
    obtain ⟨fuel', d, q, hdi, he⟩ := Lib.array_elem Tryz.underlying236 hd i hi
    simp only [List.getElem?_map, List.getElem?_range hi, Option.map_some, Option.some.injEq] at hdi
    subst hdi
    rw [cellsAcc] at he
    have hcs := Lib.ints_of_struct Tryz.underlying235 (fun j f hj => by
      match j, hj with
      | 0, hj => simp at hj; subst hj; exact ⟨Tryz.underlying5, rfl, cellsByte⟩
      | 1, hj => simp at hj; subst hj; exact ⟨Tryz.underlying5, rfl, cellsByte⟩
      | j + 2, hj => simp at hj) (by rw [cellsAcc]; rfl) he
    have e0 := congrArg (·[0]?) hcs
    have e1 := congrArg (·[1]?) hcs
    simp only [List.getElem?_take, List.getElem?_drop] at e0 e1
    constructor
    · rw [World.var?_cell hg hvar (2 * i), ← Array.getElem?_toList]
      simpa [Nat.mul_comm] using e0
    · rw [World.var?_cell hg hvar (2 * i + 1), ← Array.getElem?_toList]
      simpa [Nat.mul_comm] using e1

/-- What every list of an address's law holds beside the handle. -/
def needLaid : List (String × DataW Unit) := [("strconv.ErrRange", Rows.laid_strconv_ErrRange), ("strconv.ErrSyntax", Rows.laid_strconv_ErrSyntax), ("moor/address.errNoBase", Rows.laid_moor_address_errNoBase), ("moor/address.errOpaqueBase", Rows.laid_moor_address_errOpaqueBase), ("moor/address.errNoHost", Rows.laid_moor_address_errNoHost)]

theorem env2_of_reads {W : World} (hp : ∀ x ∈ plainLaid, Lib.VarReads Tryz.prog W x.1 x.2) (hq : ∀ x ∈ needLaid, Lib.VarReads Tryz.prog W x.1 x.2) (hh : handlesMet Tryz.prog [("errors.errorType", Rows.laid_errors_errorType)] W) (hsh : W.ShapedOpen Tryz.prog) : Tryz.Env2 W := by
  have h : Tryz.Env W := ⟨size_of_shape hsh, sets_of_reads (hp ("moor/escape.sets", _) (by simp [plainLaid]; rfl)), maxLen_of_shape hsh,
    err_of_reads (by kernel_rfl) (by kernel_rfl) (hp ("moor/host.errEmpty", _) (by simp [plainLaid]; rfl)), err_of_reads (by kernel_rfl) (by kernel_rfl) (hp ("moor/host.errBracket", _) (by simp [plainLaid]; rfl)),
    err_of_reads (by kernel_rfl) (by kernel_rfl) (hp ("moor/host.errCount", _) (by simp [plainLaid]; rfl)), err_of_reads (by kernel_rfl) (by kernel_rfl) (hp ("moor/host.errLength", _) (by simp [plainLaid]; rfl)),
    err_of_reads (by kernel_rfl) (by kernel_rfl) (hp ("moor/host.errNought", _) (by simp [plainLaid]; rfl)), err_of_reads (by kernel_rfl) (by kernel_rfl) (hp ("moor/host.errTooGreat", _) (by simp [plainLaid]; rfl)),
    pow_of_reads (hp ("internal/strconv.uint64pow10", _) (by simp [plainLaid]; rfl)), handle_of_met hh⟩
  exact ⟨h, tz_of_reads (hp ("math/bits.deBruijn64tab", _) (by simp [plainLaid]; rfl)), u8_of_reads (hp ("unicode/utf8.first", _) (by simp [plainLaid]; rfl)) (hp ("unicode/utf8.acceptRanges", _) (by simp [plainLaid]; rfl)),
    err_of_reads (by kernel_rfl) (by kernel_rfl) (hq ("moor/address.errNoBase", _) (by simp [needLaid]; rfl)), err_of_reads (by kernel_rfl) (by kernel_rfl) (hq ("moor/address.errOpaqueBase", _) (by simp [needLaid]; rfl)),
    err_of_reads (by kernel_rfl) (by kernel_rfl) (hq ("moor/address.errNoHost", _) (by simp [needLaid]; rfl)), err_of_reads (by kernel_rfl) (by kernel_rfl) (hq ("strconv.ErrSyntax", _) (by simp [needLaid]; rfl)), err_of_reads (by kernel_rfl) (by kernel_rfl) (hq ("strconv.ErrRange", _) (by simp [needLaid]; rfl))⟩

theorem int_in {n : Int} (wn : (Lit.int .i64 n).wf = true) : -(2 ^ 63) ≤ n ∧ n < 2 ^ 63 := by
  have := bounds_i64 wn
  omega
theorem cell_in {w : World} {a : Go.Addr} {v : Value} (h : w.cell? a = some v) : a.block < w.heap.size := by
  first | exact block_lt_of_cell h | exact World.block_lt_of_cell? w a h | exact World.block_lt_of_cell? w h
theorem cellsInt1 : Tryz.prog.cellsOf 3 = 1 := by kernel_rfl

end Go.Proofs.YtkcnageeamappabGreatDoor
