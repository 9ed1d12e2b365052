/-
  What moor.Host answers where the host is special and does not open with a bracket: the host, told, and no error; an empty text and the error of hosts; of a text that is too long the error of long texts.
-/
import Derived.Test.YtkcnageeamappaaGreatDoorJAs2
import Derived.Test.YtkcnageeamappaaGreatDoorRows
import Derived.ProofKit
import Derived.OpenShut
import Derived.Lib.LaidU8
import Derived.Lib.LaidTab
import Derived.Lay
import Derived.LaidHandle
import Derived.Shelf.Vars
namespace Go.Proofs
open Go.RowKit Go.Moor

set_option maxHeartbeats 1000000 in
theorem Tryz.errnoOf_nil (w : World) : Calls Tryz.prog 33 #[.nilIface] w fun e w' => e = .returned (.int .i64 0) ∧ Below w.heap.size w w' := by
  go_enter Tryz.func33, Tryz.ntmps33
  go_wp2_with (go_at_call 56; refine (Tryz.as_nil _ _).mono ?_; rintro e w' ⟨rfl, rfl⟩)
  go_ret
  exact ⟨rfl, (Below.refl _ _).alloc (Nat.le_refl _) _⟩

set_option maxHeartbeats 1000000 in
theorem Tryz.errnoOf_fault (n : Int) (x y : ByteArray) (t : TypeId) (v : Value) (w : World) (henv : Tryz.Env w) : Calls Tryz.prog 33 #[.iface 96 (.agg #[.int .i64 n, .string x, .string y, .iface t v])] w fun e w' => e = .returned (.int .i64 n) ∧ Below w.heap.size w w' := by
  have HV : Hid (Tryz.Env (w.alloc (.cells #[.int .i64 0, .string ⟨#[]⟩, .string ⟨#[]⟩, .nilIface] 96))) := henv.below ((Below.refl _ _).alloc (Nat.le_refl _) _)
  have hgz := henv.size
  have HC : Hid (Calls Tryz.prog 56 #[.iface 96 (.agg #[.int .i64 n, .string x, .string y, .iface t v]), .iface 98 (.pointer (some ⟨w.heap.size, 0, none⟩))] (w.alloc (.cells #[.int .i64 0, .string ⟨#[]⟩, .string ⟨#[]⟩, .nilIface] 96)) fun ev w' => ev = .returned (.bool true) ∧ w'.cell? ⟨w.heap.size, 0, none⟩ = some (.int .i64 n) ∧ Below w.heap.size (w.alloc (.cells #[.int .i64 0, .string ⟨#[]⟩, .string ⟨#[]⟩, .nilIface] 96)) w') :=
    Tryz.as_hit w.heap.size n x y ⟨#[]⟩ ⟨#[]⟩ t v .nilIface 0 _ HV.out.errType (by first | (simp; done) | (simp; omega)) (by simp) (by simp) (by simp) (by simp) (by simp) (by simp) (by simp) (by simp) (by simp)
  clear henv hgz
  go_enter Tryz.func33, Tryz.ntmps33
  go_wp2_with (go_at_call 56; refine HC.out.mono ?_)
  rintro e W1 ⟨rfl, hc, hb⟩
  go_wp2
  go_ret
  exact ⟨rfl, ((Below.refl _ _).alloc (Nat.le_refl _) _).trans hb⟩

set_option maxHeartbeats 1000000 in
theorem Tryz.tell_special (s : ByteArray) (w : World) (hs : s.size < 4294967281) (hpf : Lib.hasPrefix s.data.toList (⟨#[91]⟩ : ByteArray).data.toList = false) (henv : Tryz.Env w) :
    Calls Tryz.prog 55 #[.string s, .bool true] w fun e w' => StrRes (hostSpecial (unesc s.data.toList)) e ∧ Below w.heap.size w w' := by
  obtain ⟨m, hm⟩ := henv.maxLen
  have hz := henv.size
  have HV : Hid (Tryz.Env w) := henv
  have HM : Hid (w.cell? ⟨16, 0, none⟩ = some (.int .i64 m)) := hm
  have HP : Hid (Lib.hasPrefix s.data.toList (⟨#[91]⟩ : ByteArray).data.toList = false) := hpf
  have hul : (unesc s.data.toList).length ≤ s.size := by
    have := unesc_len s.data.toList.length s.data.toList (Nat.le_refl _)
    simpa using this
  clear henv hm hpf
  go_enter Tryz.func55, Tryz.ntmps55
  go_wp2_with (go_at_call 82; refine (Tryz.prefix_no _ _ _ HP.out).mono ?_; rintro e w' ⟨rfl, rfl⟩)
  refine (Tryz.undo_any s m _ hs HM.out (by omega)).mono ?_
  rintro e W1 ⟨rfl, b1⟩
  have HV1 : Hid (Tryz.Env W1) := HV.out.below b1
  have HC : Hid (Calls Tryz.prog 84 #[.string ⟨(unesc s.data.toList).toArray⟩] W1 fun e w' => StrRes (hostSpecial (unesc s.data.toList)) e ∧ Below W1.heap.size W1 w') :=
    Tryz.tellSpecial_any ⟨(unesc s.data.toList).toArray⟩ W1 (by rw [size_mk]; omega) HV1.out
  cases ho : hostSpecial (unesc s.data.toList) with
  | none =>
    have HO : Hid (hostSpecial (unesc s.data.toList) = none) := ho
    clear ho
    go_wp2_with fail
    refine HC.out.mono ?_
    rw [HO.out]
    rintro e W2 ⟨⟨te, ve, rfl⟩, b2⟩
    go_wp2
    go_ret2
    rw [HO.out]
    exact ⟨⟨_, _, rfl⟩, b1.trans (b2.mono b1.size)⟩
  | some l =>
    have HO : Hid (hostSpecial (unesc s.data.toList) = some l) := ho
    clear ho
    go_wp2_with fail
    refine HC.out.mono ?_
    rw [HO.out]
    rintro e W2 ⟨rfl, b2⟩
    go_wp2
    go_ret2
    rw [HO.out]
    exact ⟨rfl, b1.trans (b2.mono b1.size)⟩

/-- A text and no error, or an empty text and a fault with the number of hosts. -/
def Tryz.TellRes (s : ByteArray) (o : Option (List UInt8)) (e : Ending) : Prop :=
  match o with
  | some l => e = .returned (.tuple #[.string ⟨l.toArray⟩, .nilIface])
  | none => ∃ t v, e = .returned (.tuple #[.string ⟨#[]⟩, .iface 96 (.agg #[.int .i64 4, .string ⟨#[104, 111, 115, 116]⟩, .string s, .iface t v])])

set_option maxHeartbeats 1000000 in
theorem Tryz.Tell_of (s : ByteArray) (sp : Bool) (o : Option (List UInt8)) (w : World)
    (ht : Calls Tryz.prog 55 #[.string s, .bool sp] w fun e w' => StrRes o e ∧ Below w.heap.size w w') :
    Calls Tryz.prog 32 #[.string s, .bool sp] w fun e w' => Tryz.TellRes s o e ∧ Below w.heap.size w w' := by
  have HT : Hid (Calls Tryz.prog 55 #[.string s, .bool sp] w fun e w' => StrRes o e ∧ Below w.heap.size w w') := ht
  clear ht
  cases ho : o with
  | none =>
    subst ho
    go_enter Tryz.func32, Tryz.ntmps32
    go_wp2_with fail
    refine HT.out.mono ?_
    rintro e W2 ⟨⟨te, ve, rfl⟩, b2⟩
    go_wp2
    go_ret2
    exact ⟨⟨_, _, rfl⟩, b2⟩
  | some l =>
    subst ho
    go_enter Tryz.func32, Tryz.ntmps32
    go_wp2_with fail
    refine HT.out.mono ?_
    rintro e W2 ⟨rfl, b2⟩
    go_wp2
    go_ret2
    exact ⟨rfl, b2⟩

/-- What Host hands back: the host told and OK, or an empty text and ErrHost. -/
def HostRes (o : Option (List UInt8)) : Ending :=
  match o with
  | some l => .returned (.tuple #[.string ⟨l.toArray⟩, .int .i64 0])
  | none => .returned (.tuple #[.string ⟨#[]⟩, .int .i64 4])

theorem Tryz.isLong_no (s : ByteArray) (w : World) (hs : s.size ≤ 2000) : Calls Tryz.prog 31 #[.string s] w fun e w' => e = .returned (.bool false) ∧ w' = w := by
  go_enter Tryz.func31, Tryz.ntmps31
  go_wp2
  go_ret
  refine ⟨?_, rfl⟩
  simp
  omega
theorem Tryz.isLong_yes (s : ByteArray) (w : World) (hs : 2000 < s.size) (hm : s.size ≤ maxLen) : Calls Tryz.prog 31 #[.string s] w fun e w' => e = .returned (.bool true) ∧ w' = w := by
  unfold maxLen at hm
  go_enter Tryz.func31, Tryz.ntmps31
  go_wp2
  go_ret
  refine ⟨?_, rfl⟩
  simp
  omega

set_option maxHeartbeats 1000000 in
theorem Tryz.Host_of (s : ByteArray) (sp : Bool) (o : Option (List UInt8)) (w : World) (henv : Tryz.Env w) (hs : s.size ≤ 2000)
    (ht : Calls Tryz.prog 55 #[.string s, .bool sp] w fun e w' => StrRes o e ∧ Below w.heap.size w w') :
    Calls Tryz.prog 18 #[.string s, .bool sp] w fun e w' => e = HostRes o ∧ Below w.heap.size w w' := by
  have HT : Hid (Calls Tryz.prog 32 #[.string s, .bool sp] w fun e w' => Tryz.TellRes s o e ∧ Below w.heap.size w w') := Tryz.Tell_of s sp o w ht
  have HV : Hid (Tryz.Env w) := henv
  clear ht henv
  cases ho : o with
  | none =>
    subst ho
    go_enter Tryz.func18, Tryz.ntmps18
    go_wp2_with fail
    refine (Tryz.isLong_no s w hs).mono ?_
    rintro e W0 ⟨rfl, hw0⟩
    have hw0 := hw0.symm
    subst hw0
    go_wp2_with fail
    refine HT.out.mono ?_
    rintro e W2 ⟨⟨te, ve, rfl⟩, b2⟩
    have HV2 : Hid (Tryz.Env W2) := HV.out.below b2
    go_wp2_with fail
    refine (Tryz.errnoOf_fault 4 _ _ te ve _ HV2.out).mono ?_
    rintro e W3 ⟨rfl, b3⟩
    go_wp2
    go_ret2
    exact ⟨rfl, b2.trans (b3.mono b2.size)⟩
  | some l =>
    subst ho
    go_enter Tryz.func18, Tryz.ntmps18
    go_wp2_with fail
    refine (Tryz.isLong_no s w hs).mono ?_
    rintro e W0 ⟨rfl, hw0⟩
    have hw0 := hw0.symm
    subst hw0
    go_wp2_with fail
    refine HT.out.mono ?_
    rintro e W2 ⟨rfl, b2⟩
    go_wp2_with fail
    refine (Tryz.errnoOf_nil _).mono ?_
    rintro e W3 ⟨rfl, b3⟩
    go_wp2
    go_ret2
    exact ⟨rfl, b2.trans (b3.mono b2.size)⟩

set_option maxHeartbeats 1000000 in
theorem Tryz.Host_long (s : ByteArray) (sp : Bool) (w : World) (hs : 2000 < s.size) (hm : s.size ≤ maxLen) :
    Calls Tryz.prog 18 #[.string s, .bool sp] w fun e w' => e = .returned (.tuple #[.string ⟨#[]⟩, .int .i64 1]) ∧ w' = w := by
  go_enter Tryz.func18, Tryz.ntmps18
  go_wp2_with fail
  refine (Tryz.isLong_yes s w hs hm).mono ?_
  rintro e W0 ⟨rfl, hw0⟩
  have hw0 := hw0.symm
  subst hw0
  go_wp2
  go_ret2
  exact ⟨rfl, rfl⟩

theorem Tryz.Host_special (s : ByteArray) (w : World) (henv : Tryz.Env w) (hs : s.size ≤ 2000) (hpf : Lib.hasPrefix s.data.toList (⟨#[91]⟩ : ByteArray).data.toList = false) :
    Calls Tryz.prog 18 #[.string s, .bool true] w fun e w' => e = HostRes (hostSpecial (unesc s.data.toList)) ∧ Below w.heap.size w w' :=
  Tryz.Host_of s true _ w henv hs (Tryz.tell_special s w (by omega) hpf henv)
end Go.Proofs
/-
  What the row's list gives: the variables hold what the walks ask of them; and a world that meets the list, for the witness.
-/
namespace Go.Proofs.YtkcnageeamappaaGreatDoor
open Go.ChangeShapes Go.WideShapes Go.ChangeAt Go.RowKit Go.Moor

theorem gSets : Tryz.prog.globalNamed "moor/escape.sets" = some 13 := by kernel_rfl
theorem gSetsType : (Tryz.prog.globals[13]?).map (·.type) = some 218 := by kernel_rfl
theorem cellsRow : Tryz.prog.cellsOf 153 = 4 := by kernel_rfl
theorem cellsWord : Tryz.prog.cellsOf 151 = 1 := by kernel_rfl
theorem cellsPow : Tryz.prog.cellsOf 283 = 20 := by kernel_rfl
theorem gPowType : (Tryz.prog.globals[20]?).map (·.type) = some 283 := by kernel_rfl

def rowData {H : Type} (i : Nat) : DataW H := Lib.tabData .u64 [tabAt (i * 4), tabAt (i * 4 + 1), tabAt (i * 4 + 2), tabAt (i * 4 + 3)]
theorem laid_rows : (Rows.laid_moor_escape_sets : DataW Unit) = .agg ((List.range 7).map rowData) := by kernel_rfl
theorem laid_pow : (Rows.laid_internal_strconv_uint64pow10 : DataW Unit) = Lib.tabData .u64 Lib.pow10Tab := by kernel_rfl

theorem sets_of_reads {W : World} (h : Lib.VarReads Tryz.prog W "moor/escape.sets" Rows.laid_moor_escape_sets) : Tryz.Sets W := by
  obtain ⟨g', t', cs, fuel, p, hg', ht', hvar, hd⟩ := h
  obtain rfl := Option.some.inj (gSets.symm.trans hg')
  obtain rfl := Option.some.inj (gSetsType.symm.trans ht')
  rw [laid_rows] at hd
  obtain ⟨xs, m, rfl, hx, hcl, hxl, hall⟩ := DataW.trod_array Tryz.underlying218 hd
  have hxs : xs.map (·.1) = (List.range 7).map (rowData (H := Unit)) := by
    have := congrArg Prod.fst hx
    simpa using this.symm
  intro k hk
  have hi : k / 4 < 7 := by omega
  have h1 := hall (k / 4) hi
  have h2 : (xs.map (·.1))[k / 4]? = some (rowData (H := Unit) (k / 4)) := by rw [hxs]; simp [hi]
  rw [List.getElem?_map, Option.map_eq_some_iff] at h2
  obtain ⟨y, hy, hy1⟩ := h2
  rw [hy, cellsRow] at h1
  have h3 := Lib.cells_of_tab Tryz.underlying153 Tryz.underlying151 cellsWord cellsRow (zs := [tabAt (k / 4 * 4), tabAt (k / 4 * 4 + 1), tabAt (k / 4 * 4 + 2), tabAt (k / 4 * 4 + 3)]) (p := y.2) (by
    rw [h1]
    show some y = some (rowData (k / 4), y.2)
    rw [← hy1])
  rw [World.var?_cell gSets hvar k]
  have h4 : cs[k]? = ((cs.toList.drop (k / 4 * 4)).take 4)[k % 4]? := by
    rw [List.getElem?_take, if_pos (by omega), List.getElem?_drop, Array.getElem?_toList, show k / 4 * 4 + k % 4 = k by omega]
  rw [h4, h3]
  have hr : k % 4 = 0 ∨ k % 4 = 1 ∨ k % 4 = 2 ∨ k % 4 = 3 := by omega
  rcases hr with hr | hr | hr | hr
  · rw [hr, show k / 4 * 4 = k by omega]; rfl
  · rw [hr, show k / 4 * 4 = k - 1 by omega, show k - 1 + 1 = k by omega]; rfl
  · rw [hr, show k / 4 * 4 = k - 2 by omega, show k - 2 + 2 = k by omega]; rfl
  · rw [hr, show k / 4 * 4 = k - 3 by omega, show k - 3 + 3 = k by omega]; rfl

theorem pow_of_reads {W : World} (h : Lib.VarReads Tryz.prog W "internal/strconv.uint64pow10" Rows.laid_internal_strconv_uint64pow10) : Lib.TabIs Tryz.prog W "internal/strconv.uint64pow10" .u64 Lib.pow10Tab := by
  obtain ⟨g', t', cs, fuel, p, hg', ht', hvar, hd⟩ := h
  obtain rfl := Option.some.inj (Tryz.gPow.symm.trans hg')
  obtain rfl := Option.some.inj (gPowType.symm.trans ht')
  rw [laid_pow] at hd
  unfold Lib.TabIs
  rw [hvar, ← Lib.cells_of_tab Tryz.underlying283 Tryz.underlying151 cellsWord cellsPow hd]

theorem err_of_reads {W : World} {name : String} {g : Nat} {nm : String} {d : DataW Unit} (hg : Tryz.prog.globalNamed name = some g) (ht : (Tryz.prog.globals[g]?).map (·.type) = some 65)
    (h : Lib.VarReads Tryz.prog W name (.iface nm d)) : Tryz.Err g W := by
  obtain ⟨g', t', cs, fuel, p, hg', ht', hvar, hd⟩ := h
  obtain rfl := Option.some.inj (hg.symm.trans hg')
  obtain rfl := Option.some.inj (ht.symm.trans ht')
  have hc := World.var?_cell hg hvar 0
  have key : ∃ u v, cs.toList = [.iface u v] := by
    cases fuel with
    | zero => simp [DataW.trod] at hd
    | succ f =>
      rcases hl : cs.toList with _ | ⟨x, _ | ⟨y, r⟩⟩
      · rw [hl] at hd
        simp [DataW.trod, Tryz.underlying65] at hd
      · rw [hl] at hd
        cases x <;> first
          | exact ⟨_, _, rfl⟩
          | (exfalso; simp [DataW.trod, Tryz.underlying65] at hd)
      · rw [hl] at hd
        simp [DataW.trod, Tryz.underlying65] at hd
  obtain ⟨u, v, hk⟩ := key
  refine ⟨u, v, hc.trans ?_⟩
  rw [← Array.getElem?_toList, hk]
  rfl

theorem rt : (Tryz.prog.cutTypes.find? (·.1 == "internal/reflectlite.rtype")).map (·.2) = some 193 := by kernel_rfl
theorem typesSize : Tryz.prog.types.size = 343 := by kernel_rfl
theorem oneRow : ((List.range 343).filter fun t => Tryz.prog.rowNamed t [101, 114, 114, 111, 114]) = [65] := by kernel_rfl
theorem gType : Tryz.prog.globalNamed "errors.errorType" = some 2 := by kernel_rfl
theorem theHandle : typeHandle Tryz.prog 65 = .pointer (some ⟨29, 65, none⟩) := by kernel_rfl

theorem handle_of_met {W : World} (h : handlesMet Tryz.prog [("errors.errorType", Rows.laid_errors_errorType)] W) : W.cell? ⟨2, 0, none⟩ = some (.iface 193 (.agg #[.pointer (some ⟨29, 65, none⟩)])) := by
  obtain ⟨name, u, ty, e1, e2, e3, e4, e5⟩ := h _ (List.mem_singleton.2 rfl)
  have en : name = [101, 114, 114, 111, 114] := (Option.some.inj e1).symm
  subst en
  obtain rfl := Option.some.inj (rt.symm.trans e2)
  have hm : ty ∈ (List.range 343).filter fun t => Tryz.prog.rowNamed t [101, 114, 114, 111, 114] := List.mem_filter.2 ⟨List.mem_range.2 (by rw [← typesSize]; exact e3), e4⟩
  rw [oneRow] at hm
  obtain rfl := List.mem_singleton.1 hm
  rw [theHandle] at e5
  simpa using World.var?_cell gType e5 0

theorem maxLen_of_shape {W : World} (h : W.ShapedOpen Tryz.prog) : ∃ m, W.cell? ⟨16, 0, none⟩ = some (.int .i64 m) :=
  cell_of_shapedOpen_int (zero := #[.int .i64 0]) (t := 3) h (of_decide_eq_true (by kernel_rfl)) (by kernel_rfl) rfl (by kernel_rfl) (by kernel_rfl) Tryz.underlying3

/-- The listed variables without the handle. -/
def plainLaid : List (String × DataW Unit) := [("math/bits.deBruijn32tab", Rows.laid_math_bits_deBruijn32tab), ("math/bits.deBruijn64tab", Rows.laid_math_bits_deBruijn64tab), ("internal/strconv.uint64pow10", Rows.laid_internal_strconv_uint64pow10), ("unicode/utf8.acceptRanges", Rows.laid_unicode_utf8_acceptRanges), ("moor/escape.sets", Rows.laid_moor_escape_sets), ("moor/host.errEmpty", Rows.laid_moor_host_errEmpty), ("moor/host.errBracket", Rows.laid_moor_host_errBracket), ("moor/host.errCount", Rows.laid_moor_host_errCount), ("moor/host.errLength", Rows.laid_moor_host_errLength), ("moor/host.errNought", Rows.laid_moor_host_errNought), ("moor/host.errTooGreat", Rows.laid_moor_host_errTooGreat), ("unicode.CaseRanges", Rows.laid_unicode_CaseRanges), ("unicode/utf8.first", Rows.laid_unicode_utf8_first)]
theorem laid_parts {W : World} (h : laidMetH Tryz.prog Rows.foursRow.laid W) : laidMet Tryz.prog plainLaid W ∧ handlesMet Tryz.prog [("errors.errorType", Rows.laid_errors_errorType)] W := h

theorem size_of_shape {W : World} (h : W.ShapedOpen Tryz.prog) : 29 ≤ W.heap.size := by
  obtain ⟨o, o0, h1, _⟩ := h.2 29 (by rw [show Tryz.prog.globals.size = 29 by kernel_rfl]; exact Nat.le_refl _) (of_decide_eq_true (by kernel_rfl))
  have := (Array.getElem?_eq_some_iff.1 h1).1
  omega

theorem env_of_laid {W : World} (h : laidMetH Tryz.prog Rows.foursRow.laid W) (hsh : W.ShapedOpen Tryz.prog) : Tryz.Env W := by
  obtain ⟨hp, hh⟩ := laid_parts h
  refine ⟨size_of_shape hsh, sets_of_reads (Lib.laidMet.reads hp (by simp [plainLaid])), maxLen_of_shape hsh,
    err_of_reads (by kernel_rfl) (by kernel_rfl) (Lib.laidMet.reads hp (n := "moor/host.errEmpty") (by simp [plainLaid]; rfl)), err_of_reads (by kernel_rfl) (by kernel_rfl) (Lib.laidMet.reads hp (n := "moor/host.errBracket") (by simp [plainLaid]; rfl)),
    err_of_reads (by kernel_rfl) (by kernel_rfl) (Lib.laidMet.reads hp (n := "moor/host.errCount") (by simp [plainLaid]; rfl)), err_of_reads (by kernel_rfl) (by kernel_rfl) (Lib.laidMet.reads hp (n := "moor/host.errLength") (by simp [plainLaid]; rfl)),
    err_of_reads (by kernel_rfl) (by kernel_rfl) (Lib.laidMet.reads hp (n := "moor/host.errNought") (by simp [plainLaid]; rfl)), err_of_reads (by kernel_rfl) (by kernel_rfl) (Lib.laidMet.reads hp (n := "moor/host.errTooGreat") (by simp [plainLaid]; rfl)),
    pow_of_reads (Lib.laidMet.reads hp (by simp [plainLaid])), handle_of_met hh⟩
end Go.Proofs.YtkcnageeamappaaGreatDoor
