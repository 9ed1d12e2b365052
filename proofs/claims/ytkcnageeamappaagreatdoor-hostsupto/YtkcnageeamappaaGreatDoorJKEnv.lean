/-
  What a row's list gives of all that the walks of addresses ask of the variables; how arguments are opened and shut.
-/
import Derived.Test.YtkcnageeamappaaGreatDoorJAPlain
import Derived.Test.YtkcnageeamappaaGreatDoorJATrim
import Derived.Test.YtkcnageeamappaaGreatDoorJKWords2
import Derived.Deep.DeepHandedRow
import Derived.ChangeSlices
namespace Go.Proofs.YtkcnageeamappaaGreatDoor
open Go.ChangeShapes Go.WideShapes Go.ChangeAt Go.RowKit Go.Moor

theorem gFirst : Tryz.prog.globalNamed "unicode/utf8.first" = some 21 := by kernel_rfl
theorem gAcc : Tryz.prog.globalNamed "unicode/utf8.acceptRanges" = some 22 := by kernel_rfl
theorem gFirstType : (Tryz.prog.globals[21]?).map (·.type) = some 288 := by kernel_rfl
theorem gAccType : (Tryz.prog.globals[22]?).map (·.type) = some 291 := by kernel_rfl
theorem cellsFirst : Tryz.prog.cellsOf 288 = 256 := by kernel_rfl
theorem cellsAcc : Tryz.prog.cellsOf 290 = 2 := by kernel_rfl
theorem laid_first : (Rows.laid_unicode_utf8_first : DataW Unit) = Lib.firstData := by kernel_rfl
theorem laid_accept : (Rows.laid_unicode_utf8_acceptRanges : DataW Unit) = Lib.acceptData := by kernel_rfl
theorem u8_of_reads {w : World} (h3 : Lib.VarReads Tryz.prog w "unicode/utf8.first" Rows.laid_unicode_utf8_first) (h4 : Lib.VarReads Tryz.prog w "unicode/utf8.acceptRanges" Rows.laid_unicode_utf8_acceptRanges) : Lib.Utf8Tabs 21 22 w := by
  rw [laid_first] at h3
  rw [laid_accept] at h4
  refine ⟨fun c hc => ?_, fun i hi => ?_⟩
  · obtain ⟨g, t, cs, fuel, p, hg, hty, hvar, hd⟩ := h3
    obtain rfl := Option.some.inj (gFirst.symm.trans hg)
    obtain rfl := Option.some.inj (gFirstType.symm.trans hty)
    have hcs := Lib.cells_of_tab Tryz.underlying288 Tryz.underlying5 cellsByte cellsFirst hd
    have := World.var?_cell hg hvar c
    rw [this, ← Array.getElem?_toList, hcs]
    simp [Lib.firstTab, hc]
  · obtain ⟨g, t, cs, fuel, p, hg, hty, hvar, hd⟩ := h4
    obtain rfl := Option.some.inj (gAcc.symm.trans hg)
    obtain rfl := Option.some.inj (gAccType.symm.trans hty)
    obtain ⟨fuel', d, q, hdi, he⟩ := Lib.array_elem Tryz.underlying291 hd i hi
    simp only [List.getElem?_map, List.getElem?_range hi, Option.map_some, Option.some.injEq] at hdi
    subst hdi
    rw [cellsAcc] at he
    have hcs := Lib.ints_of_struct Tryz.underlying290 (fun j f hj => by
      match j, hj with
      | 0, hj => simp at hj; subst hj; exact ⟨Tryz.underlying5, rfl, cellsByte⟩
      | 1, hj => simp at hj; subst hj; exact ⟨Tryz.underlying5, rfl, cellsByte⟩
      | j + 2, hj => simp at hj) (by rw [cellsAcc]; rfl) he
    have e0 := congrArg (·[0]?) hcs
    have e1 := congrArg (·[1]?) hcs
    simp only [List.getElem?_take, List.getElem?_drop] at e0 e1
    constructor
    · rw [World.var?_cell hg hvar (2 * i), ← Array.getElem?_toList]
      simpa [Nat.mul_comm] using e0
    · rw [World.var?_cell hg hvar (2 * i + 1), ← Array.getElem?_toList]
      simpa [Nat.mul_comm] using e1

/-- What every list of an address's law holds beside the handle. -/
def needLaid : List (String × DataW Unit) := [("strconv.ErrRange", Rows.laid_strconv_ErrRange), ("strconv.ErrSyntax", Rows.laid_strconv_ErrSyntax), ("moor/address.errNoBase", Rows.laid_moor_address_errNoBase), ("moor/address.errOpaqueBase", Rows.laid_moor_address_errOpaqueBase), ("moor/address.errNoHost", Rows.laid_moor_address_errNoHost)]

theorem env2_of_reads {W : World} (hp : ∀ x ∈ plainLaid, Lib.VarReads Tryz.prog W x.1 x.2) (hq : ∀ x ∈ needLaid, Lib.VarReads Tryz.prog W x.1 x.2) (hh : handlesMet Tryz.prog [("errors.errorType", Rows.laid_errors_errorType)] W) (hsh : W.ShapedOpen Tryz.prog) : Tryz.Env2 W := by
  have h : Tryz.Env W := ⟨size_of_shape hsh, sets_of_reads (hp ("moor/escape.sets", _) (by simp [plainLaid]; rfl)), maxLen_of_shape hsh,
    err_of_reads (by kernel_rfl) (by kernel_rfl) (hp ("moor/host.errEmpty", _) (by simp [plainLaid]; rfl)), err_of_reads (by kernel_rfl) (by kernel_rfl) (hp ("moor/host.errBracket", _) (by simp [plainLaid]; rfl)),
    err_of_reads (by kernel_rfl) (by kernel_rfl) (hp ("moor/host.errCount", _) (by simp [plainLaid]; rfl)), err_of_reads (by kernel_rfl) (by kernel_rfl) (hp ("moor/host.errLength", _) (by simp [plainLaid]; rfl)),
    err_of_reads (by kernel_rfl) (by kernel_rfl) (hp ("moor/host.errNought", _) (by simp [plainLaid]; rfl)), err_of_reads (by kernel_rfl) (by kernel_rfl) (hp ("moor/host.errTooGreat", _) (by simp [plainLaid]; rfl)),
    pow_of_reads (hp ("internal/strconv.uint64pow10", _) (by simp [plainLaid]; rfl)), handle_of_met hh⟩
  exact ⟨h, tz_of_reads (hp ("math/bits.deBruijn64tab", _) (by simp [plainLaid]; rfl)), u8_of_reads (hp ("unicode/utf8.first", _) (by simp [plainLaid]; rfl)) (hp ("unicode/utf8.acceptRanges", _) (by simp [plainLaid]; rfl)),
    err_of_reads (by kernel_rfl) (by kernel_rfl) (hq ("moor/address.errNoBase", _) (by simp [needLaid]; rfl)), err_of_reads (by kernel_rfl) (by kernel_rfl) (hq ("moor/address.errOpaqueBase", _) (by simp [needLaid]; rfl)),
    err_of_reads (by kernel_rfl) (by kernel_rfl) (hq ("moor/address.errNoHost", _) (by simp [needLaid]; rfl)), err_of_reads (by kernel_rfl) (by kernel_rfl) (hq ("strconv.ErrSyntax", _) (by simp [needLaid]; rfl)), err_of_reads (by kernel_rfl) (by kernel_rfl) (hq ("strconv.ErrRange", _) (by simp [needLaid]; rfl))⟩

theorem int_in {n : Int} (wn : (Lit.int .i64 n).wf = true) : -(2 ^ 63) ≤ n ∧ n < 2 ^ 63 := by
  have := bounds_i64 wn
  omega
theorem cell_in {w : World} {a : Go.Addr} {v : Value} (h : w.cell? a = some v) : a.block < w.heap.size := by
  first | exact block_lt_of_cell h | exact World.block_lt_of_cell? w a h | exact World.block_lt_of_cell? w h
theorem cellsInt1 : Tryz.prog.cellsOf 3 = 1 := by kernel_rfl

set_option maxRecDepth 100000 in
/-- A row of numbers that is handed in: it can be read, and behind whatever leaves the old blocks alone it is as it was. -/
theorem open_row {H : Type} {enc : TypeId × Value → H} {W : World} {base : Nat} {v : Value} {d : DataW H} {p : List MemPlace} (hv : Value.okWide Tryz.prog W .any base 33 v)
    (h0 : DataW.Trod enc Tryz.prog W 0 (fun _ => true) true 33 v d p) :
    ∃ (sp : Option Go.Addr) (cap : Nat) (xs : List Int), v = .slice sp xs.length cap ∧ (∀ x ∈ xs, -9223372036854775808 ≤ x ∧ x ≤ 9223372036854775807) ∧ IntRow W sp xs ∧
      ∀ W', Below W.heap.size W W' → DataW.Trod enc Tryz.prog W' 0 (fun b => decide (b < W.heap.size)) true 33 v d p := by
  obtain ⟨a0, len, cap, rfl⟩ := okWide_slice Tryz.underlying33 hv
  obtain ⟨fuel, hf⟩ := h0
  rcases open_ints Tryz.underlying33 Tryz.underlying3 cellsInt1 hf with ⟨hcs, hx⟩ | ⟨a, len', cap', zs, hcs, _, hl, hm, hz, hx, hcell, hwz⟩
  · simp [Value.cells] at hcs
    obtain ⟨rfl, rfl, rfl⟩ := hcs
    simp only [Prod.mk.injEq] at hx
    obtain ⟨rfl, rfl⟩ := hx
    exact ⟨none, 0, [], rfl, by simp, fun j x hj => by simp at hj, fun W' _ => shut_slice_nil Tryz.underlying33⟩
  · simp [Value.cells] at hcs
    obtain ⟨rfl, rfl, rfl⟩ := hcs
    simp only [Prod.mk.injEq] at hx
    obtain ⟨rfl, rfl⟩ := hx
    simp only [if_true] at hz
    have hblk : 0 < zs.length → a.block < W.heap.size := fun h => by
      have h2 := cell_in (hcell 0 h)
      rwa [block_add] at h2
    have hlz : len ≤ zs.length := by rw [hz]; exact hl
    have htl : (zs.take len).length = len := by rw [List.length_take]; omega
    refine ⟨some a, cap, zs.take len, by rw [htl], fun x hx => bounds_i64 (hwz x (List.mem_of_mem_take hx)), ?_, fun W' hb => ?_⟩
    · intro j x hj
      have hjl : j < len := by
        have := (List.getElem?_eq_some_iff.1 hj).1
        omega
      have hz2 : zs[j]? = some x := by rw [List.getElem?_take, if_pos hjl] at hj; exact hj
      refine ⟨a, rfl, hblk (by omega), ?_⟩
      rw [hcell j (by omega)]
      simp [List.getD, hz2]
    · refine ⟨0 + 2, shut_ints 0 Tryz.underlying33 Tryz.underlying3 cellsInt1 (Nat.zero_le _) hl hm ?_ ?_ hwz⟩
      · by_cases h0 : 0 < zs.length
        · rw [if_pos (decide_eq_true (hblk h0))]
          exact hz
        · split
          · exact hz
          · omega
      · intro i hi
        have hbl := hblk (by omega)
        rw [hb.cell (p := a.add i) (by rw [block_add]; exact hbl)]
        exact hcell i hi
end Go.Proofs.YtkcnageeamappaaGreatDoor
/-
  What words of package moorkeep answers: a row of its own.
-/
namespace Go.Proofs
open Go.RowKit Go.Moor

set_option maxHeartbeats 8000000 in
set_option maxRecDepth 4000 in
theorem Tryz.words_any (sp : Option Go.Addr) (cap : Nat) (xs : List Int) (most : Nat) (w : World) (hm : most ≤ 100) (hx : ∀ x ∈ xs, -9223372036854775808 ≤ x ∧ x ≤ 9223372036854775807) (hrow : IntRow w sp xs) :
    Calls Tryz.prog 24 #[.slice sp xs.length cap, .int .i64 most] w fun e w' => ∃ (v : Value) (ls : List Bs), e = .returned v ∧ w'.ownsRow w.heap.size 9 1 v ls.length (strs ls) ∧ ls.length = min xs.length most ∧ (∀ p ∈ ls, wordB p ∧ p.length ≤ 4) ∧ Below w.heap.size w w' := by
  have HC : Hid (IntRow w sp xs) := hrow
  have HX : Hid (∀ x ∈ xs, -9223372036854775808 ≤ x ∧ x ≤ 9223372036854775807) := hx
  obtain ⟨i0, hi, hz0, hz1, hz2⟩ := info_parts Tryz.infoStr
  clear hrow hx
  go_enter Tryz.func24, Tryz.ntmps24
  go_wp2_with fail
  go_loopw [5, 6] (fun s i wr => ∃ ls : List Bs, ls.length ≤ xs.length ∧ ls.length ≤ most ∧ i = .int .i64 (ls.length : Nat) ∧ wr.ownsRow w.heap.size 9 1 s ls.length (strs ls) ∧ (∀ p ∈ ls, wordB p ∧ p.length ≤ 4) ∧ Below w.heap.size w wr) (fun _ i _ => most - (intOf i).toNat)
  case atStart => exact ⟨[], Nat.zero_le _, Nat.zero_le _, rfl, World.ownsRow_nil _ _ _ _, by simp, Below.refl _ _⟩
  case round =>
    obtain ⟨ls, hq, hqm, rfl, hown, hws, hbw⟩ := hrel
    have HW : Hid (∀ p ∈ ls, wordB p ∧ p.length ≤ 4) := hws
    have HB : Hid (Below w.heap.size w wr) := hbw
    obtain ⟨sp2, cap2, hvf, hnc, hcm, hf2⟩ := own_shape hown
    subst hvf
    have HO : Hid (wr.ownsRow w.heap.size 9 1 (.slice sp2 ls.length cap2) ls.length (strs ls)) := hown
    unfold maxLen at hcm
    clear hown hws hbw hf2
    by_cases hlt : ls.length < xs.length
    · by_cases hlm : ls.length < most
      · obtain ⟨x, hx⟩ : ∃ x, xs[ls.length]? = some x := ⟨xs[ls.length], List.getElem?_eq_getElem hlt⟩
        obtain ⟨a0, hsp, hab, hcx⟩ := HC.out _ x hx
        subst hsp
        have hcr : wr.cell? (a0.add ls.length) = some (.int .i64 x) := by
          rw [HB.out.cell (p := a0.add ls.length) (by rw [show (a0.add ls.length).block = a0.block by unfold Go.Addr.add; split <;> rfl]; exact hab)]
          exact hcx
        have hxr := HX.out x (List.mem_of_getElem? hx)
        have HWD : Hid (Calls Tryz.prog 23 #[.int .i64 x] wr fun e w' => ∃ l : Bs, wordB l ∧ l.length ≤ 4 ∧ e = .returned (.string ⟨l.toArray⟩) ∧ Below wr.heap.size wr w') := Tryz.word_any x wr (by omega) (by omega)
        clear hx hcx
        go_wp2_with fail
        refine HWD.out.mono ?_
        rintro e w4 ⟨l, hl1, hl2, rfl, b4⟩
        have HL : Hid (wordB l ∧ l.length ≤ 4) := ⟨hl1, hl2⟩
        have HB4 : Hid (Below w.heap.size w w4) := HB.out.trans (b4.mono HB.out.size)
        have HO4 := (own_below HO.out b4).alloc (.cells #[.string ⟨l.toArray⟩] 9)
        have hk3 := HB4.out.size
        clear hl1 hl2 b4
        go_wp2_with (at_builtin; refine wpList_append_lies _ rfl _ _ 28 rfl w.heap.size 9 i0 (.string ⟨#[]⟩) 1 16 Tryz.underlying28 hi hz0 hz1 hz2 rfl (by decide) _ _ _ rfl HO4 ⟨w4.heap.size, 0, none⟩ 1 1 [.string ⟨l.toArray⟩] rfl rfl ?c1 ?c2 (by decide) ?c3 ?c4 ?c5 _ rfl ?_)
        case c1 =>
          intro j u hj
          match j, hj with
          | 0, hj => simp at hj; subst hj; exact World.cell?_alloc_new w4 #[.string ⟨l.toArray⟩] 9 0
        case c2 => intro u hu; simp at hu; subst hu; rfl
        case c3 => unfold maxLen; omega
        case c4 => omega
        case c5 => simp; omega
        intro g cap3 w5 hown' hgrow hat hglt
        have HOW : Hid (w5.ownsRow w.heap.size 9 1 (.slice (some ⟨g, 0, none⟩) (ls.length + 1) cap3) (ls.length + 1) (strs ls ++ [.string ⟨l.toArray⟩])) := hown'
        have HBN : Hid (Below w.heap.size w w5) := (HB4.out.alloc hk3 _).grown hgrow (by simp; omega) (fun k hk => (HO4.lt k hk).1)
        clear hown' hgrow HO4 hat
        go_wp2
        go_roundw
        case rel =>
          refine ⟨ls ++ [l], by simp; omega, by simp; omega, by simp, ?_, ?_, HBN.out⟩
          · rw [List.length_append, strs_app]
            exact HOW.out
          · intro p hp
            rcases List.mem_append.1 hp with hp | hp
            · exact HW.out p hp
            · simp at hp
              rw [hp]
              exact HL.out
        case measure => (simp [intOf]; try omega)
      · go_wp2
        go_ret
        exact ⟨_, ls, rfl, HO.out, by omega, HW.out, HB.out⟩
    · go_wp2
      go_ret
      exact ⟨_, ls, rfl, HO.out, by omega, HW.out, HB.out⟩
end Go.Proofs
/-
  A package-level row of texts that can be read, and that it stays so.
-/
namespace Go.Proofs
open Go.RowKit Go.Moor

/-- The variable g holds a row of these texts. -/
def TxtRow (g : Nat) (l : List Bs) (w : World) : Prop := ∃ (a : Go.Addr) (cap : Nat), w.cell? ⟨g, 0, none⟩ = some (.slice (some a) l.length cap) ∧ l.length ≤ cap ∧ a.block < w.heap.size ∧ ∀ (j : Nat) s, l[j]? = some s → w.cell? (a.add j) = some (.string ⟨s.toArray⟩)
theorem add_block (a : Go.Addr) (j : Nat) : (a.add j).block = a.block := by unfold Go.Addr.add; split <;> rfl
theorem TxtRow.below {g : Nat} {l : List Bs} {w w' : World} (h : TxtRow g l w) (hg : g < w.heap.size) (hb : Below w.heap.size w w') : TxtRow g l w' := by
  obtain ⟨a, cap, h1, h2, h3, h4⟩ := h
  refine ⟨a, cap, ?_, h2, Nat.lt_of_lt_of_le h3 hb.size, fun j s hj => ?_⟩
  · rw [hb.cell (p := ⟨g, 0, none⟩) hg]; exact h1
  · rw [hb.cell (p := a.add j) (by rw [add_block]; exact h3)]; exact h4 j s hj
end Go.Proofs
