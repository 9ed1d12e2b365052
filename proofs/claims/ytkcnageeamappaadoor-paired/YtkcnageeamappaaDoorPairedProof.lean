/-
  For every two rows of texts the law moorkeep.Paired answers true and leaves its arguments as they were; the card ties the tables of the sets to the program's text.
-/
import Derived.Test.YtkcnageeamappaaDoorCards
import Derived.Test.YtkcnageeamappaaDoorTie
import Derived.Test.YtkcnageeamappaaDoorKPaired
import Derived.WalkKit
import Derived.ProofKit
import Derived.OpenShut
import Derived.Carry
import Derived.Deep.DeepHandedRow
import Derived.Deep.Strs
import Derived.Lib.LaidU8
import Derived.Lib.LaidTab
import Derived.Lay
import Derived.LaidHandle
import Derived.Shelf.Vars
namespace Go.Proofs.YtkcnageeamappaaDoor
open Go.ChangeShapes Go.WideShapes Go.ChangeAt Go.RowKit Go.Moor
open Go.ChangeMaps (open_string shut_string)

theorem ownPaired : ownKnob Tryd.prog.godebug = none := by kernel_rfl
theorem gSetsP : Tryd.prog.globalNamed "moor/escape.sets" = some 0 := by kernel_rfl
theorem gSetsTypeP : (Tryd.prog.globals[0]?).map (·.type) = some 62 := by kernel_rfl
theorem gPairP : Tryd.prog.globalNamed "moor/escape.pairSet" = some 1 := by kernel_rfl
theorem gPairTypeP : (Tryd.prog.globals[1]?).map (·.type) = some 43 := by kernel_rfl
theorem cellsRowP : Tryd.prog.cellsOf 43 = 4 := by kernel_rfl
theorem cellsWordP : Tryd.prog.cellsOf 41 = 1 := by kernel_rfl
theorem cellsStrP : Tryd.prog.cellsOf 9 = 1 := by kernel_rfl
theorem laidOutP : laidOutB Tryd.prog = true := by kernel_rfl

def rowDataP {H : Type} (i : Nat) : DataW H := Lib.tabData .u64 [tabAt (i * 4), tabAt (i * 4 + 1), tabAt (i * 4 + 2), tabAt (i * 4 + 3)]
theorem laid_rowsP : (Rows.laid_moor_escape_sets : DataW Unit) = .agg ((List.range 7).map rowDataP) := by kernel_rfl
theorem laid_pairP : (Rows.laid_moor_escape_pairSet : DataW Unit) = Lib.tabData .u64 pairWs := by kernel_rfl

theorem setsP_of_reads {W : World} (h : Lib.VarReads Tryd.prog W "moor/escape.sets" Rows.laid_moor_escape_sets) : Tryd.Sets W := by
  obtain ⟨g', t', cs, fuel, p, hg', ht', hvar, hd⟩ := h
  obtain rfl := Option.some.inj (gSetsP.symm.trans hg')
  obtain rfl := Option.some.inj (gSetsTypeP.symm.trans ht')
  rw [laid_rowsP] at hd
  obtain ⟨xs, m, rfl, hx, hcl, hxl, hall⟩ := DataW.trod_array Tryd.underlying62 hd
  have hxs : xs.map (·.1) = (List.range 7).map (rowDataP (H := Unit)) := by
    have := congrArg Prod.fst hx
    simpa using this.symm
  intro k hk
  have hi : k / 4 < 7 := by omega
  have h1 := hall (k / 4) hi
  have h2 : (xs.map (·.1))[k / 4]? = some (rowDataP (H := Unit) (k / 4)) := by rw [hxs]; simp [hi]
  rw [List.getElem?_map, Option.map_eq_some_iff] at h2
  obtain ⟨y, hy, hy1⟩ := h2
  rw [hy, cellsRowP] at h1
  have h3 := Lib.cells_of_tab Tryd.underlying43 Tryd.underlying41 cellsWordP cellsRowP (zs := [tabAt (k / 4 * 4), tabAt (k / 4 * 4 + 1), tabAt (k / 4 * 4 + 2), tabAt (k / 4 * 4 + 3)]) (p := y.2) (by
    rw [h1]
    show some y = some (rowDataP (k / 4), y.2)
    rw [← hy1])
  rw [World.var?_cell gSetsP hvar k]
  have h4 : cs[k]? = ((cs.toList.drop (k / 4 * 4)).take 4)[k % 4]? := by
    rw [List.getElem?_take, if_pos (by omega), List.getElem?_drop, Array.getElem?_toList, show k / 4 * 4 + k % 4 = k by omega]
  rw [h4, h3]
  have hr : k % 4 = 0 ∨ k % 4 = 1 ∨ k % 4 = 2 ∨ k % 4 = 3 := by omega
  rcases hr with hr | hr | hr | hr
  · rw [hr, show k / 4 * 4 = k by omega]; rfl
  · rw [hr, show k / 4 * 4 = k - 1 by omega, show k - 1 + 1 = k by omega]; rfl
  · rw [hr, show k / 4 * 4 = k - 2 by omega, show k - 2 + 2 = k by omega]; rfl
  · rw [hr, show k / 4 * 4 = k - 3 by omega, show k - 3 + 3 = k by omega]; rfl
theorem pairP_of_reads {W : World} (h : Lib.VarReads Tryd.prog W "moor/escape.pairSet" Rows.laid_moor_escape_pairSet) : ∀ k, k < 4 → W.cell? ⟨1, k, none⟩ = some (.int .u64 (pairWs.getD k 0)) := by
  obtain ⟨g', t', cs, fuel, p, hg', ht', hvar, hd⟩ := h
  obtain rfl := Option.some.inj (gPairP.symm.trans hg')
  obtain rfl := Option.some.inj (gPairTypeP.symm.trans ht')
  rw [laid_pairP] at hd
  have h3 := Lib.cells_of_tab Tryd.underlying43 Tryd.underlying41 cellsWordP cellsRowP hd
  intro k hk
  rw [World.var?_cell gPairP hvar k, ← Array.getElem?_toList, h3]
  have hr : k = 0 ∨ k = 1 ∨ k = 2 ∨ k = 3 := by omega
  rcases hr with rfl | rfl | rfl | rfl <;> rfl
theorem maxLenP_of_shape {W : World} (h : W.ShapedOpen Tryd.prog) : ∃ m, W.cell? ⟨2, 0, none⟩ = some (.int .i64 m) :=
  cell_of_shapedOpen_int (zero := #[.int .i64 0]) (t := 3) h (of_decide_eq_true (by kernel_rfl)) (by kernel_rfl) rfl (by kernel_rfl) (by kernel_rfl) Tryd.underlying3
theorem sizeP_of_shape {W : World} (h : W.ShapedOpen Tryd.prog) : 5 ≤ W.heap.size := by
  obtain ⟨o, o0, h1, _⟩ := h.2 5 (by rw [show Tryd.prog.globals.size = 5 by kernel_rfl]; exact Nat.le_refl _) (of_decide_eq_true (by kernel_rfl))
  have := (Array.getElem?_eq_some_iff.1 h1).1
  omega

/-- The row's list. -/
def laidPaired : List (String × DataW Unit) := [("unicode/utf8.acceptRanges", Rows.laid_unicode_utf8_acceptRanges), ("moor/escape.sets", Rows.laid_moor_escape_sets), ("moor/escape.pairSet", Rows.laid_moor_escape_pairSet), ("unicode/utf8.first", Rows.laid_unicode_utf8_first)]
theorem partsPaired {W : World} (h : laidMetH Tryd.prog Rows.pairedRow.laid W) : laidMet Tryd.prog laidPaired W := h
theorem envPaired {W : World} (h : laidMetH Tryd.prog Rows.pairedRow.laid W) (hsh : W.ShapedOpen Tryd.prog) : Tryd.EnvP W :=
  ⟨setsP_of_reads (Lib.laidMet.reads (partsPaired h) (n := "moor/escape.sets") (by simp [laidPaired])), pairP_of_reads (Lib.laidMet.reads (partsPaired h) (n := "moor/escape.pairSet") (by simp [laidPaired])), maxLenP_of_shape hsh, sizeP_of_shape hsh⟩

set_option maxRecDepth 100000 in
/-- A row of texts that is handed in: it can be read. -/
theorem open_texts {H : Type} {enc : TypeId × Value → H} {W : World} {base : Nat} {v : Value} {d : DataW H} {p : List MemPlace} (hv : Value.okWide Tryd.prog W .any base 27 v)
    (h0 : DataW.Trod enc Tryd.prog W 0 (fun _ => true) true 27 v d p) : ∃ (sp : Option Go.Addr) (cap : Nat) (xs : List ByteArray), v = .slice sp xs.length cap ∧ StrRowA W sp xs := by
  obtain ⟨a0, len, cap, rfl⟩ := okWide_slice Tryd.underlying27 hv
  obtain ⟨fuel, hf⟩ := h0
  rcases Go.Deep.open_strs Tryd.underlying27 Tryd.underlying9 cellsStrP hf with ⟨hcs, hx⟩ | ⟨a, len', cap', m, Sx, hcs, _, hl, hm, hmm, hx, hcell⟩
  · simp [Value.cells] at hcs
    obtain ⟨rfl, rfl, rfl⟩ := hcs
    exact ⟨none, 0, [], rfl, fun j x hj => by simp at hj⟩
  · simp [Value.cells] at hcs
    obtain ⟨rfl, rfl, rfl⟩ := hcs
    simp only [if_true] at hmm
    refine ⟨some a, cap, (List.range len).map Sx, by simp, fun j x hj => ?_⟩
    have hjl : j < len := by
      have := (List.getElem?_eq_some_iff.1 hj).1
      simpa using this
    rw [List.getElem?_map, List.getElem?_range hjl] at hj
    simp only [Option.map_some, Option.some.injEq] at hj
    subst hj
    have h1 := (hcell j (by omega)).1
    have h2 : (a.add j).block < W.heap.size := by
      unfold World.cell? at h1
      by_cases hb : (a.add j).block < W.heap.size
      · exact hb
      · rw [Array.getElem?_eq_none (show W.heap.size ≤ (a.add j).block by omega)] at h1
        simp at h1
    rw [show (a.add j).block = a.block by unfold Go.Addr.add; split <;> rfl] at h2
    exact ⟨a, rfl, h2, h1⟩

set_option maxRecDepth 100000 in
theorem contractPaired (H : Type) (enc : TypeId × Value → H) (W : World) (base : Nat) (args : Array Value) (ds gs : List (DataW H)) (before : List MemPlace)
    (hval : ∀ (j : Nat) t v, Tryd.f4.params[j]? = some t → args[j]? = some v → Value.okWide Tryd.prog W .any base t v)
    (hW : DataW.Whole enc Tryd.prog Tryd.f4.params.toList Rows.pairedSpec.vars false W args.toList ds gs before) (hL : laidMetH Tryd.prog Rows.pairedRow.laid W) (hsh : W.ShapedOpen Tryd.prog) :
    Calls Tryd.prog 4 args W fun e W' => ∃ v, e = .returned v ∧ Rows.pairedSpec.post enc Tryd.prog Tryd.f4 false true false false W args v W' := by
  have hW' := hW
  obtain ⟨p, q, hA0, hV, rfl, hfz, hnd⟩ := hW
  have hA : DataW.TrodAll enc Tryd.prog W 0 (fun _ => true) true Tryd.f4.params.toList args.toList ds p := hA0
  rw [Tryd.params4] at hA hval
  obtain ⟨v0, vs0, d0, ds0, p0, q0, hargs, rfl, rfl, h0, r0⟩ := trodAll_cons hA
  obtain ⟨v1, vs1, d1, ds1, p1, q1, rfl, rfl, rfl, h1, r1⟩ := trodAll_cons r0
  obtain ⟨rfl, rfl, rfl⟩ := trodAll_nil r1
  obtain rfl : args = #[v0, v1] := Array.toList_inj.1 hargs
  obtain ⟨rfl, rfl⟩ := trodVars_none hV
  obtain ⟨sp0, cap0, xs0, rfl, hr0⟩ := open_texts (hval 0 27 v0 rfl rfl) h0
  obtain ⟨sp1, cap1, xs1, rfl, hr1⟩ := open_texts (hval 1 27 v1 rfl rfl) h1
  clear hA0
  simp only [List.append_nil] at hW'
  have HEnv := envPaired hL hsh
  refine (Tryd.Paired_any sp0 sp1 cap0 cap1 xs0 xs1 W hr0 hr1 HEnv).mono fun e W' ⟨he, hb⟩ => ?_
  subst he
  have hlt : ∀ x ∈ p0 ++ p1, x.block < W.heap.size := fun x hx => by simpa using hW'.lt x (by simpa using hx)
  refine ⟨_, rfl, _, _, _, [], p0 ++ p1, [], hW', ?_, ?_, ?_, hb.frame _, fun h => by cases h⟩
  · exact trodAll_cons_mk (shut_bool Tryd.underlying4 _) trodAll_mk0
  · have := trodAll_cons_mk (Below.trod laidOutP (by kernel_rfl) (of_decide_eq_true (by kernel_rfl)) h0 hb (fun x hx => hlt x (by simp [hx]))) (trodAll_cons_mk (Below.trod laidOutP (by kernel_rfl) (of_decide_eq_true (by kernel_rfl)) h1 hb (fun x hx => hlt x (by simp [hx]))) (trodAll_mk0))
    simp only [List.append_nil] at this
    exact this
  · rfl
set_option maxRecDepth 1000000 in
theorem metPaired (os : Os) (args : Array Value) : laidMetH Tryd.prog Rows.pairedRow.laid ((((World.holding Tryd.prog os ⟨#[], #[], []⟩).layVars Tryd.prog laidPaired)).forCall (fun _ _ => 0) ⟨#[], args, []⟩).memory := by
  have h : laidMet Tryd.prog laidPaired ((World.holding Tryd.prog os ⟨#[], #[], []⟩).layVars Tryd.prog laidPaired) := by
    have e1 : (laidPaired.filter fun x => (laidPaired.map (·.1)).contains x.1) = laidPaired := List.filter_eq_self.2 fun x hx => List.contains_iff_mem.2 (List.mem_map.2 ⟨x, hx, rfl⟩)
    have e2 : (laidPaired.filter fun x => !(laidPaired.map (·.1)).contains x.1) = [] := List.filter_eq_nil_iff.2 fun x hx => by rw [List.contains_iff_mem.2 (List.mem_map.2 ⟨x, hx, rfl⟩)]; simp
    exact laidMet_layVars (w0 := (World.holding Tryd.prog os ⟨#[], #[], []⟩)) (laidPaired.map (·.1)) [] (by rw [e1]) (by rw [e1]; kernel_rfl) (by rw [e1]; kernel_rfl) (by rw [e2]; exact LaidIn.none)
  exact (h.of_heap (by simp [World.memory, World.forCall, Input.heap]))

set_option maxRecDepth 1000000 in
theorem wit1Paired (os : Os) : ((((World.holding Tryd.prog os ⟨#[], #[], []⟩).layVars Tryd.prog laidPaired)).forCall (fun _ _ => 0) ⟨#[], #[.slice none 0 0, .slice none 0 0], []⟩).variablesZipB Tryd.prog = true := by kernel_rfl
set_option maxRecDepth 1000000 in
theorem wit2Paired (os : Os) : (((((World.holding Tryd.prog os ⟨#[], #[], []⟩).layVars Tryd.prog laidPaired)).forCall (fun _ _ => 0) ⟨#[], #[.slice none 0 0, .slice none 0 0], []⟩).heap.toList.drop Tryd.prog.globals.size).take ((begin Tryd.prog (fun _ _ => 0) default).world.heap.size - Tryd.prog.globals.size) = (begin Tryd.prog (fun _ _ => 0) default).world.heap.toList.drop Tryd.prog.globals.size := by kernel_rfl
set_option maxRecDepth 1000000 in
theorem wit3Paired (os : Os) : Input.okWideB Tryd.prog ((((World.holding Tryd.prog os ⟨#[], #[], []⟩).layVars Tryd.prog laidPaired)).forCall (fun _ _ => 0) ⟨#[], #[.slice none 0 0, .slice none 0 0], []⟩) 4 ⟨#[], #[.slice none 0 0, .slice none 0 0], []⟩ = true := by kernel_rfl
set_option maxRecDepth 1000000 in
theorem wit4Paired (os : Os) (H : Type) (enc : TypeId × Value → H) : Rows.pairedSpec.preB enc Tryd.prog Tryd.f4 Rows.pairedRow.domain false ((((World.holding Tryd.prog os ⟨#[], #[], []⟩).layVars Tryd.prog laidPaired)).forCall (fun _ _ => 0) ⟨#[], #[.slice none 0 0, .slice none 0 0], []⟩).memory #[.slice none 0 0, .slice none 0 0] 8 = true := by kernel_rfl
set_option maxRecDepth 1000000 in
theorem wit5Paired (os : Os) (H : Type) (enc : TypeId × Value → H) : Rows.pairedSpec.sizedB enc Tryd.prog Tryd.f4 false ((((World.holding Tryd.prog os ⟨#[], #[], []⟩).layVars Tryd.prog laidPaired)).forCall (fun _ _ => 0) ⟨#[], #[.slice none 0 0, .slice none 0 0], []⟩).memory #[.slice none 0 0, .slice none 0 0] 8 = true := by kernel_rfl

set_option maxRecDepth 1000000 in
theorem liftedPaired (os : Os) (started : os.Started) (H : Type) (enc : TypeId × Value → H) (F : Stop.Interp) :
    ReturnsInHanded {} Tryd.checked os 4 .any ((OpenSpec.ofChange Rows.pairedSpec).preRow enc Tryd.prog Tryd.f4 Rows.pairedRow.domain false Rows.pairedRow.laid) (((OpenSpec.ofChange Rows.pairedSpec).at F).post enc Tryd.prog Tryd.f4 false true false false) := by
  refine returnsInHanded_of_row (C := Tryd.checked) (s := OpenSpec.ofChange Rows.pairedSpec) ownPaired started (by kernel_rfl) Tryd.func4
    (ChangeSpec.witness_shaped (enc := enc) (C := Tryd.checked) (os := os) (X := fun w _ => laidMetH Tryd.prog Rows.pairedRow.laid w) false ((World.holding Tryd.prog os ⟨#[], #[], []⟩).layVars Tryd.prog laidPaired) #[.slice none 0 0, .slice none 0 0] 8 (World.layVars_os _ _ _)
      (World.shaped_of_ZipB (wit1Paired os) (wit2Paired os)) (wit3Paired os) (wit4Paired os H enc) (wit5Paired os H enc) (metPaired os _)) ?_
  intro W base args ds gs before hval hW _ _ _ hL hsh _
  exact contractPaired H enc W base args ds gs before hval hW hL hsh

set_option maxRecDepth 1000000 in
theorem sfaPaired : Tryd.pinned.checked.prog.funcNamed Rows.pairedRow.func = some 4 := by kernel_rfl
set_option maxRecDepth 1000000 in
set_option maxHeartbeats 40000000 in
theorem sfbPaired : joinedFacts Tryd.pinned.checked.prog 4 Tryd.f4 (OpenSpec.ofChange Rows.pairedSpec).bare Rows.pairedRow = true := by
  have gen : ∀ P fn s c, P = Tryd.pinned.checked.prog → fn = Tryd.f4 → s = (OpenSpec.ofChange Rows.pairedSpec).bare → c = Rows.pairedRow → joinedFacts P 4 fn s c = true := by
    intro P fn s c hP hfn hs hc
    unfold joinedFacts
    repeat' (refine (Bool.and_eq_true_iff).2 ⟨?_, ?_⟩)
    all_goals (subst hP; subst hfn; subst hs; subst hc)
    all_goals (as_aux_lemma => kernel_rfl)
  exact gen _ _ _ _ rfl rfl rfl rfl
set_option maxRecDepth 1000000 in
theorem sfcPaired : Tryd.f4.isInstance Tryd.pinned.checked.prog Rows.pairedRow.origin Rows.pairedRow.targs := of_decide_eq_true (by kernel_rfl)
set_option maxRecDepth 1000000 in
theorem sfdPaired : Tryd.f4.isWrapper Tryd.pinned.checked.prog Rows.pairedRow.wrapper Rows.pairedRow.mainSum := by unfold Func.isWrapper; first | (rw [if_pos (by decide +kernel)]; kernel_rfl) | (rw [if_neg (by decide +kernel)]; exact ⟨rfl, rfl⟩)
theorem saidPaired : Rows.PairedSaid :=
  OpenClaim.holds_of_cond 4 Tryd.f4 rfl rfl rfl rfl rfl rfl rfl ⟨rfl, rfl, rfl, rfl, rfl⟩ rfl rfl rfl rfl rfl sfaPaired Tryd.func4 sfbPaired sfcPaired sfdPaired
    (fun os started H enc _ F => by rw [OpenClaim.pre_eq_preRow]; exact liftedPaired os started H enc F)

theorem plainPaired (f : FuncId) (fn : Func) (hf : Tryd.pinned.checked.prog.funcNamed Tryd.f4.name = some f) (hfn : Tryd.pinned.checked.prog.funcs[f]? = some fn) :
    false = Tryd.pinned.checked.prog.looks [] ∧ ∀ (j : Nat) t, fn.params[j]? = some t → Tryd.pinned.checked.prog.wantsStandIn t = false := by
  obtain rfl : f = 4 := Option.some.inj ((show Tryd.prog.funcNamed Tryd.f4.name = some 4 by kernel_rfl).symm.trans hf) |>.symm
  obtain rfl : fn = Tryd.f4 := (Option.some.inj (Tryd.func4.symm.trans hfn)).symm
  refine ⟨by kernel_rfl, fun j t ht => ?_⟩
  rw [Tryd.params4] at ht
  have hm : t ∈ [27, 27] := by simpa using Array.mem_of_getElem? ht
  have hall : ([27, 27].all fun u => !Tryd.prog.wantsStandIn u) = true := by kernel_rfl
  exact (show Tryd.prog.wantsStandIn t = false by simpa using List.all_eq_true.1 hall t hm)

/-- The card. -/
theorem paired_card : Rows.PairedCardSaid :=
  Claim7.holds_tied_plain_at .later [] _ _ _ _ saidPaired (fun _ h => by cases h) (by kernel_rfl) (fun _ h => by cases h) paired_row_tie rfl ⟨rfl, rfl⟩ (by kernel_rfl) rfl plainPaired (by kernel_rfl)
#print axioms paired_card
end Go.Proofs.YtkcnageeamappaaDoor
