/-
  For every two rows of numbers and two numbers the law moorkeep.Beside answers true and leaves its arguments as they were; the card ties the listed package-level variables to the program's text.
-/
import Derived.Test.YtkcnageeamappaaGreatDoorCards
import Derived.Test.YtkcnageeamappaaGreatDoorTie
import Derived.Test.YtkcnageeamappaaGreatDoorJKEnv
import Derived.Test.YtkcnageeamappaaGreatDoorJKBeside
import Derived.Test.YtkcnageeamappaaGreatDoorJLaidK
namespace Go.Proofs.YtkcnageeamappaaGreatDoor
open Go.ChangeShapes Go.WideShapes Go.ChangeAt Go.RowKit Go.Moor
open Go.ChangeMaps (open_string shut_string)

theorem ownBeside : ownKnob Tryz.prog.godebug = none := by kernel_rfl
/-- The row's list, beside the handle. -/
def laidBeside : List (String × DataW Unit) := [("math/bits.deBruijn32tab", Rows.laid_math_bits_deBruijn32tab), ("math/bits.deBruijn64tab", Rows.laid_math_bits_deBruijn64tab), ("internal/strconv.uint64pow10", Rows.laid_internal_strconv_uint64pow10), ("unicode/utf8.acceptRanges", Rows.laid_unicode_utf8_acceptRanges), ("strconv.ErrRange", Rows.laid_strconv_ErrRange), ("strconv.ErrSyntax", Rows.laid_strconv_ErrSyntax), ("moor/escape.sets", Rows.laid_moor_escape_sets), ("moor/host.errEmpty", Rows.laid_moor_host_errEmpty), ("moor/host.errBracket", Rows.laid_moor_host_errBracket), ("moor/host.errCount", Rows.laid_moor_host_errCount), ("moor/host.errLength", Rows.laid_moor_host_errLength), ("moor/host.errNought", Rows.laid_moor_host_errNought), ("moor/host.errTooGreat", Rows.laid_moor_host_errTooGreat), ("moor/address.errNoBase", Rows.laid_moor_address_errNoBase), ("moor/address.errOpaqueBase", Rows.laid_moor_address_errOpaqueBase), ("moor/address.errNoHost", Rows.laid_moor_address_errNoHost), ("moor/moorkeep.schemes", Rows.laid_moor_moorkeep_schemes), ("unicode.CaseRanges", Rows.laid_unicode_CaseRanges), ("unicode/utf8.first", Rows.laid_unicode_utf8_first)]
theorem partsBeside {W : World} (h : laidMetH Tryz.prog Rows.besideRow.laid W) : laidMet Tryz.prog laidBeside W ∧ handlesMet Tryz.prog [("errors.errorType", Rows.laid_errors_errorType)] W := h
theorem envBeside {W : World} (h : laidMetH Tryz.prog Rows.besideRow.laid W) (hsh : W.ShapedOpen Tryz.prog) : Tryz.Env2 W := by
  obtain ⟨hp, hh⟩ := partsBeside h
  refine env2_of_reads (fun x hx => Lib.laidMet.reads hp (n := x.1) (d := x.2) ?_) (fun x hx => Lib.laidMet.reads hp (n := x.1) (d := x.2) ?_) hh hsh
  · simp only [plainLaid, List.mem_cons, List.not_mem_nil, or_false] at hx
    rcases hx with rfl | rfl | rfl | rfl | rfl | rfl | rfl | rfl | rfl | rfl | rfl | rfl | rfl <;> simp [laidBeside]
  · simp only [needLaid, List.mem_cons, List.not_mem_nil, or_false] at hx
    rcases hx with rfl | rfl | rfl | rfl | rfl <;> simp [laidBeside]

set_option maxRecDepth 100000 in
theorem contractBeside (H : Type) (enc : TypeId × Value → H) (W : World) (base : Nat) (args : Array Value) (ds gs : List (DataW H)) (before : List MemPlace)
    (hval : ∀ (j : Nat) t v, Tryz.f8.params[j]? = some t → args[j]? = some v → Value.okWide Tryz.prog W .any base t v)
    (hW : DataW.Whole enc Tryz.prog Tryz.f8.params.toList Rows.besideSpec.vars false W args.toList ds gs before) (hL : laidMetH Tryz.prog Rows.besideRow.laid W) (hsh : W.ShapedOpen Tryz.prog) :
    Calls Tryz.prog 8 args W fun e W' => ∃ v, e = .returned v ∧ Rows.besideSpec.post enc Tryz.prog Tryz.f8 false true false false W args v W' := by
  have hW' := hW
  obtain ⟨p, q, hA0, hV, rfl, hfz, hnd⟩ := hW
  have hA : DataW.TrodAll enc Tryz.prog W 0 (fun _ => true) true Tryz.f8.params.toList args.toList ds p := hA0
  rw [Tryz.params8] at hA hval
  obtain ⟨v0, vs0, d0, ds0, p0, q0, hargs, rfl, rfl, h0, r0⟩ := trodAll_cons hA
  obtain ⟨v1, vs1, d1, ds1, p1, q1, rfl, rfl, rfl, h1, r1⟩ := trodAll_cons r0
  obtain ⟨v2, vs2, d2, ds2, p2, q2, rfl, rfl, rfl, h2, r2⟩ := trodAll_cons r1
  obtain ⟨v3, vs3, d3, ds3, p3, q3, rfl, rfl, rfl, h3, r3⟩ := trodAll_cons r2
  obtain ⟨rfl, rfl, rfl⟩ := trodAll_nil r3
  obtain rfl : args = #[v0, v1, v2, v3] := Array.toList_inj.1 hargs
  obtain ⟨rfl, rfl⟩ := trodVars_none hV
  obtain ⟨sp0, cap0, xs0, rfl, hx0, hr0, hs0⟩ := open_row (hval 0 33 v0 rfl rfl) h0
  obtain ⟨a1, rfl, rfl, rfl, w1⟩ := open_int Tryz.underlying3 (hval 1 3 v1 rfl rfl) h1
  obtain ⟨sp2, cap2, xs2, rfl, hx2, hr2, hs2⟩ := open_row (hval 2 33 v2 rfl rfl) h2
  obtain ⟨a3, rfl, rfl, rfl, w3⟩ := open_int Tryz.underlying3 (hval 3 3 v3 rfl rfl) h3
  clear hA0
  simp only [List.append_nil, List.nil_append] at hW'
  have HEnv := envBeside hL hsh
  refine (Tryz.Beside_any sp0 cap0 xs0 a1 sp2 cap2 xs2 a3 W (int_in w1).1 (int_in w1).2 (int_in w3).1 (int_in w3).2 hx0 hx2 hr0 hr2 HEnv (schemes_of_reads (Lib.laidMet.reads (partsBeside hL).1 (n := "moor/moorkeep.schemes") (by simp [laidBeside])))).mono fun e W' ⟨he, hb⟩ => ?_
  subst he
  refine ⟨_, rfl, _, _, _, [], p0 ++ p2, [], hW', ?_, ?_, ?_, hb.frame _, fun h => by cases h⟩
  · exact trodAll_cons_mk (shut_bool Tryz.underlying4 _) trodAll_mk0
  · have := trodAll_cons_mk (hs0 W' hb) (trodAll_cons_mk (shut_int Tryz.underlying3 w1) (trodAll_cons_mk (hs2 W' hb) (trodAll_cons_mk (shut_int Tryz.underlying3 w3) (trodAll_mk0))))
    simp only [List.append_nil, List.nil_append] at this
    exact this
  · rfl

set_option maxRecDepth 1000000 in
theorem metBeside (os : Os) (args : Array Value) : laidMetH Tryz.prog Rows.besideRow.laid (((({ World.holding Tryz.prog os ⟨#[], #[], []⟩ with heap := (World.holding Tryz.prog os ⟨#[], #[], []⟩).heap.modify 2 fun | .cells _ t frozen => .cells #[.iface 193 (.agg #[.pointer (some ⟨29, 65, none⟩)])] t frozen | o => o } : World).layVars Tryz.prog laidBeside)).forCall (fun _ _ => 0) ⟨#[], args, []⟩).memory := by
  have h : laidMet Tryz.prog laidBeside (({ World.holding Tryz.prog os ⟨#[], #[], []⟩ with heap := (World.holding Tryz.prog os ⟨#[], #[], []⟩).heap.modify 2 fun | .cells _ t frozen => .cells #[.iface 193 (.agg #[.pointer (some ⟨29, 65, none⟩)])] t frozen | o => o } : World).layVars Tryz.prog laidBeside) := by
    have e1 : (laidBeside.filter fun x => (laidBeside.map (·.1)).contains x.1) = laidBeside := List.filter_eq_self.2 fun x hx => List.contains_iff_mem.2 (List.mem_map.2 ⟨x, hx, rfl⟩)
    have e2 : (laidBeside.filter fun x => !(laidBeside.map (·.1)).contains x.1) = [] := List.filter_eq_nil_iff.2 fun x hx => by rw [List.contains_iff_mem.2 (List.mem_map.2 ⟨x, hx, rfl⟩)]; simp
    exact laidMet_layVars (w0 := ({ World.holding Tryz.prog os ⟨#[], #[], []⟩ with heap := (World.holding Tryz.prog os ⟨#[], #[], []⟩).heap.modify 2 fun | .cells _ t frozen => .cells #[.iface 193 (.agg #[.pointer (some ⟨29, 65, none⟩)])] t frozen | o => o } : World)) (laidBeside.map (·.1)) [] (by rw [e1]) (by rw [e1]; kernel_rfl) (by rw [e1]; kernel_rfl) (by rw [e2]; exact LaidIn.none)
  exact laidMetH_of_parts (h.of_heap (by simp [World.memory, World.forCall, Input.heap])) (by kernel_rfl)

set_option maxRecDepth 1000000 in
theorem wit1Beside (os : Os) : (((({ World.holding Tryz.prog os ⟨#[], #[], []⟩ with heap := (World.holding Tryz.prog os ⟨#[], #[], []⟩).heap.modify 2 fun | .cells _ t frozen => .cells #[.iface 193 (.agg #[.pointer (some ⟨29, 65, none⟩)])] t frozen | o => o } : World).layVars Tryz.prog laidBeside)).forCall (fun _ _ => 0) ⟨#[], #[.slice none 0 0, .int .i64 0, .slice none 0 0, .int .i64 0], []⟩).variablesZipB Tryz.prog = true := by kernel_rfl
set_option maxRecDepth 1000000 in
theorem wit2Beside (os : Os) : ((((({ World.holding Tryz.prog os ⟨#[], #[], []⟩ with heap := (World.holding Tryz.prog os ⟨#[], #[], []⟩).heap.modify 2 fun | .cells _ t frozen => .cells #[.iface 193 (.agg #[.pointer (some ⟨29, 65, none⟩)])] t frozen | o => o } : World).layVars Tryz.prog laidBeside)).forCall (fun _ _ => 0) ⟨#[], #[.slice none 0 0, .int .i64 0, .slice none 0 0, .int .i64 0], []⟩).heap.toList.drop Tryz.prog.globals.size).take ((begin Tryz.prog (fun _ _ => 0) default).world.heap.size - Tryz.prog.globals.size) = (begin Tryz.prog (fun _ _ => 0) default).world.heap.toList.drop Tryz.prog.globals.size := by kernel_rfl
set_option maxRecDepth 1000000 in
theorem wit3Beside (os : Os) : Input.okWideB Tryz.prog (((({ World.holding Tryz.prog os ⟨#[], #[], []⟩ with heap := (World.holding Tryz.prog os ⟨#[], #[], []⟩).heap.modify 2 fun | .cells _ t frozen => .cells #[.iface 193 (.agg #[.pointer (some ⟨29, 65, none⟩)])] t frozen | o => o } : World).layVars Tryz.prog laidBeside)).forCall (fun _ _ => 0) ⟨#[], #[.slice none 0 0, .int .i64 0, .slice none 0 0, .int .i64 0], []⟩) 8 ⟨#[], #[.slice none 0 0, .int .i64 0, .slice none 0 0, .int .i64 0], []⟩ = true := by kernel_rfl
set_option maxRecDepth 1000000 in
theorem wit4Beside (os : Os) (H : Type) (enc : TypeId × Value → H) : Rows.besideSpec.preB enc Tryz.prog Tryz.f8 Rows.besideRow.domain false (((({ World.holding Tryz.prog os ⟨#[], #[], []⟩ with heap := (World.holding Tryz.prog os ⟨#[], #[], []⟩).heap.modify 2 fun | .cells _ t frozen => .cells #[.iface 193 (.agg #[.pointer (some ⟨29, 65, none⟩)])] t frozen | o => o } : World).layVars Tryz.prog laidBeside)).forCall (fun _ _ => 0) ⟨#[], #[.slice none 0 0, .int .i64 0, .slice none 0 0, .int .i64 0], []⟩).memory #[.slice none 0 0, .int .i64 0, .slice none 0 0, .int .i64 0] 8 = true := by kernel_rfl
set_option maxRecDepth 1000000 in
theorem wit5Beside (os : Os) (H : Type) (enc : TypeId × Value → H) : Rows.besideSpec.sizedB enc Tryz.prog Tryz.f8 false (((({ World.holding Tryz.prog os ⟨#[], #[], []⟩ with heap := (World.holding Tryz.prog os ⟨#[], #[], []⟩).heap.modify 2 fun | .cells _ t frozen => .cells #[.iface 193 (.agg #[.pointer (some ⟨29, 65, none⟩)])] t frozen | o => o } : World).layVars Tryz.prog laidBeside)).forCall (fun _ _ => 0) ⟨#[], #[.slice none 0 0, .int .i64 0, .slice none 0 0, .int .i64 0], []⟩).memory #[.slice none 0 0, .int .i64 0, .slice none 0 0, .int .i64 0] 8 = true := by kernel_rfl

set_option maxRecDepth 1000000 in
theorem liftedBeside (os : Os) (started : os.Started) (H : Type) (enc : TypeId × Value → H) (F : Stop.Interp) :
    ReturnsInHanded {} Tryz.checked os 8 .any ((OpenSpec.ofChange Rows.besideSpec).preRow enc Tryz.prog Tryz.f8 Rows.besideRow.domain false Rows.besideRow.laid) (((OpenSpec.ofChange Rows.besideSpec).at F).post enc Tryz.prog Tryz.f8 false true false false) := by
  refine returnsInHanded_of_row (C := Tryz.checked) (s := OpenSpec.ofChange Rows.besideSpec) ownBeside started (by kernel_rfl) Tryz.func8
    (ChangeSpec.witness_shaped (enc := enc) (C := Tryz.checked) (os := os) (X := fun w _ => laidMetH Tryz.prog Rows.besideRow.laid w) false (({ World.holding Tryz.prog os ⟨#[], #[], []⟩ with heap := (World.holding Tryz.prog os ⟨#[], #[], []⟩).heap.modify 2 fun | .cells _ t frozen => .cells #[.iface 193 (.agg #[.pointer (some ⟨29, 65, none⟩)])] t frozen | o => o } : World).layVars Tryz.prog laidBeside) #[.slice none 0 0, .int .i64 0, .slice none 0 0, .int .i64 0] 8 (World.layVars_os _ _ _)
      (World.shaped_of_ZipB (wit1Beside os) (wit2Beside os)) (wit3Beside os) (wit4Beside os H enc) (wit5Beside os H enc) (metBeside os _)) ?_
  intro W base args ds gs before hval hW _ _ _ hL hsh _
  exact contractBeside H enc W base args ds gs before hval hW hL hsh

set_option maxRecDepth 1000000 in
theorem sfaBeside : Tryz.pinned.checked.prog.funcNamed Rows.besideRow.func = some 8 := by kernel_rfl
set_option maxRecDepth 1000000 in
set_option maxHeartbeats 40000000 in
theorem sfbBeside : joinedFacts Tryz.pinned.checked.prog 8 Tryz.f8 (OpenSpec.ofChange Rows.besideSpec).bare Rows.besideRow = true := by
  have gen : ∀ P fn s c, P = Tryz.pinned.checked.prog → fn = Tryz.f8 → s = (OpenSpec.ofChange Rows.besideSpec).bare → c = Rows.besideRow → joinedFacts P 8 fn s c = true := by
    intro P fn s c hP hfn hs hc
    unfold joinedFacts
    repeat' (refine (Bool.and_eq_true_iff).2 ⟨?_, ?_⟩)
    all_goals (subst hP; subst hfn; subst hs; subst hc)
    all_goals (as_aux_lemma => kernel_rfl)
  exact gen _ _ _ _ rfl rfl rfl rfl
set_option maxRecDepth 1000000 in
theorem sfcBeside : Tryz.f8.isInstance Tryz.pinned.checked.prog Rows.besideRow.origin Rows.besideRow.targs := of_decide_eq_true (by kernel_rfl)
set_option maxRecDepth 1000000 in
theorem sfdBeside : Tryz.f8.isWrapper Tryz.pinned.checked.prog Rows.besideRow.wrapper Rows.besideRow.mainSum := by unfold Func.isWrapper; first | (rw [if_pos (by decide +kernel)]; kernel_rfl) | (rw [if_neg (by decide +kernel)]; exact ⟨rfl, rfl⟩)
theorem saidBeside : Rows.BesideSaid :=
  OpenClaim.holds_of_cond 8 Tryz.f8 rfl rfl rfl rfl rfl rfl rfl ⟨rfl, rfl, rfl, rfl, rfl⟩ rfl rfl rfl rfl rfl sfaBeside Tryz.func8 sfbBeside sfcBeside sfdBeside
    (fun os started H enc _ F => by rw [OpenClaim.pre_eq_preRow]; exact liftedBeside os started H enc F)

theorem plainBeside (f : FuncId) (fn : Func) (hf : Tryz.pinned.checked.prog.funcNamed Tryz.f8.name = some f) (hfn : Tryz.pinned.checked.prog.funcs[f]? = some fn) :
    true = Tryz.pinned.checked.prog.looks [] ∧ ∀ (j : Nat) t, fn.params[j]? = some t → Tryz.pinned.checked.prog.wantsStandIn t = false := by
  obtain rfl : f = 8 := Option.some.inj ((show Tryz.prog.funcNamed Tryz.f8.name = some 8 by kernel_rfl).symm.trans hf) |>.symm
  obtain rfl : fn = Tryz.f8 := (Option.some.inj (Tryz.func8.symm.trans hfn)).symm
  refine ⟨by kernel_rfl, fun j t ht => ?_⟩
  rw [Tryz.params8] at ht
  have hm : t ∈ [33, 3, 33, 3] := by simpa using Array.mem_of_getElem? ht
  have hall : ([33, 3, 33, 3].all fun u => !Tryz.prog.wantsStandIn u) = true := by kernel_rfl
  exact (show Tryz.prog.wantsStandIn t = false by simpa using List.all_eq_true.1 hall t hm)

/-- The card. -/
theorem beside_card : Rows.BesideCardSaid :=
  Claim7.holds_tied_plain_at .later [] _ _ _ _ saidBeside (fun _ h => by cases h) (by kernel_rfl) (fun _ h => by cases h) beside_row_tie rfl ⟨rfl, rfl⟩ (by kernel_rfl) rfl plainBeside (by kernel_rfl)
#print axioms beside_card
end Go.Proofs.YtkcnageeamappaaGreatDoor
