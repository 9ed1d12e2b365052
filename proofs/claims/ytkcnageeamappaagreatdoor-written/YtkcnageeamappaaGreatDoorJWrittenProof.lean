/-
  For every row of numbers and three numbers the law moorkeep.Written answers true and leaves its arguments as they were; the card ties the listed package-level variables to the program's text.
-/
import Derived.Test.YtkcnageeamappaaGreatDoorCards
import Derived.Test.YtkcnageeamappaaGreatDoorTie
import Derived.Test.YtkcnageeamappaaGreatDoorJKEnv
import Derived.Test.YtkcnageeamappaaGreatDoorJKWritten
import Derived.Test.YtkcnageeamappaaGreatDoorJLaidP
namespace Go.Proofs.YtkcnageeamappaaGreatDoor
open Go.ChangeShapes Go.WideShapes Go.ChangeAt Go.RowKit Go.Moor
open Go.ChangeMaps (open_string shut_string)

theorem ownWritten : ownKnob Tryz.prog.godebug = none := by kernel_rfl
/-- The row's list, beside the handle. -/
def laidWritten : List (String × DataW Unit) := [("math/bits.deBruijn32tab", Rows.laid_math_bits_deBruijn32tab), ("math/bits.deBruijn64tab", Rows.laid_math_bits_deBruijn64tab), ("internal/strconv.uint64pow10", Rows.laid_internal_strconv_uint64pow10), ("unicode/utf8.acceptRanges", Rows.laid_unicode_utf8_acceptRanges), ("strconv.ErrRange", Rows.laid_strconv_ErrRange), ("strconv.ErrSyntax", Rows.laid_strconv_ErrSyntax), ("moor/escape.sets", Rows.laid_moor_escape_sets), ("moor/host.errEmpty", Rows.laid_moor_host_errEmpty), ("moor/host.errBracket", Rows.laid_moor_host_errBracket), ("moor/host.errCount", Rows.laid_moor_host_errCount), ("moor/host.errLength", Rows.laid_moor_host_errLength), ("moor/host.errNought", Rows.laid_moor_host_errNought), ("moor/host.errTooGreat", Rows.laid_moor_host_errTooGreat), ("moor/address.errNoBase", Rows.laid_moor_address_errNoBase), ("moor/address.errOpaqueBase", Rows.laid_moor_address_errOpaqueBase), ("moor/address.errNoHost", Rows.laid_moor_address_errNoHost), ("moor/moorkeep.schemes", Rows.laid_moor_moorkeep_schemes), ("moor/moorkeep.ports", Rows.laid_moor_moorkeep_ports), ("unicode.CaseRanges", Rows.laid_unicode_CaseRanges), ("unicode/utf8.first", Rows.laid_unicode_utf8_first)]
theorem partsWritten {W : World} (h : laidMetH Tryz.prog Rows.writtenRow.laid W) : laidMet Tryz.prog laidWritten W ∧ handlesMet Tryz.prog [("errors.errorType", Rows.laid_errors_errorType)] W := h
theorem envWritten {W : World} (h : laidMetH Tryz.prog Rows.writtenRow.laid W) (hsh : W.ShapedOpen Tryz.prog) : Tryz.Env2 W := by
  obtain ⟨hp, hh⟩ := partsWritten h
  refine env2_of_reads (fun x hx => Lib.laidMet.reads hp (n := x.1) (d := x.2) ?_) (fun x hx => Lib.laidMet.reads hp (n := x.1) (d := x.2) ?_) hh hsh
  · simp only [plainLaid, List.mem_cons, List.not_mem_nil, or_false] at hx
    rcases hx with rfl | rfl | rfl | rfl | rfl | rfl | rfl | rfl | rfl | rfl | rfl | rfl | rfl <;> simp [laidWritten]
  · simp only [needLaid, List.mem_cons, List.not_mem_nil, or_false] at hx
    rcases hx with rfl | rfl | rfl | rfl | rfl <;> simp [laidWritten]

set_option maxRecDepth 100000 in
theorem contractWritten (H : Type) (enc : TypeId × Value → H) (W : World) (base : Nat) (args : Array Value) (ds gs : List (DataW H)) (before : List MemPlace)
    (hval : ∀ (j : Nat) t v, Tryz.f9.params[j]? = some t → args[j]? = some v → Value.okWide Tryz.prog W .any base t v)
    (hW : DataW.Whole enc Tryz.prog Tryz.f9.params.toList Rows.writtenSpec.vars false W args.toList ds gs before) (hL : laidMetH Tryz.prog Rows.writtenRow.laid W) (hsh : W.ShapedOpen Tryz.prog) :
    Calls Tryz.prog 9 args W fun e W' => ∃ v, e = .returned v ∧ Rows.writtenSpec.post enc Tryz.prog Tryz.f9 false true false false W args v W' := by
  have hW' := hW
  obtain ⟨p, q, hA0, hV, rfl, hfz, hnd⟩ := hW
  have hA : DataW.TrodAll enc Tryz.prog W 0 (fun _ => true) true Tryz.f9.params.toList args.toList ds p := hA0
  rw [Tryz.params9] at hA hval
  obtain ⟨v0, vs0, d0, ds0, p0, q0, hargs, rfl, rfl, h0, r0⟩ := trodAll_cons hA
  obtain ⟨v1, vs1, d1, ds1, p1, q1, rfl, rfl, rfl, h1, r1⟩ := trodAll_cons r0
  obtain ⟨v2, vs2, d2, ds2, p2, q2, rfl, rfl, rfl, h2, r2⟩ := trodAll_cons r1
  obtain ⟨v3, vs3, d3, ds3, p3, q3, rfl, rfl, rfl, h3, r3⟩ := trodAll_cons r2
  obtain ⟨rfl, rfl, rfl⟩ := trodAll_nil r3
  obtain rfl : args = #[v0, v1, v2, v3] := Array.toList_inj.1 hargs
  obtain ⟨rfl, rfl⟩ := trodVars_none hV
  obtain ⟨sp0, cap0, xs0, rfl, hx0, hr0, hs0⟩ := open_row (hval 0 33 v0 rfl rfl) h0
  obtain ⟨a1, rfl, rfl, rfl, w1⟩ := open_int Tryz.underlying3 (hval 1 3 v1 rfl rfl) h1
  obtain ⟨a2, rfl, rfl, rfl, w2⟩ := open_int Tryz.underlying3 (hval 2 3 v2 rfl rfl) h2
  obtain ⟨a3, rfl, rfl, rfl, w3⟩ := open_int Tryz.underlying3 (hval 3 3 v3 rfl rfl) h3
  clear hA0
  simp only [List.append_nil] at hW'
  have HEnv := envWritten hL hsh
  refine (Tryz.Written_any sp0 cap0 xs0 a1 a2 a3 W (int_in w1).1 (int_in w1).2 (int_in w2).1 (int_in w2).2 (int_in w3).1 (int_in w3).2 hx0 hr0 HEnv (schemes_of_reads (Lib.laidMet.reads (partsWritten hL).1 (n := "moor/moorkeep.schemes") (by simp [laidWritten]))) (ports_of_reads (Lib.laidMet.reads (partsWritten hL).1 (n := "moor/moorkeep.ports") (by simp [laidWritten])))).mono fun e W' ⟨he, hb⟩ => ?_
  subst he
  refine ⟨_, rfl, _, _, _, [], p0, [], hW', ?_, ?_, ?_, hb.frame _, fun h => by cases h⟩
  · exact trodAll_cons_mk (shut_bool Tryz.underlying4 _) trodAll_mk0
  · have := trodAll_cons_mk (hs0 W' hb) (trodAll_cons_mk (shut_int Tryz.underlying3 w1) (trodAll_cons_mk (shut_int Tryz.underlying3 w2) (trodAll_cons_mk (shut_int Tryz.underlying3 w3) (trodAll_mk0))))
    simp only [List.append_nil] at this
    exact this
  · rfl

set_option maxRecDepth 1000000 in
theorem metWritten (os : Os) (args : Array Value) : laidMetH Tryz.prog Rows.writtenRow.laid (((({ World.holding Tryz.prog os ⟨#[], #[], []⟩ with heap := (World.holding Tryz.prog os ⟨#[], #[], []⟩).heap.modify 2 fun | .cells _ t frozen => .cells #[.iface 193 (.agg #[.pointer (some ⟨29, 65, none⟩)])] t frozen | o => o } : World).layVars Tryz.prog laidWritten)).forCall (fun _ _ => 0) ⟨#[], args, []⟩).memory := by
  have h : laidMet Tryz.prog laidWritten (({ World.holding Tryz.prog os ⟨#[], #[], []⟩ with heap := (World.holding Tryz.prog os ⟨#[], #[], []⟩).heap.modify 2 fun | .cells _ t frozen => .cells #[.iface 193 (.agg #[.pointer (some ⟨29, 65, none⟩)])] t frozen | o => o } : World).layVars Tryz.prog laidWritten) := by
    have e1 : (laidWritten.filter fun x => (laidWritten.map (·.1)).contains x.1) = laidWritten := List.filter_eq_self.2 fun x hx => List.contains_iff_mem.2 (List.mem_map.2 ⟨x, hx, rfl⟩)
    have e2 : (laidWritten.filter fun x => !(laidWritten.map (·.1)).contains x.1) = [] := List.filter_eq_nil_iff.2 fun x hx => by rw [List.contains_iff_mem.2 (List.mem_map.2 ⟨x, hx, rfl⟩)]; simp
    exact laidMet_layVars (w0 := ({ World.holding Tryz.prog os ⟨#[], #[], []⟩ with heap := (World.holding Tryz.prog os ⟨#[], #[], []⟩).heap.modify 2 fun | .cells _ t frozen => .cells #[.iface 193 (.agg #[.pointer (some ⟨29, 65, none⟩)])] t frozen | o => o } : World)) (laidWritten.map (·.1)) [] (by rw [e1]) (by rw [e1]; kernel_rfl) (by rw [e1]; kernel_rfl) (by rw [e2]; exact LaidIn.none)
  exact laidMetH_of_parts (h.of_heap (by simp [World.memory, World.forCall, Input.heap])) (by kernel_rfl)

set_option maxRecDepth 1000000 in
theorem wit1Written (os : Os) : (((({ World.holding Tryz.prog os ⟨#[], #[], []⟩ with heap := (World.holding Tryz.prog os ⟨#[], #[], []⟩).heap.modify 2 fun | .cells _ t frozen => .cells #[.iface 193 (.agg #[.pointer (some ⟨29, 65, none⟩)])] t frozen | o => o } : World).layVars Tryz.prog laidWritten)).forCall (fun _ _ => 0) ⟨#[], #[.slice none 0 0, .int .i64 0, .int .i64 0, .int .i64 0], []⟩).variablesZipB Tryz.prog = true := by kernel_rfl
set_option maxRecDepth 1000000 in
theorem wit2Written (os : Os) : ((((({ World.holding Tryz.prog os ⟨#[], #[], []⟩ with heap := (World.holding Tryz.prog os ⟨#[], #[], []⟩).heap.modify 2 fun | .cells _ t frozen => .cells #[.iface 193 (.agg #[.pointer (some ⟨29, 65, none⟩)])] t frozen | o => o } : World).layVars Tryz.prog laidWritten)).forCall (fun _ _ => 0) ⟨#[], #[.slice none 0 0, .int .i64 0, .int .i64 0, .int .i64 0], []⟩).heap.toList.drop Tryz.prog.globals.size).take ((begin Tryz.prog (fun _ _ => 0) default).world.heap.size - Tryz.prog.globals.size) = (begin Tryz.prog (fun _ _ => 0) default).world.heap.toList.drop Tryz.prog.globals.size := by kernel_rfl
set_option maxRecDepth 1000000 in
theorem wit3Written (os : Os) : Input.okWideB Tryz.prog (((({ World.holding Tryz.prog os ⟨#[], #[], []⟩ with heap := (World.holding Tryz.prog os ⟨#[], #[], []⟩).heap.modify 2 fun | .cells _ t frozen => .cells #[.iface 193 (.agg #[.pointer (some ⟨29, 65, none⟩)])] t frozen | o => o } : World).layVars Tryz.prog laidWritten)).forCall (fun _ _ => 0) ⟨#[], #[.slice none 0 0, .int .i64 0, .int .i64 0, .int .i64 0], []⟩) 9 ⟨#[], #[.slice none 0 0, .int .i64 0, .int .i64 0, .int .i64 0], []⟩ = true := by kernel_rfl
set_option maxRecDepth 1000000 in
theorem wit4Written (os : Os) (H : Type) (enc : TypeId × Value → H) : Rows.writtenSpec.preB enc Tryz.prog Tryz.f9 Rows.writtenRow.domain false (((({ World.holding Tryz.prog os ⟨#[], #[], []⟩ with heap := (World.holding Tryz.prog os ⟨#[], #[], []⟩).heap.modify 2 fun | .cells _ t frozen => .cells #[.iface 193 (.agg #[.pointer (some ⟨29, 65, none⟩)])] t frozen | o => o } : World).layVars Tryz.prog laidWritten)).forCall (fun _ _ => 0) ⟨#[], #[.slice none 0 0, .int .i64 0, .int .i64 0, .int .i64 0], []⟩).memory #[.slice none 0 0, .int .i64 0, .int .i64 0, .int .i64 0] 8 = true := by kernel_rfl
set_option maxRecDepth 1000000 in
theorem wit5Written (os : Os) (H : Type) (enc : TypeId × Value → H) : Rows.writtenSpec.sizedB enc Tryz.prog Tryz.f9 false (((({ World.holding Tryz.prog os ⟨#[], #[], []⟩ with heap := (World.holding Tryz.prog os ⟨#[], #[], []⟩).heap.modify 2 fun | .cells _ t frozen => .cells #[.iface 193 (.agg #[.pointer (some ⟨29, 65, none⟩)])] t frozen | o => o } : World).layVars Tryz.prog laidWritten)).forCall (fun _ _ => 0) ⟨#[], #[.slice none 0 0, .int .i64 0, .int .i64 0, .int .i64 0], []⟩).memory #[.slice none 0 0, .int .i64 0, .int .i64 0, .int .i64 0] 8 = true := by kernel_rfl

set_option maxRecDepth 1000000 in
theorem liftedWritten (os : Os) (started : os.Started) (H : Type) (enc : TypeId × Value → H) (F : Stop.Interp) :
    ReturnsInHanded {} Tryz.checked os 9 .any ((OpenSpec.ofChange Rows.writtenSpec).preRow enc Tryz.prog Tryz.f9 Rows.writtenRow.domain false Rows.writtenRow.laid) (((OpenSpec.ofChange Rows.writtenSpec).at F).post enc Tryz.prog Tryz.f9 false true false false) := by
  refine returnsInHanded_of_row (C := Tryz.checked) (s := OpenSpec.ofChange Rows.writtenSpec) ownWritten started (by kernel_rfl) Tryz.func9
    (ChangeSpec.witness_shaped (enc := enc) (C := Tryz.checked) (os := os) (X := fun w _ => laidMetH Tryz.prog Rows.writtenRow.laid w) false (({ World.holding Tryz.prog os ⟨#[], #[], []⟩ with heap := (World.holding Tryz.prog os ⟨#[], #[], []⟩).heap.modify 2 fun | .cells _ t frozen => .cells #[.iface 193 (.agg #[.pointer (some ⟨29, 65, none⟩)])] t frozen | o => o } : World).layVars Tryz.prog laidWritten) #[.slice none 0 0, .int .i64 0, .int .i64 0, .int .i64 0] 8 (World.layVars_os _ _ _)
      (World.shaped_of_ZipB (wit1Written os) (wit2Written os)) (wit3Written os) (wit4Written os H enc) (wit5Written os H enc) (metWritten os _)) ?_
  intro W base args ds gs before hval hW _ _ _ hL hsh _
  exact contractWritten H enc W base args ds gs before hval hW hL hsh

set_option maxRecDepth 1000000 in
theorem sfaWritten : Tryz.pinned.checked.prog.funcNamed Rows.writtenRow.func = some 9 := by kernel_rfl
set_option maxRecDepth 1000000 in
set_option maxHeartbeats 40000000 in
theorem sfbWritten : joinedFacts Tryz.pinned.checked.prog 9 Tryz.f9 (OpenSpec.ofChange Rows.writtenSpec).bare Rows.writtenRow = true := by
  have gen : ∀ P fn s c, P = Tryz.pinned.checked.prog → fn = Tryz.f9 → s = (OpenSpec.ofChange Rows.writtenSpec).bare → c = Rows.writtenRow → joinedFacts P 9 fn s c = true := by
    intro P fn s c hP hfn hs hc
    unfold joinedFacts
    repeat' (refine (Bool.and_eq_true_iff).2 ⟨?_, ?_⟩)
    all_goals (subst hP; subst hfn; subst hs; subst hc)
    all_goals (as_aux_lemma => kernel_rfl)
  exact gen _ _ _ _ rfl rfl rfl rfl
set_option maxRecDepth 1000000 in
theorem sfcWritten : Tryz.f9.isInstance Tryz.pinned.checked.prog Rows.writtenRow.origin Rows.writtenRow.targs := of_decide_eq_true (by kernel_rfl)
set_option maxRecDepth 1000000 in
theorem sfdWritten : Tryz.f9.isWrapper Tryz.pinned.checked.prog Rows.writtenRow.wrapper Rows.writtenRow.mainSum := by unfold Func.isWrapper; first | (rw [if_pos (by decide +kernel)]; kernel_rfl) | (rw [if_neg (by decide +kernel)]; exact ⟨rfl, rfl⟩)
theorem saidWritten : Rows.WrittenSaid :=
  OpenClaim.holds_of_cond 9 Tryz.f9 rfl rfl rfl rfl rfl rfl rfl ⟨rfl, rfl, rfl, rfl, rfl⟩ rfl rfl rfl rfl rfl sfaWritten Tryz.func9 sfbWritten sfcWritten sfdWritten
    (fun os started H enc _ F => by rw [OpenClaim.pre_eq_preRow]; exact liftedWritten os started H enc F)

theorem plainWritten (f : FuncId) (fn : Func) (hf : Tryz.pinned.checked.prog.funcNamed Tryz.f9.name = some f) (hfn : Tryz.pinned.checked.prog.funcs[f]? = some fn) :
    true = Tryz.pinned.checked.prog.looks [] ∧ ∀ (j : Nat) t, fn.params[j]? = some t → Tryz.pinned.checked.prog.wantsStandIn t = false := by
  obtain rfl : f = 9 := Option.some.inj ((show Tryz.prog.funcNamed Tryz.f9.name = some 9 by kernel_rfl).symm.trans hf) |>.symm
  obtain rfl : fn = Tryz.f9 := (Option.some.inj (Tryz.func9.symm.trans hfn)).symm
  refine ⟨by kernel_rfl, fun j t ht => ?_⟩
  rw [Tryz.params9] at ht
  have hm : t ∈ [33, 3, 3, 3] := by simpa using Array.mem_of_getElem? ht
  have hall : ([33, 3, 3, 3].all fun u => !Tryz.prog.wantsStandIn u) = true := by kernel_rfl
  exact (show Tryz.prog.wantsStandIn t = false by simpa using List.all_eq_true.1 hall t hm)

/-- The card. -/
theorem written_card : Rows.WrittenCardSaid :=
  Claim7.holds_tied_plain_at .later [] _ _ _ _ saidWritten (fun _ h => by cases h) (by kernel_rfl) (fun _ h => by cases h) written_row_tie rfl ⟨rfl, rfl⟩ (by kernel_rfl) rfl plainWritten (by kernel_rfl)
#print axioms written_card
end Go.Proofs.YtkcnageeamappaaGreatDoor
