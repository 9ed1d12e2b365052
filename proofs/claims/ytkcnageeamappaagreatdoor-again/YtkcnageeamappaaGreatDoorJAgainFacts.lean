/-
  What the card of Again wants of the program and of a world that meets its list: closed facts.
-/
import Derived.Test.YtkcnageeamappaaGreatDoorCards
import Derived.Test.YtkcnageeamappaaGreatDoorTie
import Derived.Test.YtkcnageeamappaaGreatDoorJKEnv
namespace Go.Proofs.YtkcnageeamappaaGreatDoor
open Go.ChangeShapes Go.WideShapes Go.ChangeAt Go.RowKit Go.Moor
open Go.ChangeMaps (open_string shut_string)

theorem ownAgain : ownKnob Tryz.prog.godebug = none := by kernel_rfl
/-- The row's list, beside the handle. -/
def laidAgain : List (String × DataW Unit) := [("math/bits.deBruijn32tab", Rows.laid_math_bits_deBruijn32tab), ("math/bits.deBruijn64tab", Rows.laid_math_bits_deBruijn64tab), ("internal/strconv.uint64pow10", Rows.laid_internal_strconv_uint64pow10), ("unicode/utf8.acceptRanges", Rows.laid_unicode_utf8_acceptRanges), ("strconv.ErrRange", Rows.laid_strconv_ErrRange), ("strconv.ErrSyntax", Rows.laid_strconv_ErrSyntax), ("moor/escape.sets", Rows.laid_moor_escape_sets), ("moor/host.errEmpty", Rows.laid_moor_host_errEmpty), ("moor/host.errBracket", Rows.laid_moor_host_errBracket), ("moor/host.errCount", Rows.laid_moor_host_errCount), ("moor/host.errLength", Rows.laid_moor_host_errLength), ("moor/host.errNought", Rows.laid_moor_host_errNought), ("moor/host.errTooGreat", Rows.laid_moor_host_errTooGreat), ("moor/address.errNoBase", Rows.laid_moor_address_errNoBase), ("moor/address.errOpaqueBase", Rows.laid_moor_address_errOpaqueBase), ("moor/address.errNoHost", Rows.laid_moor_address_errNoHost), ("unicode.CaseRanges", Rows.laid_unicode_CaseRanges), ("unicode/utf8.first", Rows.laid_unicode_utf8_first)]
theorem partsAgain {W : World} (h : laidMetH Tryz.prog Rows.againRow.laid W) : laidMet Tryz.prog laidAgain W ∧ handlesMet Tryz.prog [("errors.errorType", Rows.laid_errors_errorType)] W := h
theorem envAgain {W : World} (h : laidMetH Tryz.prog Rows.againRow.laid W) (hsh : W.ShapedOpen Tryz.prog) : Tryz.Env2 W := by
  obtain ⟨hp, hh⟩ := partsAgain h
  refine env2_of_reads (fun x hx => Lib.laidMet.reads hp (n := x.1) (d := x.2) ?_) (fun x hx => Lib.laidMet.reads hp (n := x.1) (d := x.2) ?_) hh hsh
  · simp only [plainLaid, List.mem_cons, List.not_mem_nil, or_false] at hx
    rcases hx with rfl | rfl | rfl | rfl | rfl | rfl | rfl | rfl | rfl | rfl | rfl | rfl | rfl <;> simp [laidAgain]
  · simp only [needLaid, List.mem_cons, List.not_mem_nil, or_false] at hx
    rcases hx with rfl | rfl | rfl | rfl | rfl <;> simp [laidAgain]

set_option maxRecDepth 1000000 in
theorem metAgain (os : Os) (args : Array Value) : laidMetH Tryz.prog Rows.againRow.laid (((({ World.holding Tryz.prog os ⟨#[], #[], []⟩ with heap := (World.holding Tryz.prog os ⟨#[], #[], []⟩).heap.modify 2 fun | .cells _ t frozen => .cells #[.iface 193 (.agg #[.pointer (some ⟨29, 65, none⟩)])] t frozen | o => o } : World).layVars Tryz.prog laidAgain)).forCall (fun _ _ => 0) ⟨#[], args, []⟩).memory := by
  have h : laidMet Tryz.prog laidAgain (({ World.holding Tryz.prog os ⟨#[], #[], []⟩ with heap := (World.holding Tryz.prog os ⟨#[], #[], []⟩).heap.modify 2 fun | .cells _ t frozen => .cells #[.iface 193 (.agg #[.pointer (some ⟨29, 65, none⟩)])] t frozen | o => o } : World).layVars Tryz.prog laidAgain) := by
    have e1 : (laidAgain.filter fun x => (laidAgain.map (·.1)).contains x.1) = laidAgain := List.filter_eq_self.2 fun x hx => List.contains_iff_mem.2 (List.mem_map.2 ⟨x, hx, rfl⟩)
    have e2 : (laidAgain.filter fun x => !(laidAgain.map (·.1)).contains x.1) = [] := List.filter_eq_nil_iff.2 fun x hx => by rw [List.contains_iff_mem.2 (List.mem_map.2 ⟨x, hx, rfl⟩)]; simp
    exact laidMet_layVars (w0 := ({ World.holding Tryz.prog os ⟨#[], #[], []⟩ with heap := (World.holding Tryz.prog os ⟨#[], #[], []⟩).heap.modify 2 fun | .cells _ t frozen => .cells #[.iface 193 (.agg #[.pointer (some ⟨29, 65, none⟩)])] t frozen | o => o } : World)) (laidAgain.map (·.1)) [] (by rw [e1]) (by rw [e1]; kernel_rfl) (by rw [e1]; kernel_rfl) (by rw [e2]; exact LaidIn.none)
  exact laidMetH_of_parts (h.of_heap (by simp [World.memory, World.forCall, Input.heap])) (by kernel_rfl)

set_option maxRecDepth 1000000 in
theorem wit1Again (os : Os) : (((({ World.holding Tryz.prog os ⟨#[], #[], []⟩ with heap := (World.holding Tryz.prog os ⟨#[], #[], []⟩).heap.modify 2 fun | .cells _ t frozen => .cells #[.iface 193 (.agg #[.pointer (some ⟨29, 65, none⟩)])] t frozen | o => o } : World).layVars Tryz.prog laidAgain)).forCall (fun _ _ => 0) ⟨#[], #[.string ⟨#[]⟩, .string ⟨#[]⟩, .string ⟨#[]⟩], []⟩).variablesZipB Tryz.prog = true := by kernel_rfl
set_option maxRecDepth 1000000 in
theorem wit2Again (os : Os) : ((((({ World.holding Tryz.prog os ⟨#[], #[], []⟩ with heap := (World.holding Tryz.prog os ⟨#[], #[], []⟩).heap.modify 2 fun | .cells _ t frozen => .cells #[.iface 193 (.agg #[.pointer (some ⟨29, 65, none⟩)])] t frozen | o => o } : World).layVars Tryz.prog laidAgain)).forCall (fun _ _ => 0) ⟨#[], #[.string ⟨#[]⟩, .string ⟨#[]⟩, .string ⟨#[]⟩], []⟩).heap.toList.drop Tryz.prog.globals.size).take ((begin Tryz.prog (fun _ _ => 0) default).world.heap.size - Tryz.prog.globals.size) = (begin Tryz.prog (fun _ _ => 0) default).world.heap.toList.drop Tryz.prog.globals.size := by kernel_rfl
set_option maxRecDepth 1000000 in
theorem wit3Again (os : Os) : Input.okWideB Tryz.prog (((({ World.holding Tryz.prog os ⟨#[], #[], []⟩ with heap := (World.holding Tryz.prog os ⟨#[], #[], []⟩).heap.modify 2 fun | .cells _ t frozen => .cells #[.iface 193 (.agg #[.pointer (some ⟨29, 65, none⟩)])] t frozen | o => o } : World).layVars Tryz.prog laidAgain)).forCall (fun _ _ => 0) ⟨#[], #[.string ⟨#[]⟩, .string ⟨#[]⟩, .string ⟨#[]⟩], []⟩) 7 ⟨#[], #[.string ⟨#[]⟩, .string ⟨#[]⟩, .string ⟨#[]⟩], []⟩ = true := by kernel_rfl
set_option maxRecDepth 1000000 in
theorem wit4Again (os : Os) (H : Type) (enc : TypeId × Value → H) : Rows.againSpec.preB enc Tryz.prog Tryz.f7 Rows.againRow.domain false (((({ World.holding Tryz.prog os ⟨#[], #[], []⟩ with heap := (World.holding Tryz.prog os ⟨#[], #[], []⟩).heap.modify 2 fun | .cells _ t frozen => .cells #[.iface 193 (.agg #[.pointer (some ⟨29, 65, none⟩)])] t frozen | o => o } : World).layVars Tryz.prog laidAgain)).forCall (fun _ _ => 0) ⟨#[], #[.string ⟨#[]⟩, .string ⟨#[]⟩, .string ⟨#[]⟩], []⟩).memory #[.string ⟨#[]⟩, .string ⟨#[]⟩, .string ⟨#[]⟩] 8 = true := by kernel_rfl
set_option maxRecDepth 1000000 in
theorem wit5Again (os : Os) (H : Type) (enc : TypeId × Value → H) : Rows.againSpec.sizedB enc Tryz.prog Tryz.f7 false (((({ World.holding Tryz.prog os ⟨#[], #[], []⟩ with heap := (World.holding Tryz.prog os ⟨#[], #[], []⟩).heap.modify 2 fun | .cells _ t frozen => .cells #[.iface 193 (.agg #[.pointer (some ⟨29, 65, none⟩)])] t frozen | o => o } : World).layVars Tryz.prog laidAgain)).forCall (fun _ _ => 0) ⟨#[], #[.string ⟨#[]⟩, .string ⟨#[]⟩, .string ⟨#[]⟩], []⟩).memory #[.string ⟨#[]⟩, .string ⟨#[]⟩, .string ⟨#[]⟩] 8 = true := by kernel_rfl

set_option maxRecDepth 1000000 in
theorem sfaAgain : Tryz.pinned.checked.prog.funcNamed Rows.againRow.func = some 7 := by kernel_rfl
set_option maxRecDepth 1000000 in
set_option maxHeartbeats 40000000 in
theorem sfbAgain : joinedFacts Tryz.pinned.checked.prog 7 Tryz.f7 (OpenSpec.ofChange Rows.againSpec).bare Rows.againRow = true := by
  have gen : ∀ P fn s c, P = Tryz.pinned.checked.prog → fn = Tryz.f7 → s = (OpenSpec.ofChange Rows.againSpec).bare → c = Rows.againRow → joinedFacts P 7 fn s c = true := by
    intro P fn s c hP hfn hs hc
    unfold joinedFacts
    repeat' (refine (Bool.and_eq_true_iff).2 ⟨?_, ?_⟩)
    all_goals (subst hP; subst hfn; subst hs; subst hc)
    all_goals (as_aux_lemma => kernel_rfl)
  exact gen _ _ _ _ rfl rfl rfl rfl
set_option maxRecDepth 1000000 in
theorem sfcAgain : Tryz.f7.isInstance Tryz.pinned.checked.prog Rows.againRow.origin Rows.againRow.targs := of_decide_eq_true (by kernel_rfl)
set_option maxRecDepth 1000000 in
theorem sfdAgain : Tryz.f7.isWrapper Tryz.pinned.checked.prog Rows.againRow.wrapper Rows.againRow.mainSum := by unfold Func.isWrapper; first | (rw [if_pos (by decide +kernel)]; kernel_rfl) | (rw [if_neg (by decide +kernel)]; exact ⟨rfl, rfl⟩)
theorem plainAgain (f : FuncId) (fn : Func) (hf : Tryz.pinned.checked.prog.funcNamed Tryz.f7.name = some f) (hfn : Tryz.pinned.checked.prog.funcs[f]? = some fn) :
    true = Tryz.pinned.checked.prog.looks [] ∧ ∀ (j : Nat) t, fn.params[j]? = some t → Tryz.pinned.checked.prog.wantsStandIn t = false := by
  obtain rfl : f = 7 := Option.some.inj ((show Tryz.prog.funcNamed Tryz.f7.name = some 7 by kernel_rfl).symm.trans hf) |>.symm
  obtain rfl : fn = Tryz.f7 := (Option.some.inj (Tryz.func7.symm.trans hfn)).symm
  refine ⟨by kernel_rfl, fun j t ht => ?_⟩
  rw [Tryz.params7] at ht
  have hm : t ∈ [9, 9, 9] := by simpa using Array.mem_of_getElem? ht
  have hall : ([9, 9, 9].all fun u => !Tryz.prog.wantsStandIn u) = true := by kernel_rfl
  exact (show Tryz.prog.wantsStandIn t = false by simpa using List.all_eq_true.1 hall t hm)

end Go.Proofs.YtkcnageeamappaaGreatDoor
