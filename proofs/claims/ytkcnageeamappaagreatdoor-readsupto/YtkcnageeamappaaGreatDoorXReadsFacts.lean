import Derived.Test.YtkcnageeamappaaGreatDoorXLaid3
import Derived.Test.YtkcnageeamappaaGreatDoorCards
import Derived.Test.YtkcnageeamappaaGreatDoorTie
set_option maxHeartbeats 32000000
set_option maxRecDepth 8000
namespace Go.Proofs.YtkcnageeamappaaGreatDoor
open Go.ChangeShapes Go.WideShapes Go.ChangeAt Go.RowKit Go.Moor
open Go.ChangeMaps (open_string shut_string)
theorem zlm:ownKnob Tryz.prog.godebug=none:=by kernel_rfl
def laidReads:List (String×DataW Unit):=[("math/bits.deBruijn32tab",Rows.laid_math_bits_deBruijn32tab),("math/bits.deBruijn64tab",Rows.laid_math_bits_deBruijn64tab),("internal/strconv.uint64pow10",Rows.laid_internal_strconv_uint64pow10),("unicode/utf8.acceptRanges",Rows.laid_unicode_utf8_acceptRanges),("strconv.ErrRange",Rows.laid_strconv_ErrRange),("strconv.ErrSyntax",Rows.laid_strconv_ErrSyntax),("moor/escape.sets",Rows.laid_moor_escape_sets),("moor/escape.pairSet",Rows.laid_moor_escape_pairSet),("moor/host.errEmpty",Rows.laid_moor_host_errEmpty),("moor/host.errBracket",Rows.laid_moor_host_errBracket),("moor/host.errCount",Rows.laid_moor_host_errCount),("moor/host.errLength",Rows.laid_moor_host_errLength),("moor/host.errNought",Rows.laid_moor_host_errNought),("moor/host.errTooGreat",Rows.laid_moor_host_errTooGreat),("moor/address.errNoBase",Rows.laid_moor_address_errNoBase),("moor/address.errOpaqueBase",Rows.laid_moor_address_errOpaqueBase),("moor/address.errNoHost",Rows.laid_moor_address_errNoHost),("moor/address.errNoPart",Rows.laid_moor_address_errNoPart),("moor/address.errNoScheme",Rows.laid_moor_address_errNoScheme),("moor/address.errOtherKind",Rows.laid_moor_address_errOtherKind),("moor/address.errBareHost",Rows.laid_moor_address_errBareHost),("moor/address.errBeside",Rows.laid_moor_address_errBeside),("moor/address.errOpaque",Rows.laid_moor_address_errOpaque),("unicode.CaseRanges",Rows.laid_unicode_CaseRanges),("unicode/utf8.first",Rows.laid_unicode_utf8_first)]
theorem zi5 {W:World} (h:laidMetH Tryz.prog Rows.readsUptoRow.laid W):laidMet Tryz.prog laidReads W∧handlesMet Tryz.prog [("errors.errorType",Rows.laid_errors_errorType)] W:=h
theorem zln {W:World} (h:laidMetH Tryz.prog Rows.readsUptoRow.laid W) (hsh:W.ShapedOpen Tryz.prog):Tryz.Env3 W:=by
 obtain⟨hp,hh⟩:=zi5 h;refine zdX (fun x hx=>Lib.laidMet.reads hp (n:=x.1) (d:=x.2) ?_) (fun x hx=>Lib.laidMet.reads hp (n:=x.1) (d:=x.2) ?_) (fun x hx=>Lib.laidMet.reads hp (n:=x.1) (d:=x.2) ?_) hh hsh
 ·simp only[z2C,List.mem_cons,List.not_mem_nil,or_false] at hx
  rcases hx with rfl|rfl|rfl|rfl|rfl|rfl|rfl|rfl|rfl|rfl|rfl|rfl|rfl<;>simp[laidReads]
 ·simp only[z4V,List.mem_cons,List.not_mem_nil,or_false] at hx
  rcases hx with rfl|rfl|rfl|rfl|rfl<;>simp[laidReads]
 ·simp only[z4W,List.mem_cons,List.not_mem_nil,or_false] at hx
  rcases hx with rfl|rfl|rfl|rfl|rfl|rfl<;>simp[laidReads]
set_option maxRecDepth 1000000 in
theorem zlo (os:Os) (args:Array Value):laidMetH Tryz.prog Rows.readsUptoRow.laid (((({World.holding Tryz.prog os ⟨#[],#[],[]⟩ with heap:=(World.holding Tryz.prog os ⟨#[],#[],[]⟩).heap.modify 2 fun| .cells _ t frozen=>.cells #[.iface 193 (.agg #[.pointer (some ⟨29,65,none⟩)])] t frozen|o=>o}:World).layVars Tryz.prog laidReads)).forCall (fun _ _=>0) ⟨#[],args,[]⟩).memory:=by
 have h:laidMet Tryz.prog laidReads (({World.holding Tryz.prog os ⟨#[],#[],[]⟩ with heap:=(World.holding Tryz.prog os ⟨#[],#[],[]⟩).heap.modify 2 fun| .cells _ t frozen=>.cells #[.iface 193 (.agg #[.pointer (some ⟨29,65,none⟩)])] t frozen|o=>o}:World).layVars Tryz.prog laidReads):=by
  have e1:(laidReads.filter fun x=>(laidReads.map (·.1)).contains x.1)=laidReads:=List.filter_eq_self.2 fun x hx=>List.contains_iff_mem.2 (List.mem_map.2 ⟨x,hx,rfl⟩);have e2:(laidReads.filter fun x=>!(laidReads.map (·.1)).contains x.1)=[]:=List.filter_eq_nil_iff.2 fun x hx=>by rw[List.contains_iff_mem.2 (List.mem_map.2 ⟨x,hx,rfl⟩)];simp
  exact laidMet_layVars (w0:=({World.holding Tryz.prog os ⟨#[],#[],[]⟩ with heap:=(World.holding Tryz.prog os ⟨#[],#[],[]⟩).heap.modify 2 fun| .cells _ t frozen=>.cells #[.iface 193 (.agg #[.pointer (some ⟨29,65,none⟩)])] t frozen|o=>o}:World)) (laidReads.map (·.1)) [] (by rw[e1]) (by rw[e1];kernel_rfl) (by rw[e1];kernel_rfl) (by rw[e2];exact LaidIn.none)
 exact laidMetH_of_parts (h.of_heap (by simp[World.memory,World.forCall,Input.heap])) (by kernel_rfl)
set_option maxRecDepth 1000000 in
theorem zjJ (os:Os):(((({World.holding Tryz.prog os ⟨#[],#[],[]⟩ with heap:=(World.holding Tryz.prog os ⟨#[],#[],[]⟩).heap.modify 2 fun| .cells _ t frozen=>.cells #[.iface 193 (.agg #[.pointer (some ⟨29,65,none⟩)])] t frozen|o=>o}:World).layVars Tryz.prog laidReads)).forCall (fun _ _=>0) ⟨#[],#[.slice none 0 0],[]⟩).variablesZipB Tryz.prog=true:=by kernel_rfl
set_option maxRecDepth 1000000 in
theorem zjK (os:Os):((((({World.holding Tryz.prog os ⟨#[],#[],[]⟩ with heap:=(World.holding Tryz.prog os ⟨#[],#[],[]⟩).heap.modify 2 fun| .cells _ t frozen=>.cells #[.iface 193 (.agg #[.pointer (some ⟨29,65,none⟩)])] t frozen|o=>o}:World).layVars Tryz.prog laidReads)).forCall (fun _ _=>0) ⟨#[],#[.slice none 0 0],[]⟩).heap.toList.drop Tryz.prog.globals.size).take ((begin Tryz.prog (fun _ _=>0) default).world.heap.size- Tryz.prog.globals.size)=(begin Tryz.prog (fun _ _=>0) default).world.heap.toList.drop Tryz.prog.globals.size:=by kernel_rfl
set_option maxRecDepth 1000000 in
theorem zdm (os:Os):Input.okWideB Tryz.prog (((({World.holding Tryz.prog os ⟨#[],#[],[]⟩ with heap:=(World.holding Tryz.prog os ⟨#[],#[],[]⟩).heap.modify 2 fun| .cells _ t frozen=>.cells #[.iface 193 (.agg #[.pointer (some ⟨29,65,none⟩)])] t frozen|o=>o}:World).layVars Tryz.prog laidReads)).forCall (fun _ _=>0) ⟨#[],#[.slice none 0 0],[]⟩) 6 ⟨#[],#[.slice none 0 0],[]⟩=true:=by kernel_rfl
set_option maxRecDepth 1000000 in
theorem zjL (os:Os) (H:Type) (enc:TypeId×Value→H):DataW.whole enc Tryz.prog (((({World.holding Tryz.prog os ⟨#[],#[],[]⟩ with heap:=(World.holding Tryz.prog os ⟨#[],#[],[]⟩).heap.modify 2 fun| .cells _ t frozen=>.cells #[.iface 193 (.agg #[.pointer (some ⟨29,65,none⟩)])] t frozen|o=>o}:World).layVars Tryz.prog laidReads)).forCall (fun _ _=>0) ⟨#[],#[.slice none 0 0],[]⟩).memory Tryz.f6.params.toList (Rows.OpenSpec.upto Rows.readsSpec).vars false #[Value.slice none 0 0].toList 8=some ([.nil],[],[]):=by kernel_rfl
set_option maxRecDepth 1000000 in
theorem zjM (os:Os) (H:Type) (enc:TypeId×Value→H):(Rows.OpenSpec.upto Rows.readsSpec).bare.sizedB enc Tryz.prog Tryz.f6 false (((({World.holding Tryz.prog os ⟨#[],#[],[]⟩ with heap:=(World.holding Tryz.prog os ⟨#[],#[],[]⟩).heap.modify 2 fun| .cells _ t frozen=>.cells #[.iface 193 (.agg #[.pointer (some ⟨29,65,none⟩)])] t frozen|o=>o}:World).layVars Tryz.prog laidReads)).forCall (fun _ _=>0) ⟨#[],#[.slice none 0 0],[]⟩).memory #[.slice none 0 0] 8=true:=by kernel_rfl
set_option maxRecDepth 1000000 in
theorem zlp:Tryz.pinned.checked.prog.funcNamed Rows.readsUptoRow.func=some 6:=by kernel_rfl
set_option maxRecDepth 1000000 in set_option maxHeartbeats 40000000 in
theorem zlq:joinedFacts Tryz.pinned.checked.prog 6 Tryz.f6 (Rows.OpenSpec.upto Rows.readsSpec).bare Rows.readsUptoRow=true:=by
 have gen:∀P fn s c,P=Tryz.pinned.checked.prog→fn=Tryz.f6→s=(Rows.OpenSpec.upto Rows.readsSpec).bare→c=Rows.readsUptoRow→joinedFacts P 6 fn s c=true:=by
  intro P fn s c hP hfn hs hc
  unfold joinedFacts
  repeat' (refine(Bool.and_eq_true_iff).2 ⟨?_,?_⟩)
  all_goals(subst hP;subst hfn;subst hs;subst hc)
  all_goals(as_aux_lemma=>kernel_rfl)
 exact gen _ _ _ _ rfl rfl rfl rfl
set_option maxRecDepth 1000000 in
theorem zlr:Tryz.f6.isInstance Tryz.pinned.checked.prog Rows.readsUptoRow.origin Rows.readsUptoRow.targs:=of_decide_eq_true (by kernel_rfl)
set_option maxRecDepth 1000000 in
theorem zls:Tryz.f6.isWrapper Tryz.pinned.checked.prog Rows.readsUptoRow.wrapper Rows.readsUptoRow.mainSum:=by unfold Func.isWrapper;first|(rw[if_pos (by decide+kernel)];kernel_rfl)|(rw[if_neg (by decide+kernel)];exact⟨rfl,rfl⟩)
theorem zi6 (f:FuncId) (fn:Func) (hf:Tryz.pinned.checked.prog.funcNamed Tryz.f6.name=some f) (hfn:Tryz.pinned.checked.prog.funcs[f]?=some fn):true=Tryz.pinned.checked.prog.looks []∧∀(j:Nat) t,fn.params[j]?=some t→Tryz.pinned.checked.prog.wantsStandIn t=false:=by
 obtain rfl:f=6:=Option.some.inj ((show Tryz.prog.funcNamed Tryz.f6.name=some 6 by kernel_rfl).symm.trans hf)|>.symm;obtain rfl:fn=Tryz.f6:=(Option.some.inj (Tryz.func6.symm.trans hfn)).symm;refine⟨by kernel_rfl,fun j t ht=>?_⟩;rw[Tryz.params6] at ht;have hm:t∈[22]:=by simpa using Array.mem_of_getElem? ht
 have hall:([22].all fun u=>!Tryz.prog.wantsStandIn u)=true:=by kernel_rfl
 exact(show Tryz.prog.wantsStandIn t=false by simpa using List.all_eq_true.1 hall t hm)
end Go.Proofs.YtkcnageeamappaaGreatDoor
