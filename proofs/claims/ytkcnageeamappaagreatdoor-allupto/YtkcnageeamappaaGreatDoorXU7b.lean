import Derived.Test.YtkcnageeamappaaGreatDoorXLaid3
import Derived.Test.YtkcnageeamappaaGreatDoorXMx
import Derived.Test.YtkcnageeamappaaGreatDoorCards
import Derived.Test.YtkcnageeamappaaGreatDoorTie
set_option maxHeartbeats 32000000
set_option maxRecDepth 8000
set_option linter.unusedSimpArgs false
namespace Go.Proofs.YtkcnageeamappaaGreatDoor
open Go.Moor
open Go.Proofs.Tryz
open Go.ChangeShapes Go.WideShapes Go.ChangeAt Go.RowKit Go.Moor
open Go.ChangeMaps (open_string shut_string)
theorem EB:ownKnob Tryz.prog.godebug=none:=by kernel_rfl
def laidAll:List (String×DataW Unit):=[("math/bits.deBruijn32tab",Rows.laid_math_bits_deBruijn32tab),("math/bits.deBruijn64tab",Rows.laid_math_bits_deBruijn64tab),("internal/strconv.uint64pow10",Rows.laid_internal_strconv_uint64pow10),("unicode/utf8.acceptRanges",Rows.laid_unicode_utf8_acceptRanges),("strconv.ErrRange",Rows.laid_strconv_ErrRange),("strconv.ErrSyntax",Rows.laid_strconv_ErrSyntax),("moor/escape.sets",Rows.laid_moor_escape_sets),("moor/escape.pairSet",Rows.laid_moor_escape_pairSet),("moor/host.errEmpty",Rows.laid_moor_host_errEmpty),("moor/host.errBracket",Rows.laid_moor_host_errBracket),("moor/host.errCount",Rows.laid_moor_host_errCount),("moor/host.errLength",Rows.laid_moor_host_errLength),("moor/host.errNought",Rows.laid_moor_host_errNought),("moor/host.errTooGreat",Rows.laid_moor_host_errTooGreat),("moor/address.errNoBase",Rows.laid_moor_address_errNoBase),("moor/address.errOpaqueBase",Rows.laid_moor_address_errOpaqueBase),("moor/address.errNoHost",Rows.laid_moor_address_errNoHost),("moor/address.errNoPart",Rows.laid_moor_address_errNoPart),("moor/address.errNoScheme",Rows.laid_moor_address_errNoScheme),("moor/address.errOtherKind",Rows.laid_moor_address_errOtherKind),("moor/address.errBareHost",Rows.laid_moor_address_errBareHost),("moor/address.errBeside",Rows.laid_moor_address_errBeside),("moor/address.errOpaque",Rows.laid_moor_address_errOpaque),("unicode.CaseRanges",Rows.laid_unicode_CaseRanges),("unicode/utf8.first",Rows.laid_unicode_utf8_first)]
theorem wh {W:World} (h:laidMetH Tryz.prog Rows.allUptoRow.laid W):laidMet Tryz.prog laidAll W/\handlesMet Tryz.prog [("errors.errorType",Rows.laid_errors_errorType)] W:=h
theorem EC {W:World} (h:laidMetH Tryz.prog Rows.allUptoRow.laid W) (e:W.ShapedOpen Tryz.prog):Tryz.Env3 W:=by
 obtain⟨b,c⟩:=wh h;refine GF (λx a=>uo b (n:=x.1) (d:=x.2) ?_) (λx a=>uo b (n:=x.1) (d:=x.2) ?_) (λx a=>uo b (n:=x.1) (d:=x.2) ?_) c e
 .simp only[gO,cM,mT,mV] at a
  rcases a with rfl|rfl|rfl|rfl|rfl|rfl|rfl|rfl|rfl|rfl|rfl|rfl|rfl<;>simp[laidAll]
 .simp only[kt,cM,mT,mV] at a
  rcases a with rfl|rfl|rfl|rfl|rfl<;>simp[laidAll]
 .simp only[ku,cM,mT,mV] at a
  rcases a with rfl|rfl|rfl|rfl|rfl|rfl<;>simp[laidAll]
set_option maxRecDepth 1000000 in
theorem ED (a:Os) (e:Array Value):laidMetH Tryz.prog Rows.allUptoRow.laid (((({World.holding Tryz.prog a ⟨#[],#[],[]⟩ with heap:=(World.holding Tryz.prog a ⟨#[],#[],[]⟩).heap.modify 2 λ| .cells _ t b=>.cells #[.iface 193 (.agg #[.pointer (some ⟨29,65,none⟩)])] t b|o=>o}:World).layVars Tryz.prog laidAll)).forCall (λ_ _=>0) ⟨#[],e,[]⟩).memory:=by
 have h:laidMet prog laidAll (({World.holding prog a ⟨#[],#[],[]⟩ with heap:=(World.holding prog a ⟨#[],#[],[]⟩).heap.modify 2 λ| .cells _ t b=>.cells #[.iface 193 (.agg #[Pu 29 65])] t b|o=>o}:World).layVars prog laidAll):=by
  have c:(laidAll.filter λx=>(laidAll.map (·.1)).contains x.1)=laidAll:=List.filter_eq_self.2 λx d=>BE.2 (jJ.2 ⟨x,d,rfl⟩);have f:(laidAll.filter λx=>!(laidAll.map (·.1)).contains x.1)=[]:=List.filter_eq_nil_iff.2 λx d=>by grind
  exact laidMet_layVars (w0:=({World.holding prog a ⟨#[],#[],[]⟩ with heap:=(World.holding prog a ⟨#[],#[],[]⟩).heap.modify 2 λ| .cells _ t b=>.cells #[.iface 193 (.agg #[Pu 29 65])] t b|o=>o}:World)) (laidAll.map (·.1)) [] (by rw[c]) (by rw[c];kernel_rfl) (by rw[c];kernel_rfl) (by grind[LaidIn.none])
 exact laidMetH_of_parts (h.of_heap (by simp[World.memory,World.forCall,Input.heap])) (by kernel_rfl)
set_option maxRecDepth 1000000 in
theorem EE (a:Os):(((({World.holding Tryz.prog a ⟨#[],#[],[]⟩ with heap:=(World.holding Tryz.prog a ⟨#[],#[],[]⟩).heap.modify 2 λ| .cells _ t b=>.cells #[.iface 193 (.agg #[.pointer (some ⟨29,65,none⟩)])] t b|o=>o}:World).layVars Tryz.prog laidAll)).forCall (λ_ _=>0) ⟨#[],#[.slice none 0 0],[]⟩).variablesZipB Tryz.prog=true:=by kernel_rfl
set_option maxRecDepth 1000000 in
theorem EF (a:Os):((((({World.holding Tryz.prog a ⟨#[],#[],[]⟩ with heap:=(World.holding Tryz.prog a ⟨#[],#[],[]⟩).heap.modify 2 λ| .cells _ t b=>.cells #[.iface 193 (.agg #[.pointer (some ⟨29,65,none⟩)])] t b|o=>o}:World).layVars Tryz.prog laidAll)).forCall (λ_ _=>0) ⟨#[],#[.slice none 0 0],[]⟩).heap.toList.drop Tryz.prog.globals.size).take ((begin Tryz.prog (λ_ _=>0) default).world.heap.size- Tryz.prog.globals.size)=(begin Tryz.prog (λ_ _=>0) default).world.heap.toList.drop Tryz.prog.globals.size:=by kernel_rfl
set_option maxRecDepth 1000000 in
theorem wi (a:Os):Input.okWideB Tryz.prog (((({World.holding Tryz.prog a ⟨#[],#[],[]⟩ with heap:=(World.holding Tryz.prog a ⟨#[],#[],[]⟩).heap.modify 2 λ| .cells _ t b=>.cells #[.iface 193 (.agg #[.pointer (some ⟨29,65,none⟩)])] t b|o=>o}:World).layVars Tryz.prog laidAll)).forCall (λ_ _=>0) ⟨#[],#[.slice none 0 0],[]⟩) 11 ⟨#[],#[.slice none 0 0],[]⟩=true:=by kernel_rfl
set_option maxRecDepth 1000000 in
theorem EG (a:Os) (H:Type) (b:TypeId×Value->H):DataW.whole b Tryz.prog (((({World.holding Tryz.prog a ⟨#[],#[],[]⟩ with heap:=(World.holding Tryz.prog a ⟨#[],#[],[]⟩).heap.modify 2 λ| .cells _ t c=>.cells #[.iface 193 (.agg #[.pointer (some ⟨29,65,none⟩)])] t c|o=>o}:World).layVars Tryz.prog laidAll)).forCall (λ_ _=>0) ⟨#[],#[.slice none 0 0],[]⟩).memory Tryz.f11.params.toList (Rows.OpenSpec.upto Rows.allSpec).vars false #[Value.slice none 0 0].toList 8=some ([.nil],[],[]):=by kernel_rfl
set_option maxRecDepth 1000000 in
theorem EH (a:Os) (H:Type) (b:TypeId×Value->H):(Rows.OpenSpec.upto Rows.allSpec).bare.sizedB b Tryz.prog Tryz.f11 false (((({World.holding Tryz.prog a ⟨#[],#[],[]⟩ with heap:=(World.holding Tryz.prog a ⟨#[],#[],[]⟩).heap.modify 2 λ| .cells _ t c=>.cells #[.iface 193 (.agg #[.pointer (some ⟨29,65,none⟩)])] t c|o=>o}:World).layVars Tryz.prog laidAll)).forCall (λ_ _=>0) ⟨#[],#[.slice none 0 0],[]⟩).memory #[.slice none 0 0] 8=true:=by kernel_rfl
set_option maxRecDepth 1000000 in
theorem EI:Tryz.pinned.checked.prog.funcNamed Rows.allUptoRow.func=some 11:=by kernel_rfl
set_option maxRecDepth 1000000 in set_option maxHeartbeats 40000000 in
theorem EJ:joinedFacts Tryz.pinned.checked.prog 11 Tryz.f11 (Rows.OpenSpec.upto Rows.allSpec).bare Rows.allUptoRow=true:=by
 have gen:∀P fn s c,P=Tryz.pinned.checked.prog->fn=Tryz.f11->s=(Rows.OpenSpec.upto Rows.allSpec).bare->c=Rows.allUptoRow->joinedFacts P 11 fn s c=true:=by
  intro P fn s c hP hfn hs hc
  unfold joinedFacts
  repeat' (refine(Bool.and_eq_true_iff).2 ⟨?_,?_⟩)
  all_goals(subst hP;subst hfn;subst hs;subst hc)
  all_goals(as_aux_lemma=>kernel_rfl)
 exact gen _ _ _ _ rfl rfl rfl rfl
set_option maxRecDepth 1000000 in
theorem EK:Tryz.f11.isInstance Tryz.pinned.checked.prog Rows.allUptoRow.origin Rows.allUptoRow.targs:=ik (by kernel_rfl)
set_option maxRecDepth 1000000 in
theorem EL:Tryz.f11.isWrapper Tryz.pinned.checked.prog Rows.allUptoRow.wrapper Rows.allUptoRow.mainSum:=by unfold Func.isWrapper;first|(rw[ae (by decide+kernel)];kernel_rfl)|(rw[ab (by decide+kernel)];exact⟨rfl,rfl⟩)
theorem EM (f:FuncId) (fn:Func) (hf:Tryz.pinned.checked.prog.funcNamed Tryz.f11.name=some f) (hfn:Tryz.pinned.checked.prog.funcs[f]?=some fn):true=Tryz.pinned.checked.prog.looks []/\∀(j:Nat) t,fn.params[j]?=some t->Tryz.pinned.checked.prog.wantsStandIn t=false:=by
 obtain rfl:f=11:=eh ((show Tryz.prog.funcNamed Tryz.f11.name=some 11 by kernel_rfl).symm.trans hf)|>.symm;obtain rfl:fn=Tryz.f11:=(eh (Tryz.func11.symm.trans hfn)).symm;refine⟨by kernel_rfl,λj t ht=>?_⟩;rw[Tryz.params11] at ht;have hm:t∈[22]:=by simpa using Array.mem_of_getElem? ht
 have hall:([22].all λu=>!Tryz.prog.wantsStandIn u)=true:=by kernel_rfl
 exact(show Tryz.prog.wantsStandIn t=false by simpa using gI.1 hall t hm)
end Go.Proofs.YtkcnageeamappaaGreatDoor
namespace Go.Proofs
open Go.RowKit Go.Moor Go.Proofs.Tryz Go.Moor
theorem IN (s:ByteArray) (f:Bool) (w:World) (v:s.size<=2097152) (l:Env w) (m:Tz w):Calls prog 43 #[.string s,.bool f] w fun e w'=>e=.returned (.bool true)/\Bl w w':=by
 by_cases o:2000<s.size
 .have b:=hI (FW s f w o (by grind[maxLen]))
  have r:(2000:Int)<(s.size:Int):=by omega
  clear l m;go_enter func43,ntmps43;go_wp2_with fail;refine m0 b ?_;go_wp2;go_ret;exact⟨rfl,ai _ _⟩
 .have b:=hI (FI s f w (by omega) l m)
  have j:=hI fun i=>pH s f i (by omega);have r:¬(2000:Int)<(s.size:Int):=by omega
  clear l m o;cases k:hostTell s.data.toList f with
  |none=>rw[k] at b j;clear k;go_enter func43,ntmps43;go_wp2_with fail;refine af b ?_;rintro e i ⟨a,d⟩;have a:e=.returned (.tuple #[Sv [],Iv 4]):=a;subst a;have g:=hI d;clear d;go_wp2_with fail;refine af (j i) ?_;rintro e u ⟨⟨x,rfl⟩,h⟩;have n:=hI (g.out.trans (h.mono g.out.size));clear h;go_wp2;go_ret;exact⟨rfl,n⟩
  |some t=>rw[k] at b j;clear k;obtain⟨c,p⟩:∃c:ByteArray,c=⟨t.toArray⟩:=⟨_,rfl⟩;have y:(c.toList==c.toList)=true:=(by simp);have q:Hid (c=⟨t.toArray⟩):=p;clear p;go_enter Tryz.func43,Tryz.ntmps43;go_wp2_with fail;refine af b.out ?_;rintro e i ⟨a,d⟩;have a:e=.returned (.tuple #[.string ⟨t.toArray⟩,.int .i64 0]):=a;rw[<-q.out] at a;subst a;have g:=hI d;clear d;go_wp2_with fail;refine af (j i) ?_;rintro e u ⟨a,h⟩;have a:e=.returned (.tuple #[.string ⟨t.toArray⟩,.bool true]):=a;rw[<-q.out] at a;subst a;have n:=hI (g.out.trans (h.mono g.out.size));clear h;go_wp2;go_ret;exact⟨rfl,n⟩
theorem IP {w w':World} (h:Tz w) (a:Bl w w') (hz:29<=w.heap.size):Tz w':=by first|exact h.below a hz|exact h.below a
theorem IQ (b:Value) (c n:Int) (j:Bool) (S T:ByteArray) (z:Value) (w:World) (P:c<=3) (G:S.size<=2097152) (x:Env w) (M:Tz w):Calls prog 29 #[b,.agg #[.int .i64 c,.int .i64 n,.bool j,.string S,.string T,z]] w fun e w'=>e=.returned (.bool true)/\Bl w w':=by
 obtain⟨W,f⟩:=am (w.alloc (.cells #[Iv c,Iv n,.bool j,.string S,.string T,z] 60));have l:Bl w W:=by rw[f];exact(ai _ _).alloc .refl _
 have s:Hid (∀a,Bl W a->Bl w a):=fun a d=>l.trans (d.mono l.size);have h:=x.below l;have L:=IP M l x.size;have hz:W.heap[w.heap.size]?=some (.cells #[Iv c,Iv n,.bool j,.string S,.string T,z] 60 (0,0)):=by rw[f];exact dO w _
 have E:=(aT.1 hz).1;have y:Hid (∀a,Below W.heap.size W a->a.cell? ⟨w.heap.size,0,none⟩=some (.int .i64 c)/\a.cell? ⟨w.heap.size,1,none⟩=some (.int .i64 n)/\a.cell? ⟨w.heap.size,2,none⟩=some (.bool j)/\a.cell? ⟨w.heap.size,3,none⟩=some (.string S)):=by intro a d;have k:=(d.block w.heap.size E).trans hz;unfold World.cell?;simp[k]
 have q:=hI f;have F:=hI fun a d=>La S n a (by omega) (h.below d).sets (by have:=(h.below d).size;omega);have C:=hI fun a=>hZ S n a (by omega);have D:Hid (∀a,Below W.heap.size W a->Calls Tryz.prog 41 #[.string S] a fun e w'=>e=.returned (.string ⟨(aQ S.data.toList).toArray⟩)/\Below a.heap.size a w'):=fun a d=>by
  obtain⟨m,R⟩:=(h.below d).maxLen;exact NT S m a (by omega) R (by have:=(h.below d).size;omega)
 have B:=hI fun a=>sq S a (by omega);have N:=hI (IN S j W G h L);clear h L l hz E x M G;have r:Hid (Bl W W):=ai _ _;obtain⟨H,I,J,K⟩:=y W r.out;by_cases u:c=1
 .subst u
  obtain⟨i,o⟩:∃i:ByteArray,i=⟨(ah n S.data.toList).toArray⟩:=⟨_,rfl⟩;rw[<-o] at F C;clear o f;go_enter func29,ntmps29;go_upto_region 1 with fail;rw[<-q.out];go_wp2_with fail;refine mR (F W r.out) fun a d=>?_;have g:=hI d;obtain⟨Q,O,V,U⟩:=y a d;clear d H I J K;go_wp2_with fail;refine mR (C a) fun X p=>?_;have A:=hI (g.out.trans (p.mono g.out.size));clear p;go_wp2;go_ret;exact⟨rfl,s _ A⟩
 have e1:(c==1)=false:=by rw[aL];exact u
 by_cases t:c=2
 .subst t
  obtain⟨i,o⟩:∃i:ByteArray,i=⟨(aQ S.data.toList).toArray⟩:=⟨_,rfl⟩;rw[<-o] at D B;clear o f;go_enter func29,ntmps29;go_upto_region 1 with fail;rw[<-q.out];go_wp2_with fail;refine mR (D W r.out) fun a d=>?_;have g:=hI d;obtain⟨Q,O,V,U⟩:=y a d;clear d H I J K;go_wp2_with fail;refine mR (B a) fun X p=>?_;have A:=hI (g.out.trans (p.mono g.out.size));clear p;go_wp2;go_ret;exact⟨rfl,s _ A⟩
 have Y:(c==2)=false:=by rw[aL];exact t
 by_cases v:c=3
 .subst v
  clear f;go_enter func29,ntmps29;go_upto_region 1 with fail;rw[<-q.out];go_wp2_with fail;refine mH N fun a g=>?_;go_wp2;go_ret;exact⟨rfl,s _ g⟩
 have Z:(c==3)=false:=by rw[aL];exact v
 have e4:(c==4)=false:=by rw[aL];omega
 have e5:(c==5)=false:=by rw[aL];omega
 have e6:(c==6)=false:=by rw[aL];omega
 have e7:(c==7)=false:=by rw[aL];omega
 have e8:(c==8)=false:=by rw[aL];omega
 have e9:(c==9)=false:=by rw[aL];omega
 clear f u t v P;go_enter func29,ntmps29;go_upto_region 1 with fail;rw[<-q.out];go_wp2;go_ret;exact⟨rfl,s _ r.out⟩
structure OpV where
 kind:Int
 n:Int
 flag:Bool
 S:ByteArray
 T:ByteArray
 lv:Value
def OpRow (w:World) (sp:Option Go.Addr) (os:List OpV):Prop:=∀(j:Nat) o,os[j]?=some o->∃g off,sp=some ⟨g,off,none⟩/\g<w.heap.size/\w.cell? ⟨g,off+j*6,none⟩=some (.int .i64 o.kind)/\w.cell? ⟨g,off+j*6+1,none⟩=some (.int .i64 o.n)/\w.cell? ⟨g,off+j*6+2,none⟩=some (.bool o.flag)/\w.cell? ⟨g,off+j*6+3,none⟩=some (.string o.S)/\w.cell? ⟨g,off+j*6+4,none⟩=some (.string o.T)/\w.cell? ⟨g,off+j*6+5,none⟩=some o.lv
theorem OpRow.below {w w':World} {c:Option Go.Addr} {d:List OpV} (h:OpRow w c d) (a:Bl w w'):OpRow w' c d:=by intro j o k;obtain⟨g,off,p,b,n,f,e,i,l,m⟩:=h j o k;exact⟨g,off,p,cq b a.size,(a.cell (by exact b)).trans n,(a.cell (by exact b)).trans f,(a.cell (by exact b)).trans e,(a.cell (by exact b)).trans i,(a.cell (by exact b)).trans l,(a.cell (by exact b)).trans m⟩
end Go.Proofs
namespace Go.Proofs.YtkcnageeamappaaGreatDoor
open Go.Moor Go.Proofs.Tryz Go.ChangeShapes Go.WideShapes Go.ChangeAt Go.RowKit Go.Moor
theorem Jw {H:Type} (d:DataW H):1<=Rows.uptoBulk d:=by
 cases d with
 |lit l=>cases l<;>simp[Rows.uptoBulk]
 |_=>simp[Rows.uptoBulk]
theorem sz {H:Type} {d:DataW H}:∀{l:List (DataW H)},d∈l->Rows.uptoBulk d<=Rows.uptoBulkAll l
 | [],h=>by cases h
 |x::r,h=>by
  rw[Rows.uptoBulkAll];rcases cM.1 h with rfl|h
  .omega
  .have:=sz h;omega
theorem sA {H:Type}:∀l:List (DataW H),l.length<=Rows.uptoBulkAll l
 | []=>aR _
 |x::r=>by
  have b:=Jw x;have a:=sA r;rw[Rows.uptoBulkAll,dL];omega
theorem yl:Tryz.prog.cellsOf 60=6:=by kernel_rfl
theorem ym:Tryz.prog.cellsOf 3=1:=by kernel_rfl
theorem Jx:Tryz.prog.cellsOf 4=1:=by kernel_rfl
theorem pM:Tryz.prog.cellsOf 9=1:=by kernel_rfl
theorem Jy:Tryz.prog.cellsOf 58=1:=by kernel_rfl
set_option maxRecDepth 100000 in
theorem Jz {H:Type} {a:TypeId×Value->H} {W:World} {n:Nat} {g:List Value} {d:DataW H} {y:List MemPlace} (h:DataW.trod a Tryz.prog W 0 (λ_=>true) true n 60 g=some (d,y)):∃(o:OpV) (q:DataW H) (I:List MemPlace) (m:Nat),g=[.int .i64 o.kind,.int .i64 o.n,.bool o.flag,.string o.S,.string o.T,o.lv]/\d=.agg [.lit (.int .i64 o.kind),.lit (.int .i64 o.n),.lit (.bool o.flag),.lit (.string o.S.data.toList),.lit (.string o.T.data.toList),q]/\DataW.trod a Tryz.prog W 0 (λ_=>true) true m 58 [o.lv]=some (q,I)/\(Lit.int .i64 o.n).wf=true:=by
 obtain⟨s,m,_,G,r,l,c⟩:=DataW.trod_struct underlying60 h;rw[yl] at r;have l:s.length=6:=l;match g,r,s,l with
 | [c0,c1,c2,c3,c4,c5],_,[y0,y1,y2,y3,y4,y5],_=>
  have F:DataW.trod a prog W 0 (λ_=>true) true m 3 [c0]=some y0:=by have this:DataW.trod a prog W 0 (λ_=>true) true m 3 (([c0,c1,c2,c3,c4,c5].drop 0).take (prog.cellsOf 3))=some y0:=c 0 _ rfl;rwa[ym] at this
  have B:DataW.trod a prog W 0 (λ_=>true) true m 3 [c1]=some y1:=by have this:DataW.trod a prog W 0 (λ_=>true) true m 3 (([c0,c1,c2,c3,c4,c5].drop 1).take (prog.cellsOf 3))=some y1:=c 1 _ rfl;rwa[ym] at this
  have A:DataW.trod a prog W 0 (λ_=>true) true m 4 [c2]=some y2:=by have this:DataW.trod a prog W 0 (λ_=>true) true m 4 (([c0,c1,c2,c3,c4,c5].drop 2).take (prog.cellsOf 4))=some y2:=c 2 _ rfl;rwa[Jx] at this
  have z:DataW.trod a prog W 0 (λ_=>true) true m 9 [c3]=some y3:=by have this:DataW.trod a prog W 0 (λ_=>true) true m 9 (([c0,c1,c2,c3,c4,c5].drop 3).take (prog.cellsOf 9))=some y3:=c 3 _ rfl;rwa[pM] at this
  have C:DataW.trod a prog W 0 (λ_=>true) true m 9 [c4]=some y4:=by have this:DataW.trod a prog W 0 (λ_=>true) true m 9 (([c0,c1,c2,c3,c4,c5].drop 4).take (prog.cellsOf 9))=some y4:=c 4 _ rfl;rwa[pM] at this
  have D:DataW.trod a prog W 0 (λ_=>true) true m 58 [c5]=some y5:=by have this:DataW.trod a prog W 0 (λ_=>true) true m 58 (([c0,c1,c2,c3,c4,c5].drop 5).take (prog.cellsOf 58))=some y5:=c 5 _ rfl;rwa[Jy] at this
  obtain⟨k,p,t,_⟩:=DataW.trod_int underlying3 F;obtain⟨w,j,v,J⟩:=DataW.trod_int underlying3 B;obtain⟨b,e,x⟩:=DataW.trod_bool underlying4 A;obtain⟨S,f,u,_⟩:=ux underlying9 z;obtain⟨T,i,E,_⟩:=ux underlying9 C;injection p with p _;injection j with j _;injection e with e _;injection f with f _;injection i with i _;subst p j e f i t v x u E;refine⟨⟨k,w,b,S,T,c5⟩,y5.1,y5.2,m,rfl,?_,D,J⟩;have:=aB Prod.fst G;simpa using this
theorem gA (g off k:Nat):(⟨g,off,none⟩:Go.Addr).add k=⟨g,off+k,none⟩:=by simp[Go.Addr.add]
theorem yn {W:World} {a:Go.Addr} {v:Value} (h:W.cell? a=some v):a.spot=none/\a.block<W.heap.size:=by
 unfold World.cell? at h;constructor
 .split at h
  .simp_all
  .cases h
 .grind
set_option maxRecDepth 100000 in
theorem JA {H:Type} {z:TypeId×Value->H} {W:World} {base:Nat} {v:Value} {d:DataW H} {p:List MemPlace} (P:Value.okWide Tryz.prog W .any base 22 v) (Y:DataW.Trod z Tryz.prog W 0 (λ_=>true) true 22 v d p) (U:Rows.uptoBulk d<=1048576):∃(J:Option Go.Addr) (t:Nat) (s:List OpV),v=.slice J s.length t/\OpRow W J s/\s.length<=2097152/\∀o∈s,o.S.size<=2097152/\o.T.size<=2097152/\∃(r:DataW H) (E:List MemPlace) (m:Nat),DataW.trod z Tryz.prog W 0 (λ_=>true) true m 58 [o.lv]=some (r,E)/\Rows.uptoBulk r<=1048576/\(Lit.int .i64 o.n).wf=true:=by
 obtain⟨a0,b,t,rfl⟩:=okWide_slice underlying22 P;obtain⟨fuel,hf⟩:=Y;obtain⟨k,K⟩|⟨a,a5,a6,m,n,D,Pl,k,_,hl,hm,X,K,a3⟩:=Go.Deep.open_slice underlying22 hf
 .simp[Value.cells] at k
  obtain⟨rfl,rfl,rfl⟩:=k;exact⟨none,0,[],rfl,λj o f=>by simp at f,by simp,λo u=>by cases u⟩
 .simp[Value.cells] at k
  obtain⟨rfl,rfl,rfl⟩:=k;simp only[eV] at X;have V:∀i,i<b->∃q:OpV×DataW H×List MemPlace×Nat,(∀(l:Nat) c,[Value.int .i64 q.1.kind,Iv q.1.n,.bool q.1.flag,.string q.1.S,.string q.1.T,q.1.lv][l]?=some c->W.cell? ((a.add (i*6)).add l)=some c)/\
    D i=.agg [.lit (.int .i64 q.1.kind),.lit (.int .i64 q.1.n),.lit (.bool q.1.flag),.lit (.string q.1.S.data.toList),.lit (.string q.1.T.data.toList),q.2.1]/\DataW.trod z Tryz.prog W 0 (λ_=>true) true q.2.2.2 58 [q.1.lv]=some (q.2.1,q.2.2.1)/\(Lit.int .i64 q.1.n).wf=true:=by
   intro i x;obtain⟨a8,F,L⟩:=a3 i (by omega);rw[yl] at F;obtain⟨_,a7,e⟩:=World.cells?_some F;obtain⟨o,r,E,T,rfl,y,A,C⟩:=Jz L;refine⟨(o,r,E,T),λl c G=>?_,y,A,C⟩;have R:l<6:=by have:=(dN.1 G).1;simpa using this
   rw[e l R,G]
  have:Inhabited OpV:=⟨⟨0,0,false,⟨#[]⟩,⟨#[]⟩,.slice none 0 0⟩⟩;obtain⟨Q,B⟩:=Go.Deep.choose_lt (α:=OpV×DataW H×List MemPlace×Nat) V;have y:d=.slice ((List.range b).map D) ((List.range (m- b)).map λj=>D (b+j)):=aB Prod.fst K;rw[y,Rows.uptoBulk] at U;have a2:=sA ((List.range b).map D);rw[gX,List.length_range] at a2;refine⟨some a,t,(List.range b).map λi=>(Q i).1,by simp,?_,by simp;omega,?_⟩
  .intro j o f
   have I:j<b:=(by have:=(dN.1 f).1;simpa using this);rw[fy,BP I] at f;simp only[kd,kU] at f;subst f;have e:=(B j I).1;have a4:=(B 0 (by omega)).1 0 _ rfl;have h:=yn a4;have M:a=(Ad a.block a.off):=by
    have:((a.add (0*6)).add 0)=a:=by rw[qW];rfl
    rw[this] at h;cases a;simp at h;rw[h.1]
   have Z:a.block<W.heap.size:=by
    have:((a.add (0*6)).add 0)=a:=by rw[qW];rfl
    rw[this] at h;exact h.2
   generalize a.block=g at*;generalize a.off=off at*;subst M;refine⟨g,off,rfl,Z,?_,?_,?_,?_,?_,?_⟩
   .have:=e 0 _ rfl;rwa[gA,gA] at this
   .have:=e 1 _ rfl;rwa[gA,gA] at this
   .have:=e 2 _ rfl;rwa[gA,gA] at this
   .have:=e 3 _ rfl;rwa[gA,gA] at this
   .have:=e 4 _ rfl;rwa[gA,gA] at this
   .have:=e 5 _ rfl;rwa[gA,gA] at this
  .intro o u
   obtain⟨i,x,rfl⟩:=jJ.1 u;have O:=BO.1 x;obtain⟨_,S,A,C⟩:=B i O;have w:=sz (jJ.2 ⟨i,x,rfl⟩:D i∈(List.range b).map D);rw[S] at w;simp only[Rows.uptoBulk,Rows.uptoBulkAll] at w;have N:(Q i).1.S.data.toList.length=(Q i).1.S.size:=(by rw[bT];rfl);have a1:(Q i).1.T.data.toList.length=(Q i).1.T.size:=(by rw[bT];rfl);rw[N,a1] at w;exact⟨by omega,by omega,_,_,_,A,by omega,C⟩
end Go.Proofs.YtkcnageeamappaaGreatDoor
namespace Go.Proofs
open Go.RowKit Go.Moor Go.Proofs.Tryz Go.Moor
theorem bf {a:Func} (h:a.results=#[]) (b:Array Value) (P:Program) (w:World):(results a b).run P w=.ok (.tuple #[]) w:=by simp[results,h]
def jZ (r:Bs):Nat:=if r.head? =some 63 then 11 else if r.head? =some 35 then 12 else 13
theorem tM (r:Bs) (k:Nat) (a:k<256):(r.head? =some (UInt8.ofNat k))↔(bn r==(k:Int))=true:=by
 rw[dM];cases r with
 |nil=>simp[bn]
 |cons c r=>show(some c=some _)↔_;rw[Option.some_inj];exact dt c k a
theorem nX (r:Bs):r.head? =some 63↔(bn r==63)=true:=tM r 63 (by decide)
theorem mD (r:Bs):r.head? =some 35↔(bn r==35)=true:=tM r 35 (by decide)
theorem qp (r:Bs):r.head? =some 47↔(bn r==47)=true:=tM r 47 (by decide)
theorem NE (r:Bs) (h:(bn r==63)=true):jZ r=11:=ae ((nX r).2 h)
theorem qr (r:Bs) (c:UInt8) (b:Bool) (a:r.head? =some c↔b=true) (h:b=false):¬r.head? =some c:=λe=>by
 grind
theorem NF (r:Bs) (h:(bn r==63)=false) (a:(bn r==35)=true):jZ r=12:=by unfold jZ;rw[ab (qr r 63 _ (nX r) h),ae ((mD r).2 a)]
theorem NG (r:Bs) (h:(bn r==63)=false) (a:(bn r==35)=false):jZ r=13:=by simp_all[jZ,nX,mD]
theorem AD {B R k j:Nat} {i:Value} {s:ByteArray} {w0:World} {u:Adr} {m:Value} (a:Nat) {x l:Int} {w:World} (b:Mem B R k j i s w0 u m (a:Nat) x l w) (z:a<=s.size) (E:s.size<=35184372088832):Calls prog 184 #[.pointer (some ⟨k,0,none⟩)] w fun e w'=>e=.returned (.tuple #[])/\Mem B R k j i s w0 u m ((a+1:Nat):Int) (jZ (s.data.toList.drop a):Nat) l w':=by
 have y3:=b.y3;have y4:=b.y4;have f:Hid _:=mx k a s w (aa b.K 2) y3 (by omega);have A:=b.f 3;have C:=b.f 4;have h:=hI b;clear b;obtain⟨r,y⟩:=am (s.L.drop a);rw[<-y] at f⊢;have q:Hid _:=NE r;have v:Hid _:=NF r;have t:Hid _:=NG r;generalize jZ r=D at*;generalize bn r=c at*;cases g:(c==63) with
 |true=>have d:=q g;subst d;go_enter func184,ntmps184;go_wp21;refine mR f ?_;rintro p ⟨n,rfl⟩;go_wp2;go_end0;exact⟨rfl,((h.out.drewN n).set_st _).set_a _⟩
 |false=>
  cases o:(c==35) with
  |true=>have d:=v g o;subst d;go_enter func184,ntmps184;go_wp21;refine mR f ?_;rintro p ⟨n,rfl⟩;go_wp2;go_end0;exact⟨rfl,((h.out.drewN n).set_st _).set_a _⟩
  |false=>have d:=t g o;subst d;go_enter func184,ntmps184;go_wp21;refine mR f ?_;rintro p ⟨n,rfl⟩;go_wp2;go_end0;exact⟨rfl,((h.out.drewN n).set_st _).set_a _⟩
theorem AE (a:Bs) (l:Bs) (b:Nat) (h:b<l.length):fY a l[b]=(ax (ak a) (l.drop b)||eu (l.drop b)):=by rw[ch h];rfl
theorem NH (d:Bs) (l:Bs) (a b:Nat) (q:a<=b) (o:b<=l.length) (n:∀i (h:i<l.length),a<=i->i<b->fY d l[i]=false) (f:b=l.length\/∃h:b<l.length,fY d l[b]=true):bV d (l.drop a)=(l.drop a).take (b- a)/\ca d (l.drop a)=l.drop b:=by
 have e:l.drop a=(l.drop a).take (b- a)++l.drop b:=by conv=>lhs;rw[<-la (b- a) (l.drop a),fQ,show a+(b- a)=b by omega]
 have k:∀x∈(l.drop a).take (b- a),(!fY d x)=true:=by intro x j;obtain⟨i,g,rfl⟩:=List.mem_iff_getElem.1 j;rw[cL,cm] at g;rw[BZ,qD,n (a+i) (by omega) (by omega) (by omega)];rfl
 have m:(l.drop b).takeWhile (λc=>!fY d c)=[]/\(l.drop b).dropWhile (λc=>!fY d c)=l.drop b:=by
  rcases f with h|⟨h,p⟩
  .rw[h,im .refl]
   exact⟨rfl,rfl⟩
  .grind[List.drop_eq_getElem_cons,List.takeWhile_cons,List.dropWhile_cons]
 unfold bV ca;constructor
 .grind[List.takeWhile_append_of_pos]
 .conv=>lhs;rw[e]
  rw[oe k,m.2]
theorem kO {B R k j:Nat} {f:Value} {s:ByteArray} {w0:World} {u:Adr} {o:Value} (a:Nat) {g m:Int} {w:World} (N:Mem B R k j f s w0 u o (a:Nat) g m w) (K:a<=s.size) (hs:s.size<=35184372088832):Calls prog 220 #[.pointer (some ⟨k,0,none⟩)] w fun e w'=>∃b:Nat,a<=b/\b<=s.size/\e=.returned (.string ⟨(bV u.s (s.data.toList.drop a)).toArray⟩)/\ca u.s (s.data.toList.drop a)=s.data.toList.drop b/\Mem B R k j f s w0 u o (b:Nat) g m w':=by
 obtain⟨l,r⟩:=am s.data.toList;have a3:l.length=s.size:=by rw[r,bT];rfl
 have S:Hid (∀i j:Nat,s.extract i j=(Bv ((l.drop i).take (j- i)))):=by intro i j;rw[r];exact fJ s i j
 have E:Hid (∀(b:Nat) W,b<=s.size->Mem B R k j f s w0 u o (b:Nat) g m W->CQ 178 #[Pt k] W (.bool (ax (ak u.s) (l.drop b))) (Mem B R k j f s w0 u o (b:Nat) g m)):=by intro b W c d;rw[r];refine(Av k j b s u.s W (aa d.K 0) (aa d.K 2) (aa d.K 3) (aa d.U 0) (by omega)).mono ?_;rintro e w' ⟨O,n,rfl⟩;exact⟨O,d.drewN n⟩
 have D:Hid (∀(b:Nat) W,b<=s.size->Mem B R k j f s w0 u o (b:Nat) g m W->CQ 221 #[Pt k] W (.bool (eu (l.drop b))) (Mem B R k j f s w0 u o (b:Nat) g m)):=by intro b W c d;rw[r];refine(Aw k b s W (aa d.K 2) (aa d.K 3) (by omega)).mono ?_;rintro e w' ⟨O,n,rfl⟩;exact⟨O,d.drewN n⟩
 rw[<-r];have C:Hid (∀b,a<=b->b<=s.size->(∀i (h:i<l.length),a<=i->i<b->fY u.s l[i]=false)->(ax (ak u.s) (l.drop b)=true\/eu (l.drop b)=true)->s.extract a b=(Bv (bV u.s (l.drop a)))/\ca u.s (l.drop a)=l.drop b):=by
  intro b t c z v;have:=NH u.s l a b t (by omega) z (by
   grind[AE])
  rw[this.1,S.out];exact⟨rfl,this.2⟩
 have I:Hid (∀b,b<=s.size->(∀i (h:i<l.length),a<=i->i<b->fY u.s l[i]=false)->ax (ak u.s) (l.drop b)=false->eu (l.drop b)=false->b<s.size/\∀i (h:i<l.length),a<=i->i<b+1->fY u.s l[i]=false):=by
  intro b c z Y J;have G:b<l.length:=by
   obtain h|h:=jL b l.length
   .exact h
   .rw[im h] at J
    cases J
  refine⟨by omega,fun i h h3 h4=>?_⟩;obtain h5|h5:=jL i b
  .grind
  .grind[AE]
 have y3:=N.y3;have X:=hI N;clear N r S;go_enter func220,ntmps220;go_wp2_with fail;refine mH (E a w K X) fun w1 T=>?_;go_wp2_with fail;refine mR (D a w1 K T) fun w2 V=>?_;have U:Hid _:=V;clear V y3 X T;go_wp2_with fail;go_loopw [4,5] (fun x y wr=>∃b:Nat,a<=b/\b<=s.size/\x=.bool (ax (ak u.s) (l.drop b))/\y=.bool (eu (l.drop b))/\(∀i (h:i<l.length),a<=i->i<b->fY u.s l[i]=false)/\Mem B R k j f s w0 u o (b:Nat) g m wr) (fun x y wr=>s.size-((wr.cell? (Ad k 3)).map intOf).getD 0|>.toNat)
 case atStart=>exact⟨a,.refl,K,rfl,rfl,fun i h Y J=>by omega,U⟩
 case round=>
  obtain⟨b,t,c,rfl,rfl,z,A⟩:=hrel;have q:=hI z;have H:=hI A;have y3:=A.y3;have y2:=A.y2;have i3:=A.f 3;clear z A U;cases v:ax (ak u.s) (l.drop b) with
  |true=>
   have p:Hid _:=C b t c q (.inl v);have P:=p.out.1;have L:Hid _:=p.out.2;generalize eu (l.drop b)=mk at*;clear C I E D q v p;go_wp2;go_quiet (fail);go_wp2;go_ret;refine⟨b,t,c,?_,L,H.out.drewN _⟩;first|rfl|(rw[P])
  |false=>
   cases F:eu (l.drop b) with
   |true=>
    have p:Hid _:=C b t c q (.inr F);have P:=p.out.1;have L:Hid _:=p.out.2;clear C I E D q v F p;go_wp2;go_quiet (fail);go_wp2;go_ret;refine⟨b,t,c,?_,L,H.out.drewN _⟩;first|rfl|(rw[P])
   |false=>
    obtain⟨G,Q⟩:=I b c q v F;have a2:Hid _:=Q;have Z:Hid (Mem B R k j f s w0 u o ((b+1:Nat):Int) g m (wr.setCell (Ad k 3) (Iv ((b:Int)+1)))):=H.out.set_a _;clear C I q Q v F H;go_wp2_with fail;refine mH (E (b+1) _ G Z) fun w3 a0=>?_;go_wp2_with fail;refine mR (D (b+1) _ G a0) fun w4 M=>?_;have a1:Hid _:=M;have z3:=M.y3;clear M;go_wp2;go_roundw
    case rel=>exact⟨b+1,by omega,G,rfl,rfl,a2,a1⟩
    case measure=>grind[intOf]
theorem NI (l:Bs) (a:Nat) (h:l.length<a+2):dr (l.drop a)=false:=by grind[dr,nh]
def kQ:ByteArray:=⟨#[47,92,63,35]⟩
theorem NJ (l:Bs) (a:Nat) (h:l.length=a+2):dr (l.drop a)=aC ((l.drop a).take 2):=by grind[dr,List.length_drop]
theorem NK (l:Bs) (a:Nat) (h:a+2<l.length):dr (l.drop a)=(aC ((l.drop a).take 2)&&kQ.data.toList.contains l[a+2]):=by
 unfold dr;congr 1;rw[fQ,ch h];have e:ax (λc=>c==47||c==92||c==63||c==35) (l[a+2]::List.drop (a+2+1) l)=kQ.L.contains l[a+2]:=by show(l[a+2]==47||l[a+2]==92||l[a+2]==63||l[a+2]==35)=List.contains [47,92,63,35] l[a+2];simp only[List.contains_cons,List.contains_nil,Bool.or_false,Bool.or_assoc]
 rw[e];cases b:kQ.L.contains l[a+2] with
 |true=>simp
 |false=>rfl
theorem tN (k a:Nat) (s:ByteArray) (w:World) (u:Ce w k 2 (.string s)) (G:Ce w k 3 (.int .i64 (a:Nat))) (B:a<=s.size) (M:s.size<=35184372088832):Calls prog 225 #[.pointer (some ⟨k,0,none⟩)] w fun e w'=>e=.returned (.bool (dr (s.data.toList.drop a)))/\∃n,w'=w.drewN n:=by
 obtain⟨l,f⟩:=am s.data.toList;have r:l.length=s.size:=by rw[f,bT];rfl
 have i:Hid (∀(q:Nat) (h:q<s.size) (u:q<l.length),l[q]=s[q]):=by intro q h u;subst f;simp;rfl
 have z:s.extract a (a+2)=⟨((l.drop a).take 2).toArray⟩:=by rw[f,fJ,show a+2- a=2 by omega]
 have j:Hid (∀W,C0 223 #[.string ⟨((l.drop a).take 2).toArray⟩] W (.bool (aC ((l.drop a).take 2)))):=fun W=>ja _ W;rw[<-f];clear f;by_cases F:s.size<a+2
 .have x:=hI (NI l a (by omega))
  have H:(s.size:Int)<(a:Int)+2:=by omega
  rw[x.out];clear i j z;go_enter func225,ntmps225;go_wp2;go_quiet (fail);go_wp2;go_ret;exact⟨rfl,_,rfl⟩
 .have C:(a:Int)+2<=(s.size:Int):=by omega
  have I:((a:Int)+2).toNat=a+2:=by omega
  have N:(0:Int)<=(a:Int)+2:=by omega
  have K:(a:Int)<=(a:Int)+2:=by omega
  have E:IntKind.i64.wrap ((a:Int)+2)=(a:Int)+2:=by rw[lc];unfold wrap64;omega
  have m:Hid (s.size=a+2->dr (l.drop a)=aC ((l.drop a).take 2)):=fun h=>NJ l a (by omega);have g:Hid (∀h:a+2<s.size,dr (l.drop a)=(aC ((l.drop a).take 2)&&kQ.data.toList.contains s[a+2])):=by intro h;rw[NK l a (by omega),i.out (a+2) h (by omega)]
  have o:Hid (∀(c:UInt8) W,C0 110 #[.string ⟨#[47,92,63,35]⟩,.int .u8 c.toNat] W (.bool (kQ.data.toList.contains c))):=fun c W=>kv kQ c W (by decide);generalize(⟨((l.drop a).take 2).toArray⟩:ByteArray)=L at*;generalize aC ((l.drop a).take 2)=D at*;generalize dr (l.drop a)=X at*;cases D with
  |false=>
   have b:Hid (X=false):=by
    obtain h|h:=jL (a+2) s.size
    .exact g h
    .grind
   rw[b.out];clear m g o b i r;go_enter func225,ntmps225;go_wp2;go_quiet (fail);go_wp2;go_quiet ((go_at_call 223;refine af (j _) ?_;rintro e t ⟨rfl,d⟩;exact⟨rfl,_,d⟩));go_wp2;go_quiet (fail);go_wp2;go_ret;exact⟨rfl,_,by rw[mZ,mZ]⟩
  |true=>
   by_cases p:s.size=a+2
   .have b:=hI (m p)
    have y:(((a:Int)+2)==(s.size:Int))=true:=(by rw[p];simp);rw[b.out];clear m g o b i r p;go_enter func225,ntmps225;go_wp2;go_quiet (fail);go_wp2;go_quiet ((go_at_call 223;refine af (j _) ?_;rintro e t ⟨rfl,d⟩;exact⟨rfl,_,d⟩));go_wp2;go_quiet (fail);go_wp2;go_ret;exact⟨rfl,_,by rw[mZ,mZ]⟩
   .have v:a+2<s.size:=by omega
    have b:Hid (X=kQ.data.toList.contains s[a+2]):=hI (by rw[g.out v,qU]);have y:(((a:Int)+2)==(s.size:Int))=false:=(by rw[aL];omega);have A:Hid _:=o s[a+2];have J:(a:Int)+2<(s.size:Int):=(by omega);rw[b.out];generalize kQ.data.toList.contains s[a+2]=Y at*;clear m g o b i r p;go_enter func225,ntmps225;go_wp2;go_quiet (fail);go_wp2;go_quiet ((go_at_call 223;refine af (j _) ?_;rintro e t ⟨rfl,d⟩;exact⟨rfl,_,d⟩));go_wp2;go_quiet ((go_at_call 110;refine af (A _) ?_;rintro e t ⟨rfl,d⟩;exact⟨rfl,_,d⟩));go_wp2;go_ret;exact⟨rfl,_,by rw[mZ,mZ]⟩
theorem Tryz.Mem.reway {B R k j:Nat} {c:Value} {s:ByteArray} {w0 w:World} {u:Adr} {b:Value} {a e d:Int} (h:Mem B R k j c s w0 u b a e d w) (y:Moor.Way) (f:u.w.o=y.o) (g:WayRow B R w y b):Mem B R k j c s w0 {u with w:=y} b a e d w:=
 ⟨h.below,h.K,by rw[h.U];unfold bD;rw[f],h.bk,h.bj,h.ne,h.kr,h.jr,h.rz,g⟩
theorem Tryz.Mem.repath {B R k j:Nat} {c:Value} {s:ByteArray} {w0 w:World} {u:Adr} {f:Value} {a e d:Int} (h:Mem B R k j c s w0 u f a e d w) (y:Moor.Way) (i:u.w.o=y.o) (b:Value) (g:WayRow B R w y b):Mem B R k j c s w0 {u with w:=y} b a e d (w.setCell ⟨j,7,none⟩ b):=
 ⟨h.below.setCell h.bj _,(fj w (Ad j 7) k _ h.ne).trans h.K,(aD w j 7 _ _ b h.U).trans (by simp_all[bD]),h.bk,h.bj,h.ne,h.kr,h.jr,by simpa using h.rz,g.setCell h.bj h.jr _⟩
theorem Tryz.Mem.owned {B R k j:Nat} {c:Value} {s:ByteArray} {w0 w:World} {u:Adr} {b:Value} {a e d:Int} (h:Mem B R k j c s w0 u b a e d w) (i:u.w.o=false):w.ownsRow R 9 1 b u.w.g.length (aW u.w.g):=by
 obtain⟨_,f⟩|⟨g,_⟩:=h.row
 .exact f
 .grind
theorem tP (x:Bs) (a:aC x=true):∃(h:1<(⟨x.toArray⟩:ByteArray).size),ek x=decide ((((⟨x.toArray⟩:ByteArray)[1]'h).toNat:Int)=58):=by
 match x,a with
 | [p,q],a=>refine⟨by show 1<2;omega,?_⟩;show(aC [p,q]&&q==58)=_;rw[a,qU];show(q==58)=decide ((q.toNat:Int)=58);rw[ki,dM,oD];exact dt q 58 (by decide)
theorem ly {B R k j:Nat} {bv:Value} {s:ByteArray} {w0:World} {u:Adr} {pv:Value} {a st er:Int} {w:World} (hm:Mem B R k j bv s w0 u pv a st er w) (ho:u.w.o=false):Calls prog 224 #[.pointer (some ⟨k,0,none⟩)] w fun e w'=>e=.returned (.tuple #[])/\∃pv',Mem B R k j bv s w0 {u with w:=⟨false,[],aI u.s u.w.g⟩} pv' a st er w':=by
 obtain⟨sc,au,⟨op,tx,segs⟩,qq,ff⟩:=u;have ho1:=ho;subst ho1;have hown:=hm.owned ho;obtain⟨sp,cap,hpv,hnc,hcm,hsh⟩:=dF hown;have hcm2:cap<=9223372036854775807:=hcm;have y0:=hm.y0;have u7:=hm.v7;have u0:=hm.v0;have i7:=hm.g 7;rw[hpv] at hown u7;have HLESS:Hid _:=vP sc hown;have HPUT:Hid (∀n,w.ownsRow R 9 1 (.slice sp (aI sc segs).length cap) (aI sc segs).length (aW (aI sc segs))->Mem B R k j bv s w0 (⟨sc,au,⟨false,[],aI sc segs⟩,qq,ff⟩:Adr) (.slice sp (aI sc segs).length cap) a st er ((w.drewN n).setCell (Ad j 7) (.slice sp (aI sc segs).length cap))):=by intro n h;exact(hm.drewN n).repath ⟨false,[],_⟩ ho _ (.inl ⟨rfl,h⟩)
 have HSAME:Hid (aI sc segs=segs->Mem B R k j bv s w0 (⟨sc,au,⟨false,[],aI sc segs⟩,qq,ff⟩:Adr) pv a st er w):=by intro h;rw[h];exact hm.reway ⟨false,[],segs⟩ ho (.inl ⟨rfl,by grind⟩)
 clear hm hcm;show Calls _ _ _ _ fun e w'=>e=.returned (.tuple #[])/\∃pv',Mem B R k j bv s w0 (⟨sc,au,⟨false,[],aI sc segs⟩,qq,ff⟩:Adr) pv' a st er w';clear ho;match segs,hnc,hsh with
 | [],hnc,hsh=>have HF:Hid _:=HSAME (by rfl);clear HSAME HPUT HLESS hown hsh;go_enter Tryz.func224,Tryz.ntmps224;go_wp2;exact aO (v:=.tuple #[]) (bf rfl _ _ _) rfl ⟨rfl,_,HF.out⟩
 |x::r,hnc,hsh=>
  obtain⟨g,hg,hcs⟩:=hsh (by simp);have c0:w.cell? ⟨g,0,none⟩=some (.string ⟨x.toArray⟩):=hcs 0 _ rfl;have HDR:Hid (∀W,Calls Tryz.prog 223 #[.string ⟨x.toArray⟩] W fun e w'=>e=.returned (.bool (aC x))/\w'=W):=fun W=>ja _ W;have HTX:Hid _:=tP x;have HWL:Hid (¬(r=[]/\sc=sFile/\ek x=true)->(aI sc (x::r)).length=r.length):=by intro h;unfold aI;rw[ab (fun h2=>h ⟨by have:=h2.1;simpa using this,h2.2.1,h2.2.2⟩),lF];rfl
  have HWS:Hid (r=[]->sc=sFile->ek x=true->aI sc (x::r)=x::r):=by intro h1 h2 h3;unfold aI;rw[ae ⟨by rw[h1];rfl,h2,h3⟩]
  rw[hg] at u7 HPUT HLESS;have hn1:r.length+1<=cap:=hnc;have u7b:w.cell? ⟨j,7,none⟩=some (.slice (some ⟨g,0,none⟩) (r.length+1) cap):=u7;clear hown hcs u7 hg hsh hnc hpv;obtain⟨m,hmr⟩:=am r.length;have HR0:Hid (m=0↔r=[]):=by rw[hmr];exact⟨fun h=>oy.1 h,fun h=>by rw[h];rfl⟩
  rw[<-hmr] at hn1 u7b;have HWL2:Hid (¬(r=[]/\sc=sFile/\ek x=true)->(aI sc (x::r)).length=m):=by rw[hmr];exact HWL
  clear hmr HWL;generalize hxb:(⟨x.toArray⟩:ByteArray)=xb at*;clear hxb;have hnb:((m:Int)+1==0)=false:=by rw[aL];omega
  have q2:(m:Int)<=(cap:Int):=by omega
  have q3:(0:Int)<=(m:Int):=by omega
  have q4:IntKind.i64.wrap ((m:Int)+1- 1)=(m:Int):=by rw[lc];unfold wrap64;omega
  have q5:IntKind.i64.wrap (m:Int)=(m:Int):=by rw[lc];unfold wrap64;omega
  have HDROP:Hid (¬(r=[]/\sc=sFile/\ek x=true)->∀n,∃pv',Mem B R k j bv s w0 (⟨sc,au,⟨false,[],aI sc (x::r)⟩,qq,ff⟩:Adr) pv' a st er ((w.drewN n).setCell (Ad j 7) (.slice (some (Ad g 0)) m cap))):=by intro h n;have:=HPUT n HLESS;rw[HWL2.out h] at this;exact⟨_,this⟩
  clear HPUT HLESS HWL2;by_cases hf:sc=sFile
  .have e1:((⟨sc.toArray⟩:ByteArray).toList==[102,105,108,101])=true:=fE sc _ hf
   generalize hscb:(⟨sc.toArray⟩:ByteArray)=scb at*;clear hscb;by_cases h1:m=0
   .have hr0:=HR0.out.1 h1
    have h1b:((m:Int)+1==1)=true:=(by rw[h1];rfl);clear h1;cases hd:aC x with
    |false=>
     have ht:ek x=false:=(by show(aC x&&_)=false;rw[hd];rfl);have HF:Hid _:=HDROP (fun h=>by grind);rw[hd] at HDR;clear hd HTX HWS HDROP HSAME HR0 ht hf;go_enter func224,ntmps224;go_wp2_with fail;refine mR (HDR _) fun w1 hw1=>?_;obtain rfl:=hw1.symm;go_wp2;go_region;all_goals
      go_wp2;go_end0;exact⟨rfl,HF 1⟩
    |true=>
     obtain⟨h58,ht⟩:=HTX hd;rw[hd] at HDR;by_cases hc:((xb[1]'h58).toNat:Int)=58
     .rw[dC hc] at ht
      have HF:Hid _:=HSAME (HWS hr0 hf ht);clear hd HTX HWS HDROP HSAME HR0 ht hf;go_enter func224,ntmps224;go_wp2_with fail;refine mR (HDR _) fun w1 hw1=>?_;obtain rfl:=hw1.symm;go_wp2;exact aO (v:=.tuple #[]) (bf rfl _ _ _) rfl ⟨rfl,_,HF⟩
     .rw[ee hc] at ht
      have HF:Hid _:=HDROP (fun h=>by grind);have hcb:(((xb[1]'h58).toNat:Int)==58)=false:=(by simpa using hc);clear hd HTX HWS HDROP HSAME HR0 ht hf hc;go_enter func224,ntmps224;go_wp2_with fail;refine mR (HDR _) fun w1 hw1=>?_;obtain rfl:=hw1.symm;go_wp2;go_region;all_goals
       go_wp2;go_end0;exact⟨rfl,HF 1⟩
   .have HF:Hid _:=HDROP (fun h=>h1 (HR0.out.2 h.1))
    have h1b:((m:Int)+1==1)=false:=(by rw[aL];omega);generalize aC x=D at*;clear HTX HWS HDROP HSAME HR0 hf;go_enter func224,ntmps224;go_wp2_with fail;refine m0 (HDR _) ?_;go_wp2;go_region;all_goals
     go_wp2;go_end0;exact⟨rfl,HF 1⟩
  .have HF:Hid _:=HDROP (fun h=>hf h.2.1)
   have e1:((⟨sc.toArray⟩:ByteArray).toList==[102,105,108,101])=false:=dV sc _ hf;generalize hscb:(⟨sc.toArray⟩:ByteArray)=scb at*;clear hscb;generalize aC x=D at*;clear HTX HWS HDROP HSAME HR0 hf;go_enter func224,ntmps224;go_wp2_with fail;refine m0 (HDR _) ?_;go_wp2;go_region;all_goals
    go_wp2;go_end0;exact⟨rfl,HF 1⟩
def qt (w:World) (xv:Value) (m:Nat) (news:List Value):Prop:=(xv=.slice none 0 0/\m=0/\news=[])\/∃ad c,xv=.slice (some ad) m c/\news.length=m/\∀j u,news[j]?=some u->w.cell? (ad.add j)=some u
theorem ka {P:Program} (w:World) {C:Array Oper} {o:Oper} {a:Act} {K:Act->World->Prop} {Q:Exit->Act->World->Prop} {E:Prop} (S:o.guard=none) (s x:Operand) (t:TypeId) (F:o.op=.call {callee:=.builtin .append,args:=#[s,x],argTypes:=#[t,t]}) (base:Nat) (e:TypeId) (i:TypeInfo) (z:Value) (p:Nat) (A:P.underlying t=some (.slice e)) (B:P.info? e=some i) (hz:i.zero=some z) (O:i.size=1) (M:i.bytes=p) (I:z.cells.size=1) (v:Value) (n:Nat) (d:List Value) (R:a.eval s=v) (r:w.ownsRow base e 1 v n d) (y:Value) (m:Nat) (b:List Value) (T:a.eval x=y) (U:qt w y m b) (G:∀u∈b,u.oneCell'=true) (J:n+m<=maxLen) (D:(n+m)*p<=140737488355328) (H:base<=w.heap.size) (h:∀k j w',w'.ownsRow base e 1 (.slice k (n+m) j) (n+m) (d++b)->w.grownBy w' v.ownBlock->K (a.put o.dst (.slice k (n+m) j)) w'):if Region.wanted o (yielded C a.tmps)=true then Oper.wp P o a w K Q else E:=by
 have W:Region.wanted o (yielded C a.tmps)=true:=by simp[Region.wanted,S]
 rw[ae W];have N:∃f w',(Builtin.append_ #[t,t] o.type #[v,y]).run P w=.ok f w'/\w'.ownsRow base e 1 f (n+m) (d++b)/\w.grownBy w' v.ownBlock:=by
  obtain⟨rfl,rfl,rfl⟩|⟨V,c,rfl,X,L⟩:=U
  .refine⟨v,w,run_append_owned_none (P:=P) w base t o.type e i 1 A B v n d r,?_,⟨rfl,rfl,rfl,.refl,λ_ _ _=>rfl⟩⟩
   rw[dl];exact r
  .obtain⟨f,w',q,g,l,_⟩:=run_append_own (P:=P) w base t o.type e i z 1 p A B hz O M I (by decide) v n d r V m c b (by omega) L G J D H
   exact⟨f,w',q,g,l⟩
 obtain⟨f,w',q,g,l⟩:=N;obtain⟨k,j,rfl,_⟩:=dF g;unfold Oper.wp execOp;simp only[F,resolve,invoke,builtin,jg,uE,uF,List.map_toArray,mM,List.map_nil,R,T,q];exact h k j w' g l
section
variable {B R k j : Nat} {bv : Value} {s : ByteArray} {w0 w : World} {u : Adr} {pv : Value} {a st er : Int}
theorem Tryz.Mem.grown (h:Mem B R k j bv s w0 u pv a st er w) (n:u.w.o=false) {b:World} (d:w.grownBy b pv.ownBlock) (segs:List Bs) (c:Value) (l:b.ownsRow R 9 1 c segs.length (aW segs)):Mem B R k j bv s w0 {u with w:=⟨false,[],segs⟩} c a st er (b.setCell ⟨j,7,none⟩ c):=by
 have f:=(h.owned n).lt;have o:some k≠pv.ownBlock:=λe=>by have:=(f k e.symm).1;have:=h.kr;omega
 have i:some j≠pv.ownBlock:=λe=>by have:=(f j e.symm).1;have:=h.jr;omega
 have p:=h.below.grown d h.bz (λq m=>by have:=(f q m).1;have:=h.kr;have:=h.bk;omega);have g:=(d.block k h.kz o).trans h.K;have r:=(d.block j h.jz i).trans h.U;exact⟨p.setCell h.bj _,(fj b (Ad j 7) k _ h.ne).trans g,(aD b j 7 _ _ c r).trans (by simp_all[bD]),h.bk,h.bj,h.ne,h.kr,h.jr,by simpa using bu h.rz d.size,.inl ⟨rfl,qI l h.jr _⟩⟩
theorem Tryz.Mem.far (h:Mem B R k j bv s w0 u pv a st er w) (i:u.w.o=false) {b:World} (d:w.grownBy b pv.ownBlock):b.heap[k]?=some (.cells (jY j bv s a st er) 168 (0,0))/\b.heap[j]?=some (.cells (bD u pv) 116 (0,0))/\Below B w0 b:=by
 have c:=(h.owned i).lt;have l:some k≠pv.ownBlock:=λe=>by have:=(c k e.symm).1;have:=h.kr;omega
 have f:some j≠pv.ownBlock:=λe=>by have:=(c j e.symm).1;have:=h.jr;omega
 exact⟨(d.block k h.kz l).trans h.K,(d.block j h.jz f).trans h.U,h.below.grown d h.bz (λq g=>by have:=(c q g).1;have:=h.kr;have:=h.bk;omega)⟩
theorem Tryz.Mem.alloc (h:Mem B R k j bv s w0 u pv a st er w) (o:Obj):Mem B R k j bv s w0 u pv a st er (w.alloc o):=h.off ((ai _ _).alloc .refl o)
theorem Tryz.Mem.drew (h:Mem B R k j bv s w0 u pv a st er w):Mem B R k j bv s w0 u pv a st er w.drew:=h.off (ai _ _).drew
end
structure Tryz.UBase (B:Nat) (w0:World) (b:Adr) (bj:Nat) (bpv:Value):Prop where
 lt:bj<B
 U:w0.heap[bj]?=some (.cells (bD b bpv) 116 (0,0))
 row:(b.w.o=false/\qt w0 bpv b.w.g.length (aW b.w.g)/\(∀g,bpv.ownBlock=some g->g<B)/\∃sp cap,bpv=.slice sp b.w.g.length cap/\((0<b.w.g.length)->∃g,sp=some ⟨g,0,none⟩))\/(b.w.o=true/\∃g cap,bpv=.slice (some ⟨g,0,none⟩) 1 cap/\1<=cap/\cap<=maxLen/\w0.cell? ⟨g,0,none⟩=some (.string ⟨b.w.text.toArray⟩)/\g<B)
theorem NL (a:Go.Addr) (j:Nat):(a.add j).block=a.block:=by grind[Addr.add]
theorem Tryz.UBase.rowAt {B:Nat} {w0 w:World} {b:Adr} {n:Nat} {f:Value} (h:UBase B w0 b n f) (g:Below B w0 w) (r:b.w.o=false):qt w f b.w.g.length (aW b.w.g):=by
 obtain⟨_,d,l,_⟩|⟨o,_⟩:=h.row
 .rcases d with d|⟨a,c,e,i,k⟩
  .exact .inl d
  .refine .inr ⟨a,c,e,i,λj u m=>?_⟩
   have q:=l a.block (by rw[e];rfl);rw[g.cell (p:=a.add j) (by grind[NL])];exact k j u m
 .grind
def bl (B R k j:Nat) (bv:Value) (s:ByteArray) (w0:World) (c:Mc) (w:World):Prop:=
 ∃pv,∃a:Nat,Tryz.Mem B R k j bv s w0 c.u pv (a:Nat) (c.st:Nat) c.err w/\s.data.toList.drop a=c.r/\(a<=s.size\/(c.st=13/\a<=s.size+1))
theorem AF {B R k j:Nat} {b:Value} {s:ByteArray} {w0 w:World} {u:Adr} {d:Value} {a f:Nat} {c:Int} (h:Mem B R k j b s w0 u d ((a+1:Nat):Int) (jZ (s.data.toList.drop a):Nat) c w) (g:a<=s.size):bl B R k j b s w0 (bw ⟨u,s.data.toList.drop a,f,c⟩) w:=by
 refine⟨d,a+1,h,?_,?_⟩
 .show _=(s.L.drop a).drop 1
  rw[fQ]
 .obtain e|e:=jL a s.size
  .exact .inl e
  .refine .inr ⟨?_,by omega⟩
   show jZ (s.L.drop a)=13;rw[im (by simp_all)];rfl
structure OnlyAt (j:Nat) (w w':World):Prop where
 os:w'.os=w.os
 tape:w'.tape=w.tape
 output:w'.output=w.output
 size:w'.heap.size=w.heap.size
 oth:∀q,q≠j->w'.heap[q]?=w.heap[q]?
theorem OnlyAt.refl (j:Nat) (w:World):OnlyAt j w w:=⟨rfl,rfl,rfl,rfl,λ_ _=>rfl⟩
theorem OnlyAt.set {j:Nat} {w w':World} (h:OnlyAt j w w') (i:Nat) (v:Value):OnlyAt j w (w'.setCell ⟨j,i,none⟩ v):=⟨h.os,h.tape,h.output,by simpa using h.size,λq a=>(fj w' (Ad j i) q v a).trans (h.oth q a)⟩
theorem OnlyAt.drewN {j:Nat} {w w':World} (h:OnlyAt j w w') (n:Nat):OnlyAt j w (w'.drewN n):=⟨h.os,h.tape,h.output,h.size,h.oth⟩
theorem OnlyAt.drew {j:Nat} {w w':World} (h:OnlyAt j w w'):OnlyAt j w w'.drew:=⟨h.os,h.tape,h.output,h.size,h.oth⟩
theorem OnlyAt.below {B j:Nat} {w0 w w':World} (h:OnlyAt j w w') (a:Below B w0 w) (c:B<=j):Below B w0 w':=⟨h.os.trans a.os,h.tape.trans a.tape,h.output.trans a.output,by rw[h.size];exact a.size,λq b=>(h.oth q (by omega)).trans (a.block q b)⟩
theorem Tryz.WayRow.only {B R j:Nat} {w w':World} {y:Moor.Way} {e:Value} (h:WayRow B R w y e) (b:OnlyAt j w w') (v:B<=j) (u:j<R):WayRow B R w' y e:=by
 obtain⟨c,d⟩|⟨c,g,a,m,o,r,n,t,l⟩:=h
 .refine .inl ⟨c,d.1,?_⟩
  rcases d.2 with s|⟨g,a,i,q,f,k,p⟩
  .exact .inl s
  .exact .inr ⟨g,a,i,q,f,(b.oth g (by omega)).trans k,p⟩
 .refine .inr ⟨c,g,a,m,o,r,?_,by rw[b.size];exact t,l⟩
  rw[<-n];exact iH (b.oth g (by omega))
theorem Tryz.Mem.upd {B R k j:Nat} {d:Value} {s:ByteArray} {w0 w:World} {u:Adr} {g:Value} {a f e:Int} (h:Mem B R k j d s w0 u g a f e w) {w':World} (b:OnlyAt j w w') {u':Adr} {c:Value} (i:w'.heap[j]?=some (.cells (bD u' c) 116 (0,0))) (l:WayRow B R w' u'.w c):Mem B R k j d s w0 u' c a f e w':=
 ⟨b.below h.below h.bj,(b.oth k h.ne).trans h.K,i,h.bk,h.bj,h.ne,h.kr,h.jr,by rw[b.size];exact h.rz,l⟩
theorem Tryz.Mem.upd2 {B R k j:Nat} {g:Value} {s:ByteArray} {w0 w:World} {u:Adr} {b:Value} {a l i:Int} (h:Mem B R k j g s w0 u b a l i w) (f e n:Nat) (d c:Value) {u':Adr} (o:((bD u b).setIfInBounds f d).setIfInBounds e c=bD u' b) (p:u'.w=u.w):Mem B R k j g s w0 u' b a l i (((w.setCell ⟨j,f,none⟩ d).drewN n).setCell ⟨j,e,none⟩ c):=by have m:=(((OnlyAt.refl j w).set f d).drewN n).set e c;refine h.upd m ?_ (by rw[p];exact h.row.only m h.bj h.jr);rw[<-o];exact aD _ j e _ _ c (aD w j f _ _ d h.U)
end Go.Proofs
