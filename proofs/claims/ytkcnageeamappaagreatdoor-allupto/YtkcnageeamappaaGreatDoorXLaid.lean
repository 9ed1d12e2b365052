import Derived.Test.YtkcnageeamappaaGreatDoorXSLast
import Derived.Test.YtkcnageeamappaaGreatDoorRows
set_option maxHeartbeats 32000000
set_option maxRecDepth 8000
set_option linter.unusedSimpArgs false
namespace Go.Proofs.YtkcnageeamappaaGreatDoor
open Go.Moor Go.Proofs.Tryz Go.ChangeShapes Go.WideShapes Go.ChangeAt Go.RowKit Go.Moor
theorem xl:prog.globalNamed "moor/escape.sets" =some 13:=by kernel_rfl
theorem Gi:(prog.globals[13]?).map (·.type)=some 218:=by kernel_rfl
theorem rQ:prog.cellsOf 153=4:=by kernel_rfl
theorem rR:prog.cellsOf 151=1:=by kernel_rfl
theorem Gj:prog.cellsOf 283=20:=by kernel_rfl
theorem Gk:(prog.globals[20]?).map (·.type)=some 283:=by kernel_rfl
def pw {H:Type} (i:Nat):DataW H:=Lib.tabData .u64 [fG (i*4),fG (i*4+1),fG (i*4+2),fG (i*4+3)]
theorem Gl:(Rows.laid_moor_escape_sets:DataW Unit)=.agg ((List.range 7).map pw):=by kernel_rfl
theorem Gm:(Rows.laid_internal_strconv_uint64pow10:DataW Unit)=Lib.tabData .u64 Lib.pow10Tab:=by kernel_rfl
theorem Gn {W:World} (h:Lib.VarReads prog W "moor/escape.sets" Rows.laid_moor_escape_sets):je W:=by
 obtain⟨z,w,d,fuel,p,q,u,l,f⟩:=h;obtain rfl:=eh (xl.symm.trans q);obtain rfl:=eh (Gi.symm.trans u);rw[Gl] at f;obtain⟨g,m,rfl,t,v,A,r⟩:=DataW.trod_array underlying218 f;have o:g.map (·.1)=(List.range 7).map (pw (H:=Unit)):=by have:=aB Prod.fst t;simpa using this.symm
 intro k x;have e:k/4<7:=by omega
 have c:=r (k/4) e;have b:(g.map (·.1))[k/4]?=some (pw (H:=Unit) (k/4)):=by rw[o];simp[e]
 rw[fy,um] at b;obtain⟨y,j,i⟩:=b;rw[j,rQ] at c;have n:=qS underlying153 underlying151 rR rQ (zs:=[fG (k/4*4),fG (k/4*4+1),fG (k/4*4+2),fG (k/4*4+3)]) (p:=y.2) (by
  rw[c];show some y=some (pw (k/4),y.2);rw[<-i])
 rw[lH xl l k];have s:d[k]?=((d.toList.drop (k/4*4)).take 4)[k%4]?:=by rw[ow,ae (by omega),ox,jK,show k/4*4+k%4=k by omega]
 rw[s,n];have a:k%4=0\/k%4=1\/k%4=2\/k%4=3:=by omega
 obtain a|a|a|a:=a
 .rw[a,show k/4*4=k by omega];rfl
 .rw[a,show k/4*4=k- 1 by omega,show k- 1+1=k by omega];rfl
 .rw[a,show k/4*4=k- 2 by omega,show k- 2+2=k by omega];rfl
 .rw[a,show k/4*4=k- 3 by omega,show k- 3+3=k by omega];rfl
theorem Gp {W:World} (h:Lib.VarReads prog W "internal/strconv.uint64pow10" Rows.laid_internal_strconv_uint64pow10):Lib.TabIs prog W "internal/strconv.uint64pow10" .u64 Lib.pow10Tab:=by obtain⟨g,f,e,fuel,p,b,d,c,a⟩:=h;obtain rfl:=eh (rD.symm.trans b);obtain rfl:=eh (Gk.symm.trans d);rw[Gm] at a;unfold Lib.TabIs;rw[c,<-qS underlying283 underlying151 rR Gj a]
theorem fV {W:World} {a:String} {g:Nat} {e:String} {d:DataW Unit} (c:prog.globalNamed a=some g) (i:(prog.globals[g]?).map (·.type)=some 65) (h:Lib.VarReads prog W a (.iface e d)):Err g W:=by
 obtain⟨w,t,b,fuel,p,o,s,k,m⟩:=h;obtain rfl:=eh (c.symm.trans o);obtain rfl:=eh (i.symm.trans s);have l:=lH c k 0;have q:∃u v,b.toList=[.iface u v]:=by
  cases fuel with
  |zero=>simp_all[DataW.trod]
  |succ f=>
   rcases j:b.toList with _|⟨x,_|⟨y,r⟩⟩
   .simp_all[DataW.trod]
   .rw[j] at m
    cases x<;>first
     |exact⟨_,_,rfl⟩
     |simp_all[DataW.trod]
   .simp_all[DataW.trod]
 obtain⟨u,v,n⟩:=q;refine⟨u,v,l.trans ?_⟩;rw[<-jK,n];rfl
theorem rt:(prog.cutTypes.find? (·.1== "internal/reflectlite.rtype")).map (·.2)=some 193:=by kernel_rfl
theorem Gq:((List.range 343).filter λt=>prog.rowNamed t [101,114,114,111,114])=[65]:=by kernel_rfl
theorem Gr:prog.globalNamed "errors.errorType" =some 2:=by kernel_rfl
theorem Gs:typeHandle prog 65=.pointer (some ⟨29,65,none⟩):=by kernel_rfl
theorem Gt {W:World} (h:handlesMet prog [("errors.errorType",Rows.laid_errors_errorType)] W):Ce W 2 0 (.iface 193 (.agg #[.pointer (some ⟨29,65,none⟩)])):=by obtain⟨j,u,f,d,c,i,e,b⟩:=h _ (kZ.2 rfl);have g:=(eh d).symm;subst g;obtain rfl:=eh (rt.symm.trans c);have a:f∈(List.range 343).filter λt=>prog.rowNamed t [101,114,114,111,114]:=List.mem_filter.2 ⟨BO.2 (by simp_all),e⟩;rw[Gq] at a;obtain rfl:=kZ.1 a;rw[Gs] at b;simpa using lH Gr b 0
theorem Gu {W:World} (h:W.ShapedOpen prog):∃m,Ce W 16 0 (.int .i64 m):=
 cell_of_shapedOpen_int (zero:=#[Iv 0]) (t:=3) h (ik (by kernel_rfl)) (by kernel_rfl) rfl (by kernel_rfl) (by kernel_rfl) underlying3
def gO:List (String×DataW Unit):=[("math/bits.deBruijn32tab",Rows.laid_math_bits_deBruijn32tab),("math/bits.deBruijn64tab",Rows.laid_math_bits_deBruijn64tab),("internal/strconv.uint64pow10",Rows.laid_internal_strconv_uint64pow10),("unicode/utf8.acceptRanges",Rows.laid_unicode_utf8_acceptRanges),("moor/escape.sets",Rows.laid_moor_escape_sets),("moor/host.errEmpty",Rows.laid_moor_host_errEmpty),("moor/host.errBracket",Rows.laid_moor_host_errBracket),("moor/host.errCount",Rows.laid_moor_host_errCount),("moor/host.errLength",Rows.laid_moor_host_errLength),("moor/host.errNought",Rows.laid_moor_host_errNought),("moor/host.errTooGreat",Rows.laid_moor_host_errTooGreat),("unicode.CaseRanges",Rows.laid_unicode_CaseRanges),("unicode/utf8.first",Rows.laid_unicode_utf8_first)]
theorem Gv {W:World} (h:W.ShapedOpen prog):29<=W.heap.size:=by obtain⟨o,b,a,_⟩:=h.2 29 (by simp) (ik (by kernel_rfl));have:=(aT.1 a).1;omega
end Go.Proofs.YtkcnageeamappaaGreatDoor
