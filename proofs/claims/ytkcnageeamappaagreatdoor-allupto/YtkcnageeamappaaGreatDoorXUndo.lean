import Derived.Test.YtkcnageeamappaaGreatDoorXText
set_option maxHeartbeats 32000000
set_option maxRecDepth 8000
set_option linter.unusedSimpArgs false
namespace Go.Proofs
open Go.RowKit Go.Moor Go.Proofs.Tryz Go.Moor
def tR:Value->Nat| .string s=>s.size|_=>0
theorem AJ {w w':World} {m:Int} (h:w.cell? ⟨16,0,none⟩=some (.int .i64 m)) (a:Below w.heap.size w w') (hz:16<w.heap.size):w'.cell? ⟨16,0,none⟩=some (.int .i64 m):=by rw[a.cell (p:=(Ad 16 0)) hz];exact h
theorem AK (x y:ByteArray) (h:x.data.toList=y.data.toList):x=y:=by
 cases x;cases y
 simp only[ByteArray.mk.injEq];exact Bw.1 h
theorem AL (a b:UInt8) (r:List UInt8):(⟨(a::b::r).toArray⟩:ByteArray).extract 2 (r.length+1+1)=⟨r.toArray⟩:=by apply AK;rw[jE];simp
theorem NR (c:UInt8) (w:World):Calls prog 115 #[.int .u8 c.toNat] w λe w'=>e=.returned (.int .u64 (aw c.toNat))/\w'=w:=by have:=c.toNat_lt;exact mF _ w (by omega) (by omega)
theorem AM (l p r:List UInt8) (m:Int) (w:World) (c:Lib.cut l [37]=(p,r,true)) (d:l.length<4294967281) (b:Ce w 16 0 (.int .i64 m)):Calls prog 112 #[.string ⟨l.toArray⟩,.string ⟨#[37]⟩] w λe w'=>e=.returned (.tuple #[.string ⟨p.toArray⟩,.string ⟨r.toArray⟩,.bool true])/\∃n,w'=w.drewN n:=by
 refine mR (strings_Cut (Bv l) ⟨#[37]⟩ m w (by grind[al]) b) ?_;rintro w' ⟨n,rfl⟩;refine⟨?_,n,rfl⟩;have a:Lib.cut (Bv l).L (⟨#[37]⟩:ByteArray).L=(p,r,true):=by simpa using c
 rw[a]
theorem NS (l:List UInt8) (m:Int) (w:World) (c:Lib.cut l [37]=(l,[],false)) (d:l.length<4294967281) (b:Ce w 16 0 (.int .i64 m)):Calls prog 112 #[.string ⟨l.toArray⟩,.string ⟨#[37]⟩] w λe w'=>e=.returned (.tuple #[.string ⟨l.toArray⟩,.string ⟨#[]⟩,.bool false])/\∃n,w'=w.drewN n:=by
 refine mR (strings_Cut (Bv l) ⟨#[37]⟩ m w (by grind[al]) b) ?_;rintro w' ⟨n,rfl⟩;refine⟨?_,n,rfl⟩;have a:Lib.cut (Bv l).L (⟨#[37]⟩:ByteArray).L=(l,[],false):=by simpa using c
 rw[a]
theorem tS (s:ByteArray) (m:Int) (w:World) (hs:s.size<4294967281) (O:Ce w 16 0 (.int .i64 m)) (hz:16<w.heap.size):Calls prog 65 #[.string s] w fun e w'=>e=.returned (.string ⟨(aQ s.data.toList).toArray⟩)/\Bl w w':=by
 have U:=hI O;clear O;go_enter func65,ntmps65;go_wp2;go_loopw [0] (fun t wr=>∃(r c:List UInt8),t=Sv r/\c++aQ r=aQ s.data.toList/\c.length+r.length<=s.size/\Lib.IsBuilderF 142 5 w.heap.size w.heap.size (Lib.byteCells c) wr/\Bl w wr/\w.heap.size<wr.heap.size) (fun t _=>tR t)
 case atStart=>exact⟨s.data.toList,[],rfl,rfl,by simp,By (Bz 142 5 w),(ai _ w).alloc .refl _,by simp⟩
 case round=>
  obtain⟨r,c,rfl,S,a0,hI,E,I⟩:=hrel;have J:Hid (c++aQ r=aQ s.data.toList):=S;have L:Hid (wr.cell? ⟨16,0,none⟩=some (.int .i64 m)):=AJ U.out E hz;clear S;obtain⟨l,n⟩|⟨p,f,o,n,l⟩:=xF 37 r
  .have C:Hid (Lib.cut r [37]=(r,[],false)):=l
   have D:Hid (∀x∈r,x≠37):=n;clear l n;go_wp2_with fail;refine mR (NS r m _ C (by omega) L) ?_;rintro R ⟨k,rfl⟩;go_wp2_with fail;refine mR (Builder_WriteString_k w.heap.size w.heap.size _ _ (wr.drewN k) hI (by rw[jG,al];omega) (by show _<=wr.heap.size;omega)) ?_;rintro u ⟨j,h,_⟩;have B:Lib.IsBuilderF 142 5 w.heap.size w.heap.size (Lib.byteCells (c++r)) u:=(by rw[jH];exact .inr j);have y:=(cr E k).trans h;have G:=cq I h.size;clear j h;go_wp2_with(go_at_call 97;refine(Builder_String_any_k w.heap.size w.heap.size _ _ B (by omega)).mono ?_);rintro e q ⟨rfl,_,i,_⟩;go_wp2;go_ret;have Q:=J;rw[Hn r D.out] at Q;rw[<-Q];exact⟨rfl,y.trans i⟩
  .by_cases z:fX f=true
   .obtain⟨a,b,d,rfl⟩:∃a b d,f=a::b::d:=by
     match f,z with
     |a::b::d,_=>exact⟨a,b,d,rfl⟩
    have P:=z;clear z;have Z:=a.toNat_lt;have hb:=b.toNat_lt;have Y:=gy a.toNat;have vb:=gy b.toNat;have C:Hid (Lib.cut r [37]=(p,a::b::d,true)):=l;have D:Hid (∀x∈p,x≠37):=n;have H:Hid (r=p++37::a::b::d):=o;have A:p.length+(a::b::d).length+1=r.length:=(by rw[o];simp;omega);have g:Hid (p.length+(a::b::d).length+1=r.length):=A;clear l n o A;go_wp2_with fail;refine mR (AM r p (a::b::d) m _ C (by omega) L) ?_;rintro R ⟨k,rfl⟩;go_wp2_with fail;refine(Tryz.Builder_WriteString_k w.heap.size w.heap.size _ _ (wr.drewN k) hI (by have:=g.out;rw[jG,al];omega) (by show _<=wr.heap.size;omega)).mono ?_;rintro e u ⟨rfl,j,h,_⟩;have B:Lib.IsBuilderF 142 5 w.heap.size w.heap.size (Lib.byteCells (c++p)) u:=(by rw[jH];exact Or.inr j);have y:=(cr E k).trans h;have G:=cq I h.size;clear j h;go_wp2_with fail;refine(Bd ⟨(a::b::d).toArray⟩ _ (by have:=g.out;rw[al];unfold maxLen;omega)).mono ?_;rintro e F ⟨rfl,rfl⟩;go_wp2_with fail;have W:Lib.IsBuilderF 142 5 w.heap.size w.heap.size (Lib.byteCells (c++p)) F.drew:=B;have V:w.heap.size<=F.drew.heap.size:=(by show _<=F.heap.size;omega);have T:(Lib.byteCells (c++p)).length+1<=140737488355328:=(by have:=g.out;rw[jG];simp;omega);go_region_with (first|(go_at_call 115;refine(NR _ _).mono ?_;rintro e w' ⟨rfl,rfl⟩)|(go_at_call 114;refine(Builder_WriteByte_k w.heap.size w.heap.size _ _ _ W T V).mono ?_;rintro e q ⟨rfl,v,i,_⟩));all_goals
     have M:Lib.IsBuilderF 142 5 w.heap.size w.heap.size (Lib.byteCells (c++p++ [hY a b])) q:=(by rw[jH,tq,<-Hr a b d P];exact Or.inr v);have N:=(cr y 1).trans i;have K:w.heap.size<q.heap.size:=cq G i.size;clear v i;go_wp2;go_roundw
     case rel=>
      refine⟨d,c++p++ [hY a b],?_,?_,by have:=g.out;simp at this⊢;omega,M,N,K⟩
      .rw[AL]
      .rw[<-J.out,H.out,sa p _ D.out,rY a b d P]
       simp
     case measure=>have:=g.out;rw[AL];simp[tR,al] at this⊢;omega
   .have X:fX f=false:=il.2 z
    clear z;have C:Hid (Lib.cut r [37]=(p,f,true)):=l;have D:Hid (∀x∈p,x≠37):=n;have H:Hid (r=p++37::f):=o;have A:p.length+(f).length+1=r.length:=(by rw[o];simp;omega);have g:Hid (p.length+(f).length+1=r.length):=A;clear l n o A;go_wp2_with fail;refine(AM r p (f) m _ C.out (by omega) L.out).mono ?_;rintro e R ⟨rfl,k,rfl⟩;go_wp2_with fail;refine(Tryz.Builder_WriteString_k w.heap.size w.heap.size _ _ (wr.drewN k) hI (by have:=g.out;rw[jG,al];omega) (by show _<=wr.heap.size;omega)).mono ?_;rintro e u ⟨rfl,j,h,_⟩;have B:Lib.IsBuilderF 142 5 w.heap.size w.heap.size (Lib.byteCells (c++p)) u:=(by rw[jH];exact Or.inr j);have y:=(cr E k).trans h;have G:w.heap.size<u.heap.size:=cq I h.size;clear j h;go_wp2_with fail;refine(Bd ⟨(f).toArray⟩ _ (by have:=g.out;rw[al];unfold maxLen;omega)).mono ?_;rintro e F ⟨rfl,rfl⟩;go_wp2_with fail;refine(Tryz.Builder_WriteByte_k w.heap.size w.heap.size _ _ _ B (by have:=g.out;rw[jG];simp;omega) (by omega)).mono ?_;rintro e q ⟨rfl,v,i,_⟩;have M:Lib.IsBuilderF 142 5 w.heap.size w.heap.size (Lib.byteCells (c++p++ [37])) q:=(by rw[jH];exact Or.inr v);have N:=y.trans i;have K:w.heap.size<q.heap.size:=cq G i.size;clear v i;go_wp2;go_roundw
    case rel=>refine⟨f,c++p++ [37],rfl,?_,by have:=g.out;simp;omega,M,N,K⟩;rw[<-J.out,H.out,sa p _ D.out,rZ f X];simp
    case measure=>have:=g.out;simp[tR,al];omega
theorem NT (s:ByteArray) (m:Int) (w:World) (c:s.size<4294967281) (a:Ce w 16 0 (.int .i64 m)) (hz:16<w.heap.size):Calls prog 41 #[.string s] w fun e w'=>e=.returned (.string ⟨(aQ s.data.toList).toArray⟩)/\Bl w w':=by have d:=hI a;clear a;go_enter func41,ntmps41;go_wp2_with(go_at_call 65;refine(tS _ m _ c d hz).mono ?_);rintro e w' ⟨rfl,b⟩;go_wp2;go_ret;exact⟨rfl,b⟩
end Go.Proofs
