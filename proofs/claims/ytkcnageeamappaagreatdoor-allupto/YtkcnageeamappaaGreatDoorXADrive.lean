import Derived.Test.YtkcnageeamappaaGreatDoorXSLast
set_option maxHeartbeats 32000000
set_option maxRecDepth 8000
set_option linter.unusedSimpArgs false
namespace Go.Proofs
open Go.RowKit Go.Moor Go.Proofs.Tryz Go.Moor
theorem ic:(prog.info? 177).map (·.size)=some 8:=by kernel_rfl
theorem ta:(prog.info? 151).map (·.size)=some 1:=by kernel_rfl
theorem yY (w:World) (a b c:Obj):(((w.alloc a).alloc b).alloc c).heap[w.heap.size]?=some a/\(((w.alloc a).alloc b).alloc c).heap[w.heap.size+1]?=some b/\(((w.alloc a).alloc b).alloc c).heap[w.heap.size+2]?=some c/\(((w.alloc a).alloc b).alloc c).heap.size=w.heap.size+3:=by
 simp only[World.alloc,mN,uj];refine⟨?_,?_,?_,?_⟩
 .grind
 .simp
 .rfl
 .trivial
theorem mu (l:List Int):(aH l).all (·.oneCell')=true:=by grind[aH,ints_oneCell]
theorem yZ (l:List Int):(aH l).size=l.length:=by simp[aH]
theorem lr:prog.arrayLen 177=8:=by kernel_rfl
theorem pU:prog.elem 177=151:=by kernel_rfl
theorem tc:prog.underlying 177=some (.array (prog.arrayLen 177) (prog.elem 177)):=by simp[lr,pU]
theorem td (w:World):(sizeOf 151).run prog w=.ok 1 w:=by simp
theorem za (g d:Nat) (a:d<8) (w:World):(Instr.sliceAt 177 (.pointer (some ⟨g,0,none⟩)) (some (.int .i64 d)) none none).run prog w=.ok (.slice (some ⟨g,d,none⟩) (8- d) (8- d)) w:=by rw[BW w 177 (Ad g 0) tc .i64 d (by omega) (by grind[lr]),pU,td,lr];simp only[Result.andThen,slicedAt,kV,Nat.mul_one];rw[ab (by omega),show((Ad g 0):Addr).add d=(Ad g d) by grind[Addr.add]]
theorem zc (g:Nat) (w:World):(Instr.sliceAt 177 (.pointer (some ⟨g,0,none⟩)) (some (.int .i64 8)) none none).run prog w=.ok (.slice (some ⟨g,0,none⟩) 0 0) w:=by rw[BW w 177 (Ad g 0) tc .i64 8 (by omega) (by simp[lr]),pU,td,lr];rfl
theorem Ks (g d:Nat) (a:d<=8) (w:World):(Instr.sliceAt 177 (.pointer (some ⟨g,0,none⟩)) none (some (.int .i64 d)) none).run prog w=.ok (.slice (some ⟨g,0,none⟩) d 8) w:=by rw[run_sliceAt_array_h w 177 (Ad g 0) tc .i64 d (by omega) (by grind[lr]),pU,td,lr];simp only[Result.andThen,slicedAt,kV];rw[ab (by omega),qW,show((Ad g 0):Addr).add 0=(Ad g 0) by rfl];rfl
theorem Kt (w:World) (g j:Nat) (t:TypeId) (b:j<8) (a:w.heap[g]?=some (.cells (aH zero8) t (0,0))):w.setCell ⟨g,j,none⟩ (.int .u64 0)=w:=by
 rw[BS w g j (aH zero8) t (0,0) _ a];have e:(aH zero8).setIfInBounds j (.int .u64 0)=aH zero8:=by
  match j,b with
  |0,_=>rfl
  |1,_=>rfl
  |2,_=>rfl
  |3,_=>rfl
  |4,_=>rfl
  |5,_=>rfl
  |6,_=>rfl
  |7,_=>rfl
 rw[e];exact setRow_self w g _ t (0,0) a
theorem tf {P:Program} {w:World} {B:Array Oper} {rest:List Oper} {o:Oper} {a:Act} {Q:Exit->Act->World->Prop} (D:o.guard=none) (d s:Operand) (m p:TypeId) (x:o.op=.call {callee:=.builtin .copy,args:=#[d,s],argTypes:=#[m,p]}) (c:TypeId) (z:P.underlying m=some (.slice c)) (y:(P.info? c).map (·.size)=some 1) (u q:Option Addr) (f n i r:Nat) (A:a.eval d=.slice u f n) (C:a.eval s=.slice q i r) (g off:Nat) (e:List Value) (t:TypeId) (E:w.heap[g]?=some (.cells e.toArray t (0,0))) (b:List Value) (J:b.length=Nat.min i f) (L:0<b.length->u=some ⟨g,off,none⟩/\∃l,q=some l/\∀j v,b[j]?=some v->w.cell? (l.add j)=some v) (G:off+b.length<=e.length) (F:∀v∈b,v.oneCell'=true) (h:∀w',Hid (w'.heap[g]?=some (.cells (splice e off b).toArray t (0,0)))->Hid (∀k,k≠g->w'.heap[k]?=w.heap[k]?)->Hid (w'.os=w.os/\w'.tape=w.tape/\w'.output=w.output/\w'.heap.size=w.heap.size)->wpList P B Q rest (a.put o.dst (goInt b.length)) w'):wpList P B Q (o::rest) a w:=by
 by_cases I:b.length=0
 .obtain rfl:b=[]:=uk I
  refine wpList_copy_nothing D d s m p x c z y u q f n i r A C (by omega) ?_;exact h w (show _=_ by simpa[splice] using E) (λ_ _=>rfl) ⟨rfl,rfl,rfl,rfl⟩
 .obtain⟨rfl,l,rfl,K⟩:=L (by omega)
  refine wpList_copy_own D d s m p x c z y g off f n l i r A C e.toArray t E b J K (by simpa using G) F ?_;exact h _ (show _=_ by grind[splice,setRow_heap]) (λk H=>setRow_other w g k _ H) ⟨rfl,rfl,rfl,by simp⟩
theorem pV {w:World} {base:Nat} {e:TypeId} {v:Value} {n:Nat} {b:List Value} (h:w.ownsRow base e 1 v n b):∃a c,v=.slice a n c/\(0<n->∃g,a=some ⟨g,0,none⟩/\base<=g/\∀j u,b[j]?=some u->w.cell? ⟨g,j,none⟩=some u):=by
 obtain⟨rfl,rfl⟩|⟨g,c,f,rfl,i,o,k,m,l,d⟩:=h.2
 .simp
 .grind[cell_of_row]
def zd (o:Option (List Int)) (e:Ending):Prop:=
 match o with
 |some ps=>e=.returned (.tuple #[.agg (aH ps),.nilIface])
 |none=>∃t v,e=.returned (.tuple #[.agg (aH zero8),.iface t v])
set_option maxRecDepth 100000 in
theorem ze (s A B x y:ByteArray) (n:Bool) (w:World) (hs:s.size<4294967281) (hA:A.size<4294967281) (hB:B.size<4294967281) (f8:Env w) (hcut:Lib.cut s.data.toList [58,58]=(x.data.toList,y.data.toList,n)) (hx:n=true->x=A/\y=B) (hy:n=false->A=⟨#[]⟩/\B=s):Calls prog 139 #[.string s] w fun e w'=>zd (gE n (cK (ds A.data.toList)) (dh (ds B.data.toList))) e/\Bl w w':=by
 have HV:=hI f8;obtain⟨V,hV⟩:=am ((((w.alloc (.cells #[.int .u64 0,.int .u64 0,.int .u64 0,.int .u64 0,.int .u64 0,.int .u64 0,.int .u64 0,.int .u64 0] 177)).alloc (.cells #[.int .u64 0,.int .u64 0,.int .u64 0,.int .u64 0,.int .u64 0,.int .u64 0,.int .u64 0,.int .u64 0] 177)).alloc (.cells #[.int .u64 0,.int .u64 0,.int .u64 0,.int .u64 0,.int .u64 0,.int .u64 0,.int .u64 0,.int .u64 0] 177)));have c7:Hid (Bl w V):=by rw[hV];exact(((ai _ w).alloc (aG _) _).alloc (by simp) _).alloc (by simp;omega) _
 obtain⟨m,hm⟩:=(HV.out.below c7).maxLen;have f2:Hid (CN 112 #[.string s,.string ⟨#[58,58]⟩] V (.tuple #[.string x,.string y,.bool n])):=by have:=strings_Cut s ⟨#[58,58]⟩ m V hs hm;rw[show(⟨#[58,58]⟩:ByteArray).data.toList=[58,58] from rfl,hcut] at this;exact this
 have U:Hid (V.heap[w.heap.size]?=some (.cells (aH zero8) 177 (0,0))/\V.heap[w.heap.size+1]?=some (.cells (aH zero8) 177 (0,0))/\V.heap[w.heap.size+2]?=some (.cells (aH zero8) 177 (0,0))/\V.heap.size=w.heap.size+3):=by rw[hV];exact yY w _ _ _
 have d9:Hid _:=hV;obtain⟨M,b9⟩:∃M:Int->Bool,M=fun k=>if n then decide (k<8) else k==8:=⟨_,rfl⟩;have c9:Hid (∀k:Int,(if n then decide (k<8) else k==8)=M k):=fun k=>by rw[b9]
 have h9:Hid (∀k:Nat,M (k:Int)=true->k<=8):=by intro k;rw[b9];cases n<;>simp<;>omega
 have c4:Hid (∀f g,gE n (some f) (some g)=if M ((f.length:Int)+(g.length:Int))=true then some (f++(List.replicate (8- f.length- g.length) 0++g)) else none):=fun f g=>by rw[<-c9.out];rfl
 generalize g2:cK (ds A.data.toList)=fo;generalize e5:dh (ds B.data.toList)=go;have e1:=hI g2;have d5:=hI e5;clear f8 hm hcut g2 e5 hV b9;go_enter func139,ntmps139;go_upto_region 2 with fail;rw[<-d9.out];go_wp2_with fail;refine f2.out.mono ?_;rintro e S ⟨rfl,nd,Q⟩;have L:Hid (Bl w S):=by rw[Q];exact cr c7 nd
 have a9:=hI (HV.out.below L);have c8:Hid (S.heap[w.heap.size]?=some (.cells (aH zero8) 177 (0,0))):=by rw[Q];exact U.out.1
 have c5:Hid (S.heap[w.heap.size+1]?=some (.cells (aH zero8) 177 (0,0))):=by rw[Q];exact U.out.2.1
 have g9:Hid (S.heap[w.heap.size+2]?=some (.cells (aH zero8) 177 (0,0))):=by rw[Q];exact U.out.2.2.1
 have f0:S.heap.size=w.heap.size+3:=by rw[Q];exact U.out.2.2.2
 have i:=hI f0;clear Q f0 U d9 c7 f2;obtain⟨m1,(i2:Hid _)⟩:=a9.out.maxLen;go_upto_if 19 with fail
 go_cut [6,7] from 20 to 20 (fun p q wx=>p=.string A/\q=.string B/\S=wx)
 case first=>
  cases n with
  |true=>obtain⟨rfl,rfl⟩:=hx rfl;go_wp2;go_meet;exact⟨rfl,rfl,rfl⟩
  |false=>obtain⟨rfl,rfl⟩:=hy rfl;go_wp2;go_meet;exact⟨rfl,rfl,rfl⟩
 case rest=>
 obtain⟨rfl,rfl,rfl⟩:=hcut;go_wp2_with fail;refine(yV A m1 _ hA i2).mono ?_;rintro e w2 ⟨⟨v2,rfl,f1⟩,e3⟩;have g4:=hI f1;have J:=hI e3;have i0:=hI (a9.out.below J);clear f1 e3;go_wp2_with fail;refine(KB _ _ v2 _ g4 i0).mono ?_;rw[e1.out];cases fo with
 |none=>rintro e w3 ⟨⟨Z,ve,rfl⟩,T⟩;have c:=hI (J.out.trans (T.mono (J.out.size)));have b:=hI ((c.out.block _ (by rw[i.out];omega)).trans c8);have l:=hI ((c.out.block _ (by rw[i.out];omega)).trans c5);clear T;go_wp2_with(first|refine cb rfl 177 _ rfl (w.heap.size+1) rfl 177 (aH zero8) (0,0) _ l underlying177 rfl ic ?_|refine aY rfl 177 _ _ rfl w.heap.size (aH zero8) rfl rfl 177 (aH zero8) b ic rfl (mu _) ?_);(try simp only[Exit.inBlock,Exit.then]);have z:=bQ (P:=prog) (w3.setRow w.heap.size (aH zero8)) w.heap.size 177 177 (aH zero8) (0,0) _ (bH w3 w.heap.size (aH zero8) (aH zero8) 177 (0,0) b) underlying177 rfl ic;refine aO (v:=.tuple #[.agg (aH zero8),.iface Z ve]) ?_ rfl ⟨⟨_,_,rfl⟩,aZ (L.out.trans (c.out.mono (by rw[i.out];omega))) (aG _) _⟩;rw[bR rfl];simp[asAddr,Result.andThen,z]
 |some f=>
  rintro e w3 ⟨⟨v3,rfl,d7⟩,T⟩;have N:=hI (J.out.trans (T.mono (J.out.size)));obtain⟨e0,i8,rfl,d6⟩:=pV d7;have g5:=hI d6;have j2:f.length<=4294967283:=by have:=nU _ _ _ e1;have D:=zo A.data.toList;simp at this D;omega
  have f5:=hI (a9.out.below N);obtain⟨m3,f4⟩:=f5.out.maxLen;have h0:=hI f4;clear f4 T d7 d6;go_wp2_with fail;refine(yV B m3 _ hB h0).mono ?_;rintro e w4 ⟨⟨v4,rfl,d0⟩,g3⟩;have i1:=hI d0;have O:=hI g3;have i3:=hI (f5.out.below O);clear d0 g3;go_wp2_with fail;refine(KA _ _ v4 _ i1 i3).mono ?_;rw[d5.out];cases go with
  |none=>rintro e a ⟨⟨Z,ve,rfl⟩,a0⟩;have c:=hI (N.out.trans ((O.out.trans (a0.mono O.out.size)).mono N.out.size));have b:=hI ((c.out.block _ (by rw[i.out];omega)).trans c8);have l:=hI ((c.out.block _ (by rw[i.out];omega)).trans c5);clear a0;go_wp2_with(first|refine cb rfl 177 _ rfl (w.heap.size+1) rfl 177 (aH zero8) (0,0) _ l underlying177 rfl ic ?_|refine aY rfl 177 _ _ rfl w.heap.size (aH zero8) rfl rfl 177 (aH zero8) b ic rfl (mu _) ?_);(try simp only[Exit.inBlock,Exit.then]);have z:=bQ (P:=prog) (a.setRow w.heap.size (aH zero8)) w.heap.size 177 177 (aH zero8) (0,0) _ (bH a w.heap.size (aH zero8) (aH zero8) 177 (0,0) b) underlying177 rfl ic;refine aO (v:=.tuple #[.agg (aH zero8),.iface Z ve]) ?_ rfl ⟨⟨_,_,rfl⟩,aZ (L.out.trans (c.out.mono (by rw[i.out];omega))) (aG _) _⟩;rw[bR rfl];simp[asAddr,Result.andThen,z]
  |some g=>
   rintro e a ⟨⟨v5,rfl,e6⟩,a0⟩;have g0:=hI (O.out.trans (a0.mono O.out.size));have c:=hI (N.out.trans (g0.out.mono N.out.size));obtain⟨b5,f3,rfl,d4⟩:=pV e6;have g6:=hI d4;have b:=hI ((c.out.block _ (by rw[i.out];omega)).trans c8);have l:=hI ((c.out.block _ (by rw[i.out];omega)).trans c5);have h7:=hI ((c.out.block _ (by rw[i.out];omega)).trans g9);have j7:g.length<=4294967285:=by have:=KK _ _ d5;have D:=zo B.data.toList;simp at this D;omega
   clear a0 e6 d4;go_wp2_with fail;refine(KE _ n _).mono ?_;rw[c9.out];rintro e w6 ⟨rfl,i6⟩;obtain rfl:=i6.symm;by_cases b8:M ((f.length:Int)+(g.length:Int))=true
   .have e2:f.length+g.length<=8:=h9.out _ (by rw[Int.natCast_add];exact b8)
    have g1:=hI b8;have e7:Hid (0<f.length->∃k,e0=some (Ad k 0)/\w.heap.size+1+1<k/\∀j u,(f.map (Value.int .u64))[j]?=some u->Ce a k j u):=(by intro h;obtain⟨k,o,D,H⟩:=g5 h;have h4:=J.out.size;rw[i.out] at h4;refine⟨k,o,by omega,fun j u I=>?_⟩;have hz:=H j u I;exact(g0.out.cell (by exact block_lt_of_cell hz)).trans hz);have e8:Hid (0<g.length->∃k,b5=some (Ad k 0)/\w.heap.size+1+1<k/\∀j u,(g.map (Value.int .u64))[j]?=some u->Ce a k j u):=(by intro h;obtain⟨k,o,D,H⟩:=g6 h;have h4:=J.out.size;have h5:=N.out.size;have h6:=O.out.size;rw[i.out] at h4 h5;exact⟨k,o,by omega,H⟩);obtain⟨F,hF⟩:=am (f.map (Value.int .u64));obtain⟨G,hG⟩:=am (g.map (Value.int .u64));have b7:F.length=f.length:=(by rw[hF];simp);have e9:G.length=g.length:=(by rw[hG];simp);have i7:Hid (∀v∈F,v.oneCell'=true):=(by rw[hF];exact uw .u64 f);have d8:Hid (∀v∈G,v.oneCell'=true):=(by rw[hG];exact uw .u64 g);rw[<-hF] at e7;rw[<-hG] at e8;have f9:=hI hF;have f6:=hI hG;clear hF hG;go_wp2_with(refine tf rfl _ _ 225 225 rfl 151 underlying225 ta (some (Ad (w.heap.size+1+1) 0)) e0 8 8 f.length i8 rfl rfl (w.heap.size+1+1) 0 (zero8.map (Value.int .u64)) 177 h7 F ?c1 ?c2 ?c3 i7 ?_)
    case c1=>grind
    case c2=>intro h;obtain⟨k,o,D,H⟩:=e7 (by omega);refine⟨_,o,fun j v I=>?_⟩;rw[show((Ad k 0):Addr).add j=(Ad k j) by grind[Addr.add]];exact H j v I
    case c3=>rw[b7];show 0+f.length<=8;omega
    intro w6 f7 a7 e4;obtain⟨d,hd⟩:∃d:Nat,d+g.length=8:=⟨8- g.length,by omega⟩;have j9:(8:Int)-(g.length:Int)=(d:Int):=(by omega);have HD:=hI hd;have l5:d<=8:=(by omega);clear hd;by_cases i4:g.length=0
    .have b6:d=8:=by have:=HD;omega
     subst b6;have g7:=zc (w.heap.size+1+1) w6;go_wp2_with(refine tf rfl _ _ 225 225 rfl 151 underlying225 ta (some (Ad (w.heap.size+1+1) 0)) b5 0 0 g.length f3 rfl rfl (w.heap.size+1+1) 8 (splice (zero8.map (Value.int .u64)) 0 F) 177 f7 G ?d1 ?d2 ?d3 d8 ?_)
     case d1=>grind
     case d2=>intro h;omega
     case d3=>rw[e9,i4,length_splice _ _ _ (by rw[b7];show 0+f.length<=8;omega)];decide
     intro t a8 X c6;have Y:=hI (((X _ (by omega)).trans (a7 _ (by omega))).trans b);have a6:Hid ((splice (splice (zero8.map (Value.int .u64)) 0 F) 8 G).toArray=aH (f++(List.replicate (8- f.length- g.length) 0++g))):=by show _=_;rw[f9.out,f6.out];exact zp f g 8 HD e2
     have K:(aH (f++(List.replicate (8- f.length- g.length) 0++g))).size=8:=(by rw[yZ];simp;omega);have W:Hid (t.heap[w.heap.size+1+1]?=some (.cells (aH (f++(List.replicate (8- f.length- g.length) 0++g))) 177 (0,0))):=(by have:=a8;rw[a6.out] at this;exact this);have r:Hid ((prog.info? 177).map (·.size)=some (aH (f++(List.replicate (8- f.length- g.length) 0++g))).size):=(by show _=_;rw[K];exact ic);have a5:Hid ((aH zero8).size=(aH (f++(List.replicate (8- f.length- g.length) 0++g))).size):=K.symm;clear K a8 a6;obtain⟨R,E⟩:=am (f++(List.replicate (8- f.length- g.length) 0++g));rw[<-E] at W r a5;have c0:=hI E;clear E;go_wp2_with(first|refine cb rfl 177 _ rfl (w.heap.size+1+1) rfl 177 (aH R) (0,0) _ W underlying177 rfl r ?_|refine aY rfl 177 _ _ rfl w.heap.size (aH R) rfl rfl 177 (aH zero8) Y r a5 (mu _) ?_);(try simp only[Exit.inBlock,Exit.then]);have z:=bQ (P:=prog) (t.setRow w.heap.size (aH R)) w.heap.size 177 177 (aH R) (0,0) _ (bH t w.heap.size (aH zero8) (aH R) 177 (0,0) Y) underlying177 rfl r;have b0:Bl w t:=(by have o:=L.out.trans (c.out.mono (by rw[i.out];omega));obtain⟨a1,a2,a3,a4⟩:=e4;obtain⟨b1,b2,b3,b4⟩:=c6;exact o.trans ⟨b1.trans a1,b2.trans a2,b3.trans a3,by omega,fun k hk=>(X k (by omega)).trans (a7 k (by omega))⟩);refine aO (v:=.tuple #[.agg (aH R),.nilIface]) ?_ rfl ⟨?_,aZ b0 (aG _) _⟩
     .rw[bR rfl]
      simp[asAddr,Result.andThen,z]
     .rw[c4.out,ae (by exact g1.out),c0.out]
      rfl
    .have b6:d<8:=by have:=HD;omega
     have g7:=za (w.heap.size+1+1) d b6 w6;go_wp2_with(refine tf rfl _ _ 225 225 rfl 151 underlying225 ta (some (Ad (w.heap.size+1+1) d)) b5 (8- d) (8- d) g.length f3 rfl rfl (w.heap.size+1+1) d (splice (zero8.map (Value.int .u64)) 0 F) 177 f7 G ?d1 ?d2 ?d3 d8 ?_)
     case d1=>grind
     case d2=>intro h;obtain⟨k,o,D,H⟩:=e8 (by omega);refine⟨_,o,fun j v I=>?_⟩;rw[show((Ad k 0):Addr).add j=(Ad k j) by grind[Addr.add]];rw[iH (w:=a) (a7.out k (by omega))];exact H j v I
     case d3=>rw[e9,length_splice _ _ _ (by rw[b7];show 0+f.length<=8;omega)];show d+g.length<=8;omega
     intro t a8 X c6;have Y:=hI (((X _ (by omega)).trans (a7 _ (by omega))).trans b);have a6:Hid ((splice (splice (zero8.map (Value.int .u64)) 0 F) d G).toArray=aH (f++(List.replicate (8- f.length- g.length) 0++g))):=by show _=_;rw[f9.out,f6.out];exact zp f g d HD e2
     have K:(aH (f++(List.replicate (8- f.length- g.length) 0++g))).size=8:=(by rw[yZ];simp;omega);have W:Hid (t.heap[w.heap.size+1+1]?=some (.cells (aH (f++(List.replicate (8- f.length- g.length) 0++g))) 177 (0,0))):=(by have:=a8;rw[a6.out] at this;exact this);have r:Hid ((prog.info? 177).map (·.size)=some (aH (f++(List.replicate (8- f.length- g.length) 0++g))).size):=(by show _=_;rw[K];exact ic);have a5:Hid ((aH zero8).size=(aH (f++(List.replicate (8- f.length- g.length) 0++g))).size):=K.symm;clear K a8 a6;obtain⟨R,E⟩:=am (f++(List.replicate (8- f.length- g.length) 0++g));rw[<-E] at W r a5;have c0:=hI E;clear E;go_wp2_with(first|refine cb rfl 177 _ rfl (w.heap.size+1+1) rfl 177 (aH R) (0,0) _ W underlying177 rfl r ?_|refine aY rfl 177 _ _ rfl w.heap.size (aH R) rfl rfl 177 (aH zero8) Y r a5 (mu _) ?_);(try simp only[Exit.inBlock,Exit.then]);have z:=bQ (P:=prog) (t.setRow w.heap.size (aH R)) w.heap.size 177 177 (aH R) (0,0) _ (bH t w.heap.size (aH zero8) (aH R) 177 (0,0) Y) underlying177 rfl r;have b0:Bl w t:=(by have o:=L.out.trans (c.out.mono (by rw[i.out];omega));obtain⟨a1,a2,a3,a4⟩:=e4;obtain⟨b1,b2,b3,b4⟩:=c6;exact o.trans ⟨b1.trans a1,b2.trans a2,b3.trans a3,by omega,fun k hk=>(X k (by omega)).trans (a7 k (by omega))⟩);refine aO (v:=.tuple #[.agg (aH R),.nilIface]) ?_ rfl ⟨?_,aZ b0 (aG _) _⟩
     .rw[bR rfl]
      simp[asAddr,Result.andThen,z]
     .rw[c4.out,ae (by exact g1.out),c0.out]
      rfl
   .have i5:=hI b8
    have g8:=hI (a9.out.below c);obtain⟨Z,ve,l7⟩:=g8.out.eCount;have l8:a.cell? ⟨w.heap.size+1,0,none⟩=some (.int .u64 0):=(by rw[dD a _ _ _ _ _ l.out];rfl);have k3:a.cell? ⟨w.heap.size,0,none⟩=some (.int .u64 0):=(by rw[dD a _ _ _ _ _ b.out];rfl);have l9:a.frozen? ⟨w.heap.size,0,none⟩=false:=lJ a _ _ _ _ b.out;have j0:a.cell? ⟨w.heap.size+1,1,none⟩=some (.int .u64 0):=(by rw[dD a _ _ _ _ _ l.out];rfl);have k1:a.cell? ⟨w.heap.size,1,none⟩=some (.int .u64 0):=(by rw[dD a _ _ _ _ _ b.out];rfl);have k7:a.frozen? ⟨w.heap.size,1,none⟩=false:=lJ a _ _ _ _ b.out;have l0:a.cell? ⟨w.heap.size+1,2,none⟩=some (.int .u64 0):=(by rw[dD a _ _ _ _ _ l.out];rfl);have k5:a.cell? ⟨w.heap.size,2,none⟩=some (.int .u64 0):=(by rw[dD a _ _ _ _ _ b.out];rfl);have l4:a.frozen? ⟨w.heap.size,2,none⟩=false:=lJ a _ _ _ _ b.out;have k9:a.cell? ⟨w.heap.size+1,3,none⟩=some (.int .u64 0):=(by rw[dD a _ _ _ _ _ l.out];rfl);have j3:a.cell? ⟨w.heap.size,3,none⟩=some (.int .u64 0):=(by rw[dD a _ _ _ _ _ b.out];rfl);have k6:a.frozen? ⟨w.heap.size,3,none⟩=false:=lJ a _ _ _ _ b.out;have j1:a.cell? ⟨w.heap.size+1,4,none⟩=some (.int .u64 0):=(by rw[dD a _ _ _ _ _ l.out];rfl);have l6:a.cell? ⟨w.heap.size,4,none⟩=some (.int .u64 0):=(by rw[dD a _ _ _ _ _ b.out];rfl);have j5:a.frozen? ⟨w.heap.size,4,none⟩=false:=lJ a _ _ _ _ b.out;have i9:a.cell? ⟨w.heap.size+1,5,none⟩=some (.int .u64 0):=(by rw[dD a _ _ _ _ _ l.out];rfl);have l1:a.cell? ⟨w.heap.size,5,none⟩=some (.int .u64 0):=(by rw[dD a _ _ _ _ _ b.out];rfl);have l2:a.frozen? ⟨w.heap.size,5,none⟩=false:=lJ a _ _ _ _ b.out;have k2:a.cell? ⟨w.heap.size+1,6,none⟩=some (.int .u64 0):=(by rw[dD a _ _ _ _ _ l.out];rfl);have j6:a.cell? ⟨w.heap.size,6,none⟩=some (.int .u64 0):=(by rw[dD a _ _ _ _ _ b.out];rfl);have k8:a.frozen? ⟨w.heap.size,6,none⟩=false:=lJ a _ _ _ _ b.out;have k0:a.cell? ⟨w.heap.size+1,7,none⟩=some (.int .u64 0):=(by rw[dD a _ _ _ _ _ l.out];rfl);have j4:a.cell? ⟨w.heap.size,7,none⟩=some (.int .u64 0):=(by rw[dD a _ _ _ _ _ b.out];rfl);have l3:a.frozen? ⟨w.heap.size,7,none⟩=false:=lJ a _ _ _ _ b.out;have C:Hid (∀j,j<8->a.setCell ⟨w.heap.size,j,none⟩ (.int .u64 0)=a):=fun j I=>Kt a w.heap.size j _ I b.out;have k4:¬(14=w.heap.size):=(by have:=HV.out.size;omega);have j8:¬(w.heap.size=14):=(by have:=HV.out.size;omega);go_wp2;go_region;all_goals
     simp only[C.out 0 (by omega),C.out 1 (by omega),C.out 2 (by omega),C.out 3 (by omega),C.out 4 (by omega),C.out 5 (by omega),C.out 6 (by omega),C.out 7 (by omega)];go_wp2;(try simp only[Exit.inBlock,Exit.then]);have z:=bQ (P:=prog) a.drew w.heap.size 177 177 (aH zero8) (0,0) _ b underlying177 rfl ic;refine aO (v:=.tuple #[.agg (aH zero8),.iface Z ve]) ?_ rfl ⟨?_,(L.out.trans (c.out.mono (by rw[i.out];omega))).drew⟩
     .rw[bR rfl]
      simp[asAddr,Result.andThen,z]
     .rw[c4.out,ab (by exact i5.out)]
      exact⟨_,_,rfl⟩
theorem cj (w:World) (a:Array Value) (t:TypeId):(w.alloc (.cells a t)).heap[w.heap.size]?=some (.cells a t (0,0)):=by grind[World.alloc]
def lT (o:Option Bs):Array Value:=#[.bool o.isSome,.string ⟨(o.getD []).toArray⟩]
def bx (c:Cuts):Array Value:=#[.string ⟨c.s.toArray⟩,.string ⟨c.i.toArray⟩,.bool c.q.isSome,.string ⟨(c.q.getD []).toArray⟩,.bool c.f.isSome,.string ⟨(c.f.getD []).toArray⟩]
def lU:Array Value:=#[.string ⟨#[]⟩,.string ⟨#[]⟩,.bool false,.string ⟨#[]⟩,.bool false,.string ⟨#[]⟩]
theorem CY (c:Cuts):(bx c).all (·.oneCell')=true:=by simp[bx,Value.oneCell']
theorem lV:(prog.info? 137).map (·.size)=some 6:=by kernel_rfl
theorem vo:(prog.info? 75).map (·.size)=some 2:=by kernel_rfl
theorem CZ (s:ByteArray) (w:World) (z:s.size<4294967281) (n:Env w):Calls prog 93 #[.string s] w fun e w'=>e=.returned (.agg (bx (ej s.data.toList)))/\Bl w w':=by
 have B:=hI n;clear n;have j:Hid (Bl w (w.alloc (.cells lU 137))):=(ai _ _).alloc .refl _;have l:=hI (B.out.below j);have o:Hid ((w.alloc (.cells lU 137)).heap[w.hz]?=some (.cells lU 137 (0,0))):=cj w _ _;have t:=hI (vO s _ z l);have H:(aU s.L).2.length<=s.size:=by
  unfold aU;rw[iJ];cases h:aN 58 s.L with
  |none=>simp
  |some p=>
   have:=cutB_parts 58 _ p.1 p.2 h;have G:s.L.length=p.1.length+(p.2.length+1):=(by rw[this];simp);show(if cw p.1=true then(Lib.toLowerA p.1,p.2) else([],s.L)).2.length<=_;split
   .grind
   .simp
 have x:Hid (bx (ej s.L)=bx ⟨(aU s.L).1,(ay 63 (ay 35 (aU s.L).2).1).1,(ay 63 (ay 35 (aU s.L).2).1).2,(ay 35 (aU s.L).2).2⟩):=rfl;generalize(aU s.L).1=d at*;generalize(aU s.L).2=rest at*;have F:=cutOpt_len 35 rest;have y:=hI fun m W a=>nt (Bv rest) 35 m W (by grind[al]) a;have u:=hI fun m W a=>nt ⟨(ay 35 rest).1.toArray⟩ 63 m W (by grind[al]) a;go_enter func93,ntmps93;go_wp21;refine mR t.out fun c f=>?_;have C:=hI ((f.block _ (by simp)).trans o);have A:=hI (j.out.trans (f.mono (by simp)));obtain⟨m,a⟩:=(l.out.below f).maxLen;have k:=hI a;clear a;go_wp21;refine mR (y m c k) ?_;rintro D ⟨b,rfl⟩;go_wp21;refine mR (u m (c.drewN b) k) ?_;rintro D ⟨g,rfl⟩;have i:Hid (((c.drewN b).drewN g).heap[w.hz]?=some (.cells lU 137 (0,0))):=C;have E:=hI (nv (nv A b) g);have q:Hid ((bx ⟨d,(ay 63 (ay 35 rest).1).1,(ay 63 (ay 35 rest).1).2,(ay 35 rest).2⟩).all (·.oneCell')=true):=CY _;generalize(c.drewN b).drewN g=r at*;go_wp2_with(refine aY rfl 137 _ _ rfl w.hz (bx ⟨d,(ay 63 (ay 35 rest).1).1,(ay 63 (ay 35 rest).1).2,(ay 35 rest).2⟩) rfl rfl 137 lU i lV rfl q ?_);(try simp only[Exit.inBlock,Exit.then]);refine aO (v:=.agg (bx ⟨d,(ay 63 (ay 35 rest).1).1,(ay 63 (ay 35 rest).1).2,(ay 35 rest).2⟩)) ?_ rfl ⟨by rw[x.out],aZ E .refl _⟩;exact lD rfl _ _ w.hz 137 _ (0,0) _ rfl (bH r w.hz lU _ 137 (0,0) i) underlying137 rfl lV
def Tryz.Tz (w:World):Prop:=w.cell? ⟨28,15,none⟩=some (.int .u8 4)
theorem Tryz.Tz.below {w w':World} (h:Tz w) (a:Bl w w') (hz:28<w.heap.size):Tz w':=by show _=_;rw[a.cell (p:=(Ad 28 15)) hz];exact h
set_option maxRecDepth 100000 in
theorem Ki (w:World) (h:Tz w):Calls prog 314 #[.int .u64 16] w fun e w'=>e=.returned (.int .i64 4)/\w'=w:=by
 have c:Ce w 28 15 (.int .u8 4):=h;have b:IntKind.u64.wrap (-16)=18446744073709551600:=by kernel_rfl
 have d:bits .and .u64 16 18446744073709551600=16:=by kernel_rfl
 have a:IntKind.u64.wrap 4573923408821661840=4573923408821661840:=by kernel_rfl
 go_enter func314,ntmps314;go_wp2;go_ret;exact⟨rfl,rfl⟩
theorem Kj (w:World) (h:Tz w):Calls prog 292 #[.int .u64 16] w fun e w'=>e=.returned (.int .i64 4)/\w'=w:=by have H:=hI h;clear h;go_enter func292,ntmps292;go_wp2_with(go_at_call 314;refine(Ki _ H).mono ?_;rintro e w' ⟨rfl,rfl⟩);go_ret;exact⟨rfl,rfl⟩
theorem Kk (w:World):Calls prog 291 #[.int .i64 16] w fun e w'=>e=.returned (.bool true)/\w'=w:=by
 have a:bits .and .i64 16 15=0:=by kernel_rfl
 go_enter func291,ntmps291;go_wp2;go_ret;exact⟨rfl,rfl⟩
theorem Kl (v:Nat) (h:v<65536):bits .and .u64 (v:Int) 15=((v%16:Nat):Int):=by rw[show(15:Int)=((15:Nat):Int) from rfl,u64_and_nat v 15 (by omega) (by omega),show(15:Nat)=2^4- 1 from rfl,BM]
theorem yW (m:Nat) (h:m<(⟨#[48,49,50,51,52,53,54,55,56,57,97,98,99,100,101,102,103,104,105,106,107,108,109,110,111,112,113,114,115,116,117,118,119,120,121,122]⟩:ByteArray).size) (a:m<16):(⟨#[48,49,50,51,52,53,54,55,56,57,97,98,99,100,101,102,103,104,105,106,107,108,109,110,111,112,113,114,115,116,117,118,119,120,121,122]⟩:ByteArray)[m]=dm m:=by
 match m,a with
 |0,_=>rfl
 |1,_=>rfl
 |2,_=>rfl
 |3,_=>rfl
 |4,_=>rfl
 |5,_=>rfl
 |6,_=>rfl
 |7,_=>rfl
 |8,_=>rfl
 |9,_=>rfl
 |10,_=>rfl
 |11,_=>rfl
 |12,_=>rfl
 |13,_=>rfl
 |14,_=>rfl
 |15,_=>rfl
 |m+16,h=>omega
theorem sZ:prog.arrayLen 285=65:=by kernel_rfl
theorem yX:prog.elem 285=5:=by kernel_rfl
theorem Km:prog.underlying 285=some (.array (prog.arrayLen 285) (prog.elem 285)):=by simp[sZ,yX]
theorem Kn (w:World):(sizeOf 5).run prog w=.ok 1 w:=by simp
theorem Ko (g d n:Nat) (a:d<65) (b:d+n=65) (w:World):(Instr.sliceAt 285 (.pointer (some ⟨g,0,none⟩)) (some (.int .i64 d)) none none).run prog w=.ok (.slice (some ⟨g,d,none⟩) n n) w:=by rw[BW w 285 (Ad g 0) Km .i64 d (by omega) (by grind[sZ]),yX,Kn,sZ];simp only[Result.andThen,slicedAt,kV,Nat.mul_one];rw[ab (by omega),show((Ad g 0):Addr).add d=(Ad g d) by grind[Addr.add],show 65- d=n by omega]
set_option maxRecDepth 100000 in
theorem Kp (u:Nat) (M:u<65536) (w:World) (E:Env w) (G:Tz w):Calls prog 257 #[.slice none 0 0,.int .u64 u,.int .i64 16,.bool false,.bool false] w fun e w'=>e=.returned (.tuple #[.slice none 0 0,.string ⟨(cH 16 3 u).toArray⟩])/\Bl w w':=by
 have R:=hI E;have O:=hI G;have Q:Hid (Tz (w.alloc (.cells zeroCells285 285))):=O.out.below ((ai _ w).alloc .refl _) (by have:=R.out.size;omega);clear E G;go_enter func257,ntmps257;go_wp2_with fail;refine mR (Kk _) fun w1 J=>?_;obtain rfl:=J.symm;go_wp2_with fail;refine m0 (Kj _ Q) ?_;go_wp2;go_loopw [1,13] (fun t i wr=>∃(v k n:Nat) (b:List UInt8),t=.int .u64 v/\i=.int .i64 n/\n+k=65/\k<=3/\b.length=k/\v<16^(4- k)/\cH 16 (3- k) v++b=cH 16 3 u/\(∀j,j<65->(wr.cell? ⟨w.heap.size,j,none⟩).isSome=true)/\(∀j,j<65->wr.frozen? ⟨w.heap.size,j,none⟩=false)/\(∀(j:Nat) x,b[j]?=some x->wr.cell? ⟨w.heap.size,n+j,none⟩=some (.int .u8 (x.toNat:Int)))/\Below w.heap.size w wr) (fun t _ _=>(intOf t).toNat)
 case atStart=>
  refine⟨u,0,65,[],rfl,rfl,rfl,by omega,rfl,by simpa using M,by simp,?_,?_,by simp,(ai _ w).alloc .refl _⟩
  .intro j a
   rw[ew];simp;exact a
  .intro j a
   exact World.frozen?_alloc_new _ _ _ _
 case round=>
  obtain⟨v,k,n,b,rfl,rfl,Z,V,z,l,D,r,g,A,s⟩:=hrel;have F:=hI D;have L:=hI r;have K:=hI g;have y:=hI A;have C:=hI l;have N:v<65536:=cq l (by
   have:k=0\/k=1\/k=2\/k=3:=by omega
   rcases this with rfl|rfl|rfl|rfl<;>decide)
  obtain⟨p,rfl⟩:∃p,n=p+1:=⟨n- 1,by omega⟩;obtain⟨c,o⟩:=Option.isSome_iff_exists.1 (r p (by omega));have hf:=g p (by omega);have Y:p<65:=by omega
  clear D r g A l;by_cases T:16<=v
  .have I:=hI (Kl v N)
   have U:=I.out;go_wp2;go_roundw
   case rel=>
    have W:k<=2:=by
     obtain h|h:=(show k<=2\/k=3 by omega)
     .exact h
     .exfalso
      have q:=C;rw[h] at q;have X:v<16:=q;omega
    refine⟨v/16,k+1,p,dm (v%16)::b,by simp,rfl,by omega,by omega,by simp[z],?_,?_,?_,?_,?_,s.setCell .refl _⟩
    .have f:=C
     rw[show 4- k=(4-(k+1))+1 by omega,qP] at f;rw[Nat.mul_comm] at f;exact Nat.div_lt_of_lt_mul f
    .have f:=F
     rwa[show 3- k=(3-(k+1))+1 by omega,cH,ab (by omega),eU] at f
    .intro j a
     by_cases B:j=p
     .subst B
      rw[om _ _ _ o];rfl
     .rw[fB _ _ _ _ (by intro h;cases h;exact B rfl)]
      exact L j a
    .intro j a
     rw[World.frozen?_setCell];exact K j a
    .intro j x d
     match j,d with
     |0,d=>simp at d;subst d;exact(om _ _ _ o).trans (by rw[yW _ _ (by omega)])
     |j+1,d=>rw[fB _ _ _ _ (by intro h;cases h),show p+(j+1)=p+1+j by omega];exact y j x (by simpa using d)
   case measure=>simp[intOf];omega
  .have a0:v<(⟨#[48,49,50,51,52,53,54,55,56,57,97,98,99,100,101,102,103,104,105,106,107,108,109,110,111,112,113,114,115,116,117,118,119,120,121,122]⟩:ByteArray).size:=by show v<36;omega
   have a1:=Ko w.heap.size p (k+1) (by omega) (by omega) (wr.setCell (Ad w.heap.size p) (.int .u8 ((⟨#[48,49,50,51,52,53,54,55,56,57,97,98,99,100,101,102,103,104,105,106,107,108,109,110,111,112,113,114,115,116,117,118,119,120,121,122]⟩:ByteArray)[v].toNat:Int)));have S:(convert 47 9 (.slice (some (Ad w.heap.size p)) (k+1) (k+1))).run prog (wr.setCell (Ad w.heap.size p) (.int .u8 ((⟨#[48,49,50,51,52,53,54,55,56,57,97,98,99,100,101,102,103,104,105,106,107,108,109,110,111,112,113,114,115,116,117,118,119,120,121,122]⟩:ByteArray)[v].toNat:Int)))=.ok (Sv (dm v::b)) (wr.setCell (Ad w.heap.size p) (.int .u8 ((⟨#[48,49,50,51,52,53,54,55,56,57,97,98,99,100,101,102,103,104,105,106,107,108,109,110,111,112,113,114,115,116,117,118,119,120,121,122]⟩:ByteArray)[v].toNat:Int))):=by
    have h:=oo (P:=prog) (wr.setCell (Ad w.heap.size p) (.int .u8 ((⟨#[48,49,50,51,52,53,54,55,56,57,97,98,99,100,101,102,103,104,105,106,107,108,109,110,111,112,113,114,115,116,117,118,119,120,121,122]⟩:ByteArray)[v].toNat:Int))) 47 9 5 (Ad w.heap.size p) (k+1) (dm v::b) underlying47 underlying5 underlying9 (fun j a=>by
     rw[show((Ad w.heap.size p):Addr).add j=(Ad w.heap.size (p+j)) by unfold Addr.add;split<;>simp_all];match j,a with
     |0,_=>exact(om _ _ _ o).trans (by rw[yW _ _ (by omega)];rfl)
     |j+1,a=>
      rw[fB _ _ _ _ (by intro h;cases h),show p+(j+1)=p+1+j by omega];exact y j _ (by simp))
    rwa[dL,z] at h
   have H:Hid (dm v::b=cH 16 3 u):=by
    show _=_;rw[<-F.out];have:cH 16 (3- k) v=[dm v]:=by
     cases q:3- k with
     |zero=>rfl
     |succ m=>unfold cH;rw[ae (by omega)]
    rw[this];rfl
   go_wp2;go_ret2;refine⟨?_,s.setCell .refl _⟩;rw[H.out];rfl
theorem Kq (u:Nat) (f:u<65536) (w:World) (a:Env w) (b:Tz w):Calls prog 239 #[.int .u64 u,.int .i64 16] w fun e w'=>e=.returned (.string ⟨(cH 16 3 u).toArray⟩)/\Bl w w':=by have d:=hI a;have g:=hI b;clear a b;go_enter func239,ntmps239;go_wp21;refine mR (Kp u f _ d g) fun w' c=>?_;go_wp2;go_ret;exact⟨rfl,c⟩
theorem Kr (u:Nat) (f:u<65536) (w:World) (a:Env w) (b:Tz w):Calls prog 203 #[.int .u64 u,.int .i64 16] w fun e w'=>e=.returned (.string ⟨(cH 16 3 u).toArray⟩)/\Bl w w':=by have d:=hI a;have g:=hI b;clear a b;go_enter func203,ntmps203;go_wp21;refine mR (Kq u f _ d g) fun w' c=>?_;go_wp2;go_ret;exact⟨rfl,c⟩
structure Tryz.Env2 (w:World):Prop where
 env:Tryz.Env w
 tz:Tryz.Tz w
 u8:Lib.Utf8Tabs 21 22 w
 eBase:Tryz.Err 6 w
 eOpaque:Tryz.Err 15 w
 eHost:Tryz.Err 12 w
 eSyntax:Tryz.Err 25 w
 eRange:Tryz.Err 26 w
theorem Tryz.Env2.below {w w':World} (h:Env2 w) (a:Bl w w'):Env2 w':=by
 have hz:=h.env.size;refine⟨h.env.below a,h.tz.below a (by omega),⟨λc d=>?_,λi b=>⟨?_,?_⟩⟩,h.eBase.below a (by omega),h.eOpaque.below a (by omega),h.eHost.below a (by omega),h.eSyntax.below a (by omega),h.eRange.below a (by omega)⟩
 .rw[a.cell (p:=(Ad 21 c)) (show 21<w.heap.size by omega)]
  exact h.u8.1 c d
 .rw[a.cell (p:=(Ad 22 (2*i))) (show 22<w.heap.size by omega)]
  exact(h.u8.2 i b).1
 .rw[a.cell (p:=(Ad 22 (2*i+1))) (show 22<w.heap.size by omega)]
  exact(h.u8.2 i b).2
theorem rl (s a:ByteArray):Lib.countB s a<=s.size+1:=by
 unfold Lib.countB Lib.count;have b:∀(f:Nat) (x:List UInt8),Lib.countFrom a.L f x<=f:=by
  intro f;induction f with
  |zero=>intro x;exact .refl
  |succ f c=>grind[Lib.countFrom]
 rw[iJ];exact b _ _
theorem vp (a s:ByteArray) (w:World) (f:s.size<4294967281) (h:Env w):Calls prog 164 #[.string a,.string s] w fun e w'=>e=.returned (.string ⟨(aq a.data.toList s.data.toList).toArray⟩)/\Bl w w':=by
 obtain⟨m,g⟩:=h.maxLen;have k:=rl s ⟨#[92]⟩;have j:=hI (strings_ReplaceAll s ⟨#[92]⟩ ⟨#[47]⟩ m w f g (by decide) (by show _+_*1<=_;omega));have b:=hI (iw a w);cases c:ao a.L with
 |true=>
  have d:Hid (aq a.L s.L=Lib.replaceAll s.L [92] [47]):=by show _=_;unfold aq;rw[ae c,oJ,Cv]
  rw[c] at b;go_enter func164,ntmps164;go_wp21;refine m0 b.out ?_;go_wp21;refine mR j.out fun l i=>?_;go_wp2;go_ret;rw[d.out];exact⟨rfl,i⟩
 |false=>
  have d:Hid (aq a.L s.L=s.L):=by show _=_;unfold aq;rw[ab (by simp[c])]
  rw[c] at b;go_enter func164,ntmps164;go_wp21;refine m0 b.out ?_;go_wp2;go_ret;rw[d.out];exact⟨rfl,ai _ _⟩
theorem rm (c:UInt8) (l:Bs) (w:World) (g:l.length<4294967281) (b:Env w):Calls prog 107 #[.string ⟨l.toArray⟩,.string ⟨#[c]⟩,.string ⟨#[]⟩] w λe w'=>e=.returned (.string ⟨(l.filter (·≠c)).toArray⟩)/\Bl w w':=by
 obtain⟨m,f⟩:=b.maxLen;refine mR (strings_ReplaceAll (Bv l) ⟨#[c]⟩ ⟨#[]⟩ m w (by grind[al]) f (by show 1<=1;omega) (by grind[al])) λw' a=>?_;refine⟨?_,a⟩;have d:Lib.replaceAll (Bv l).L (⟨#[c]⟩:ByteArray).L (Bv []).L=l.filter (·≠c):=by show Lib.replaceAll l [c] []=_;rw[oJ,Cu]
 rw[d]
theorem Da (W:World):Sem.run prog (Instr.index 149 (.agg #[.string ⟨#[9]⟩,.string ⟨#[10]⟩,.string ⟨#[13]⟩]) (.int .i64 0)) W=.ok (.string ⟨#[9]⟩) W:=by kernel_rfl
theorem Db (W:World):Sem.run prog (Instr.index 149 (.agg #[.string ⟨#[9]⟩,.string ⟨#[10]⟩,.string ⟨#[13]⟩]) (.int .i64 1)) W=.ok (.string ⟨#[10]⟩) W:=by kernel_rfl
theorem Dc (W:World):Sem.run prog (Instr.index 149 (.agg #[.string ⟨#[9]⟩,.string ⟨#[10]⟩,.string ⟨#[13]⟩]) (.int .i64 2)) W=.ok (.string ⟨#[13]⟩) W:=by kernel_rfl
set_option maxRecDepth 100000 in
theorem vq (l:Bs) (w:World) (z:l.length<4294967281) (m:Env w):Calls prog 61 #[.string ⟨l.toArray⟩] w fun e w'=>e=.returned (.string ⟨(l.filter fun c=>!it c).toArray⟩)/\Bl w w':=by
 have A:=hI m;clear m;have D:(l.filter (·≠(9:UInt8))).length<=l.length:=lE _ _;have B:((l.filter (·≠(9:UInt8))).filter (·≠(10:UInt8))).length<=(l.filter (·≠(9:UInt8))).length:=lE _ _;have x:=hI (Cw l);generalize o:l.filter (·≠(9:UInt8))=f at*;generalize r:f.filter (·≠(10:UInt8))=g at*;generalize y:g.filter (·≠(13:UInt8))=k at*;have u:Hid (∀W,Env W->CB 107 #[Sv l,.string ⟨#[9]⟩,Sv []] W (Sv f)):=by intro W b;rw[<-o];exact rm 9 l W z b
 have p:Hid (∀W,Env W->CB 107 #[Sv f,.string ⟨#[10]⟩,Sv []] W (Sv g)):=by intro W b;rw[<-r];exact rm 10 f W (by omega) b
 have t:Hid (∀W,Env W->CB 107 #[Sv g,.string ⟨#[13]⟩,Sv []] W (Sv k)):=by intro W b;rw[<-y];exact rm 13 g W (by omega) b
 have E:=Da;have G:=Db;have F:=Dc;go_enter func61,ntmps61;go_wp21;go_loopw [0,6] (fun s i wr=>∃q:Nat,q<=3/\i=Iv q/\s=Sv ((([l,f,g,k]:List Bs)[q]?).getD [])/\Bl w wr) (fun _ i _=>3-(intOf i).toNat)
 case atStart=>grind[Below.refl]
 case round=>
  obtain⟨q,C,rfl,rfl,j⟩:=hrel;have a:=hI j;have h:=hI (A.out.below j);clear j;have v:q=0\/q=1\/q=2\/q=3:=by omega
  obtain rfl|rfl|rfl|rfl:=v
  .go_wp21
   refine mR (u _ h) fun n d=>?_;go_wp2;go_roundw
   case rel=>exact⟨1,by omega,rfl,rfl,a.out.trans (d.mono a.out.size)⟩
   case measure=>(simp[intOf])
  .go_wp21
   refine mR (p _ h) fun n d=>?_;go_wp2;go_roundw
   case rel=>exact⟨2,by omega,rfl,rfl,a.out.trans (d.mono a.out.size)⟩
   case measure=>(simp[intOf])
  .go_wp21
   refine mR (t _ h) fun n d=>?_;go_wp2;go_roundw
   case rel=>exact⟨3,by omega,rfl,rfl,a.out.trans (d.mono a.out.size)⟩
   case measure=>(simp[intOf])
  .go_wp2
   go_ret;rw[<-x.out];exact⟨rfl,a⟩
theorem vr (l:Bs):(Lib.indexByte l 47= -1/\bd l=(l,[]))\/∃p r:Bs,l=p++47::r/\Lib.indexByte l 47=p.length/\bd l=(p,47::r):=by
 obtain⟨g,a⟩|⟨p,r,e,a,f⟩:=ll 47 l
 .left
  refine⟨g,?_⟩;unfold bd;have d:=qG (p:=λc:UInt8=>decide (c≠47)) (l₁:=l) (l₂:=[]) (by simpa using a);have b:=oe (p:=λc:UInt8=>decide (c≠47)) (l₁:=l) (l₂:=[]) (by simpa using a);simp only[dl,List.takeWhile_nil,List.dropWhile_nil] at d b;rw[d,b]
 .right
  refine⟨p,r,e,f,?_⟩;rw[e];unfold bd;rw[qG (by simpa using a),oe (by simpa using a)];simp
theorem lg (x y:ByteArray) (h:x.data.toList=y.data.toList):x=y:=by
 cases x;cases y
 simp only[ByteArray.mk.injEq];exact Bw.1 h
theorem vs (p r:Bs):(⟨(p++r).toArray⟩:ByteArray).extract 0 p.length=⟨p.toArray⟩:=by apply lg;rw[jE];simp
theorem Dd (p r:Bs):(⟨(p++r).toArray⟩:ByteArray).extract p.length (p.length+r.length)=⟨r.toArray⟩:=by apply lg;rw[jE];simp
theorem rn (l:Bs) (w:World):Calls prog 281 #[.string ⟨l.toArray⟩] w fun e w'=>e=.returned (.tuple #[.string ⟨(bd l).1.toArray⟩,.string ⟨(bd l).2.toArray⟩])/\∃n,w'=w.drewN n:=by
 have d:Hid (C0 141 #[Sv l,.int .u8 47] w (Iv (Lib.indexByte l 47))):=strings_IndexByte (Bv l) 47 w;obtain⟨b,a⟩|⟨p,r,c,b,a⟩:=vr l
 .have f:=hI a
  rw[b] at d;clear b a;go_enter func281,ntmps281;go_wp2_with fail;refine m0 d.out ?_;go_wp2;go_ret2;rw[f.out];exact⟨rfl,0,rfl⟩
 .have f:=hI a
  rw[b] at d;have g:l.length=p.length+(r.length+1):=by rw[c];simp
  have h:(Bv l).size=p.length+(r.length+1):=by rw[al,g]
  have j:(Bv l).extract 0 p.length=(Bv p):=by rw[c];exact vs p (47::r)
  have i:(Bv l).extract p.length (p.length+(r.length+1))=(Bv (47::r)):=by rw[c];exact Dd p (47::r)
  have k:((p.length:Int))<=((Bv l).size:Int):=by rw[h];omega
  have m:∀W,(Instr.slice 9 (Sv l) none (some (Iv p.length)) none).run prog W=.ok (Sv p) W:=fun W=>by
   simp_all[Bn]
  have o:∀W,(Instr.slice 9 (Sv l) (some (Iv p.length)) none none).run prog W=.ok (Sv (47::r)) W:=fun W=>by
   simp_all[Bo]
  clear b a c g;go_enter func281,ntmps281;go_wp2_with fail;refine m0 d.out ?_;go_wp2;go_quiet (fail);go_wp2;go_ret2;rw[f.out];exact⟨rfl,_,rfl⟩
def lW (c:Cuts):Bool:=c.i.isEmpty&&(!c.q.isSome&&c.f.isSome)
theorem ir (l:Bs):(⟨l.toArray⟩:ByteArray).toList.isEmpty=l.isEmpty:=by simp
theorem De (c:Cuts) (w:World):Calls prog 207 #[.agg (bx c)] w fun e w'=>e=.returned (.bool (lW c))/\Bl w w':=by
 obtain⟨h,a,g,fr⟩:=c;unfold bx lW;simp only;have f:=ir a;have b:a.toArray.isEmpty=a.isEmpty:=by cases a<;>rfl
 cases d:a.isEmpty with
 |false=>rw[d] at f b;go_enter func207,ntmps207;go_wp2;go_ret;exact⟨rfl,(ai _ _).alloc (aG _) _⟩
 |true=>
  rw[d] at f b;cases g with
  |some x=>go_enter func207,ntmps207;go_wp2;go_ret;exact⟨rfl,(ai _ _).alloc .refl _⟩
  |none=>
   cases fr with
   |some y=>go_enter func207,ntmps207;go_wp2;go_ret;exact⟨rfl,(ai _ _).alloc .refl _⟩
   |none=>go_enter func207,ntmps207;go_wp2;go_ret;exact⟨rfl,(ai _ _).alloc .refl _⟩
theorem nh (l:Bs) (h:¬l.length=2):aC l=false:=by
 unfold aC;split
 .simp at h
 .rfl
theorem vg (a b:UInt8):∃s:ByteArray,s=⟨[a,b].toArray⟩/\∃h:s.size=2,(s[1]'(by omega)).toNat=b.toNat:=⟨_,rfl,rfl,rfl⟩
theorem oK (l:Bs) (w:World) (hs:l.length<4294967281):Calls prog 286 #[.string ⟨l.toArray⟩] w fun e w'=>e=.returned (.bool (aC l))/\w'=w:=by
 by_cases h2:l.length=2
 .obtain⟨a,b,rfl⟩:∃a b,l=[a,b]:=by
   match l,h2 with
   | [a,b],_=>simp
  have HB:Hid (C0 240 #[.string ⟨[a,b].toArray⟩] w (.bool (ct a))):=vN ⟨[a,b].toArray⟩ w;clear hs h2;obtain⟨s,hs,hsz,hb⟩:=vg a b;rw[<-hs] at HB⊢;clear hs;have HE0:Hid (aC [a,b]=(ct a&&(b==58||b==124))):=rfl;have h1:1<s.size:=by omega
  generalize hc:(s[1]'h1).toNat=c at*;cases ha:ct a with
  |false=>have HE:Hid (aC [a,b]=false):=hI (by rw[HE0.out,ha];rfl);rw[ha] at HB;clear ha;go_enter func286,ntmps286;go_wp2_with fail;refine mR HB.out fun w' hw0=>?_;obtain rfl:=hw0.symm;go_wp2;go_ret;rw[HE.out];exact⟨rfl,rfl⟩
  |true=>
   rw[ha] at HB;by_cases h58:c=58
   .have HE:Hid (aC [a,b]=true):=by
     show _=_;rw[HE0.out,ha,show b=58 from cU.1 (by grind)];rfl
    clear ha hb;go_enter func286,ntmps286;go_wp2_with fail;refine mR HB.out fun w' hw0=>?_;obtain rfl:=hw0.symm;go_wp2;go_ret;rw[HE.out];exact⟨rfl,rfl⟩
   .by_cases h124:c=124
    .have HE:Hid (aC [a,b]=true):=by
      show _=_;rw[HE0.out,ha,show b=124 from cU.1 (by grind)];rfl
     clear ha hb;go_enter func286,ntmps286;go_wp2_with fail;refine m0 HB.out ?_;go_wp2;go_ret;rw[HE.out];exact⟨rfl,rfl⟩
    .have HE:Hid (aC [a,b]=false):=by
      have n1:b≠58:=fun h=>h58 (by rw[hb,h];rfl);have n2:b≠124:=fun h=>h124 (by rw[hb,h];rfl);show _=_;rw[HE0.out];simp[n1,n2]
     have e58:((c:Int)==58)=false:=aL.2 (by omega);have e124:((c:Int)==124)=false:=aL.2 (by omega);clear ha hb;go_enter func286,ntmps286;go_wp2_with fail;refine m0 HB.out ?_;go_wp2;go_ret;rw[HE.out];first|simp|(refine⟨?_,rfl⟩;simp[hc,h124])
 .have HE:=hI (nh l h2)
  have hsz:=al l;have e2:((l.length:Int)==2)=false:=aL.2 (by omega);go_enter func286,ntmps286;go_wp2;go_ret;rw[HE.out];exact⟨rfl,rfl⟩
theorem vh (l:Bs) (w:World) (hs:l.length<4294967281):Calls prog 287 #[.string ⟨l.toArray⟩] w fun e w'=>e=.returned (.bool (ek l))/\w'=w:=by
 have HB:=hI (oK l w hs);cases hd:aC l with
 |false=>
  have HE:Hid (ek l=false):=by show(aC l&&_)=false;rw[hd];rfl
  rw[hd] at HB;clear hd;go_enter func287,ntmps287;go_wp2_with fail;refine mR HB.out fun w' hw0=>?_;obtain rfl:=hw0.symm;go_wp2;go_ret;rw[HE.out];exact⟨rfl,rfl⟩
 |true=>
  have h2:l.length=2:=by
   by_cases h:l.length=2
   .exact h
   .grind[nh]
  obtain⟨a,b,rfl⟩:∃a b,l=[a,b]:=by
   match l,h2 with
   | [a,b],_=>simp
  rw[hd] at HB;have HE0:Hid (ek [a,b]=(b==58)):=by show(aC [a,b]&&(b==58))=_;rw[hd];rfl
  clear hs h2 hd;obtain⟨s,hs,hsz,hb⟩:=vg a b;rw[<-hs] at HB⊢;clear hs;have h1:1<s.size:=by omega
  generalize hc:(s[1]'h1).toNat=c at*;by_cases h58:c=58
  .have HE:Hid (ek [a,b]=true):=by
    show _=_;rw[HE0.out,show b=58 from cU.1 (by grind)];rfl
   clear hb;go_enter func287,ntmps287;go_wp2_with fail;refine m0 HB.out ?_;go_wp2;go_ret;rw[HE.out];first|simp|(refine⟨?_,rfl⟩;simp[hc,h58])
  .have HE:Hid (ek [a,b]=false):=by
    have n1:b≠58:=fun h=>h58 (by rw[hb,h];rfl);show _=_;rw[HE0.out];simp[n1]
   have e58:((c:Int)==58)=false:=aL.2 (by omega);clear hb;go_enter func287,ntmps287;go_wp2_with fail;refine m0 HB.out ?_;go_wp2;go_ret;rw[HE.out];first|simp|(refine⟨?_,rfl⟩;simp[hc,h58])
theorem cutSlash_len (l:Bs):(bd l).1.length<=l.length/\(bd l).2.length<=l.length:=by
 obtain⟨_,h⟩|⟨p,r,a,_,h⟩:=vr l
 .rw[h];simp
 .rw[h,a];simp
theorem Cz (l:Bs) (w:World) (d:l.length<4294967281):Calls prog 302 #[.string ⟨l.toArray⟩] w fun e w'=>e=.returned (.bool (aC (bd l).1))/\∃n,w'=w.drewN n:=by have c:=hI (rn l w);have f:=(cutSlash_len l).1;generalize(bd l).1=a at*;generalize(bd l).2=b at*;go_enter func302,ntmps302;go_wp21;refine mR c.out ?_;rintro w' ⟨n,rfl⟩;go_wp21;refine m0 (oK a _ (by omega)) ?_;go_wp2;go_ret;exact⟨rfl,n,rfl⟩
def iN (l:Bs):Bs:=if bG l=1 then [46] else if bG l=2 then [46,46] else []
end Go.Proofs
