import Derived.Test.YtkcnageeamappaaGreatDoorXASegs2
set_option maxHeartbeats 32000000
set_option maxRecDepth 8000
set_option linter.unusedSimpArgs false
namespace Go.Moor
open Go
def eo (r:Nat):Bool:=decide (r<33)
theorem vX (s:ByteArray) (pos:Nat) (h:pos<s.size):eo (Utf8.decode s pos).1=blankB (s.data.toList.getD pos 0)/\(blankB (s.data.toList.getD pos 0)=true->(Utf8.decode s pos).2=1):=by
 have d:(s.L.getD pos 0)=s[pos]'h:=by
  have b:s.L[pos]?=some (s[pos]'h):=by rw[bY (by simp_all)];rfl
  simp only[List.getD,b,BC]
 rw[d];by_cases c:(s[pos]'h).toNat<128
 .rw[decode_ascii s pos h c]
  exact⟨rfl,λ_=>rfl⟩
 .have e:=decode_high s pos h (by omega)
  refine⟨?_,λa=>?_⟩
  .grind[eo,blankB]
  .unfold blankB at a
   have:=ik a;omega
theorem vY (s:ByteArray):∀(f pos:Nat),s.size<=pos+f->(if Lib.idxFuncFrom eo false s f pos= -1 then [] else s.data.toList.drop (Lib.idxFuncFrom eo false s f pos).toNat)=(s.data.toList.drop pos).dropWhile blankB
 |0,pos,h=>by
  rw[show Lib.idxFuncFrom eo false s 0 pos= -1 from rfl,ae rfl,eW (by simp_all)];rfl
 |f+1,pos,h=>by
  by_cases a:pos<s.size
  .have d:pos<s.data.toList.length:=by rw[<-iJ];exact a
   obtain⟨g,c⟩:=vX s pos a;have i:s.data.toList.getD pos 0=s.data.toList[pos]:=(by simp[List.getD,bY d]);rw[i] at g c;cases b:blankB s.data.toList[pos] with
   |true=>have e:Lib.idxFuncFrom eo false s (f+1) pos=Lib.idxFuncFrom eo false s f (pos+1):=(by rw[Lib.idxFuncFrom,ae a,g,b,ab (by decide),c b]);rw[e,ch d,Br b];exact vY s f (pos+1) (by omega)
   |false=>simp_all[Lib.idxFuncFrom,ch]
  .rw[Lib.idxFuncFrom_end eo false s _ pos a,ae rfl,eW (by simp_all)]
   rfl
theorem Ef (s:ByteArray):(Lib.trimLeftF eo s).data.toList=s.data.toList.dropWhile blankB:=by
 have h:=vY s s.size 0 (by omega);rw[mQ] at h;rw[<-h];unfold Lib.trimLeftF Lib.idxFunc;split
 .rfl
 .grind[Lib.extract_data,List.length_drop,Lib.size_eq]
theorem Eg (s:ByteArray) (r:Nat) (h:r<s.size):(Lib.decodeGoB (s.extract r s.size)).2=(Lib.decodeL (s.data.toList.drop r)).2:=by unfold Lib.decodeGoB;rw[ab (by grind[ByteArray.size_extract])];have e:=Lib.decodeL_drop (s.extract r s.size) 0;rw[mQ,jE,cg (by simp)] at e;rw[<-e]
theorem Eh (l:Bs) (i:Nat) (p:0<i) (n:i<=l.length):eo (Lib.decodeLastL (l.take i)).1=blankB (l.getD (i- 1) 0)/\(blankB (l.getD (i- 1) 0)=true->(Lib.decodeLastL (l.take i)).2=1):=by
 obtain⟨f,c⟩|⟨f,c⟩|⟨f,a,g,c,u⟩:=Lib.last_cases l i p n
 .rw[c]
  exact⟨rfl,λ_=>rfl⟩
 .rw[c]
  refine⟨?_,λe=>?_⟩
  .have b:blankB (l.getD (i- 1) 0)=false:=by unfold blankB;exact ee (by omega)
   rw[b];rfl
  .rfl
 .refine⟨?_,λe=>?_⟩
  .have b:blankB (l.getD (i- 1) 0)=false:=by unfold blankB;rw[ee (by omega)]
   rw[b,c];have s:((l.take i).drop a)≠[]:=by intro q;have:=aB List.length q;rw[cm,cL] at this;simp at this;omega
   have j:0<(Bv ((l.take i).drop a)).size:=(by rw[iJ];exact iK.2 s);obtain⟨r,k⟩:=vX (Bv ((l.take i).drop a)) 0 j;show eo (Utf8.decode (Bv ((l.take i).drop a)) 0).1=false;rw[r];show blankB (((l.take i).drop a).getD 0 0)=false;rw[Lib.getD_dropU,mS,Lib.getD_takeU l i a g];cases d:blankB (l.getD a 0) with
   |false=>rfl
   |true=>have h:blankB ((Bv ((l.take i).drop a)).L.getD 0 0)=true:=(by show blankB (((l.take i).drop a).getD 0 0)=true;rw[Lib.getD_dropU,mS,Lib.getD_takeU l i a g];exact d);have m:=k h;have t:(Lib.decodeL ((l.take i).drop a)).2=1:=m;have o:a=i- 1:=(by omega);rw[o] at d;rw[d] at b;cases b
  .unfold blankB at e
   have:=ik e;omega
theorem vZ (s:ByteArray):∀(f i:Nat),i<=f->i<=s.data.toList.length->Lib.OpenAt s.data.toList i->s.data.toList.take (if 0<=Lib.lastIdxFuncFrom eo false s f i then(Lib.lastIdxFuncFrom eo false s f i).toNat+(Lib.decodeGoB (s.extract (Lib.lastIdxFuncFrom eo false s f i).toNat s.size)).2 else 0)=((s.data.toList.take i).reverse.dropWhile blankB).reverse
 |0,i,hf,_,_=>by
  have m:i=0:=by omega
  subst m;rfl
 |f+1,i,hf,hil,ho=>by
  by_cases b:0<i
  .obtain⟨d,g⟩:=Eh s.data.toList i b hil
   have k:i- 1<s.data.toList.length:=(by omega);have j:s.data.toList.getD (i- 1) 0=s.data.toList[i- 1]:=(by simp[List.getD,bY k]);have h:s.data.toList.take i=s.data.toList.take (i- 1)++ [s.data.toList[i- 1]]:=(by have:=List.take_append_getElem (l:=s.data.toList) (i:=i- 1) k;rw[show i- 1+1=i by omega] at this;exact this.symm);rw[j] at d g;cases a:blankB s.data.toList[i- 1] with
   |true=>have e:Lib.lastIdxFuncFrom eo false s (f+1) i=Lib.lastIdxFuncFrom eo false s f (i- 1):=(by rw[Lib.lastIdxFuncFrom,ae b,d,a,ab (by decide),g a]);rw[e,h,qN];show _=((s.data.toList[i- 1]::(s.data.toList.take (i- 1)).reverse).dropWhile blankB).reverse;rw[Br a];refine vZ s f (i- 1) (by omega) (by omega) (Or.inr ?_);rw[j];unfold blankB at a;have:=ik a;omega
   |false=>
    have n:=Lib.fw_width s.data.toList i b hil ho;have e:Lib.lastIdxFuncFrom eo false s (f+1) i=((i-(Lib.decodeLastL (s.data.toList.take i)).2:Nat):Int):=(by rw[Lib.lastIdxFuncFrom,ae b,d,a,ae rfl]);rw[e,ae (by omega),kV,Eg s _ (by
     grind[Lib.size_eq,Lib.decodeL_width]),n]
    have o:(Lib.decodeLastL (s.data.toList.take i)).2<=i:=by
     rcases Lib.last_cases s.data.toList i b hil with⟨_,c⟩|⟨_,c⟩|⟨_,q,p,c,r⟩
     .grind
     .grind
     .rw[c];omega
    rw[show i-(Lib.decodeLastL (s.data.toList.take i)).2+(Lib.decodeLastL (s.data.toList.take i)).2=i by omega,h,qN];show _=((s.data.toList[i- 1]::(s.data.toList.take (i- 1)).reverse).dropWhile blankB).reverse;rw[PI (by rw[a];decide)];simp
  .simp_all[Lib.lastIdxFuncFrom_zero]
theorem Ei (s:ByteArray):(Lib.trimRightF eo s).data.toList=(s.data.toList.reverse.dropWhile blankB).reverse:=by have h:=vZ s s.size s.size .refl (by simp) (.inl (by rw[iJ]));rw[cg (l:=s.L) (i:=s.size) (by simp)] at h;rw[<-h];unfold Lib.trimRightF Lib.rightEndF Lib.lastIdxFunc;rw[jE];simp
theorem Ej (s:ByteArray):(Lib.trimF eo s).data.toList=fp blankB s.data.toList:=by simp[Lib.trimF,fp,Ei,Ef]
end Go.Moor
namespace Go.Proofs
open Go.RowKit Go.Moor Go.Proofs.Tryz Go.Moor
structure But (k:Nat) (w w':World):Prop where
 os:w'.os=w.os
 tape:w'.tape=w.tape
 output:w'.output=w.output
 size:w.heap.size<=w'.heap.size
 block:∀j,j<w.heap.size->j≠k->w'.heap[j]?=w.heap[j]?
theorem But.trans {k:Nat} {a b c:World} (d:But k a b) (e:But k b c):But k a c:=
 ⟨e.os.trans d.os,e.tape.trans d.tape,e.output.trans d.output,bu d.size e.size,λj g f=>(e.block j (cq g d.size) f).trans (d.block j g f)⟩
theorem But.of_below {k:Nat} {a b:World} (h:Bl a b):But k a b:=⟨h.os,h.tape,h.output,h.size,λj c _=>h.block j c⟩
theorem But.setCell {k:Nat} {a b:World} (h:But k a b) (i:Nat) (v:Value):But k a (b.setCell ⟨k,i,none⟩ v):=
 ⟨h.os,h.tape,h.output,by simpa using h.size,λj d c=>(fj b (Ad k i) j v c).trans (h.block j d c)⟩
theorem But.below {k:Nat} {a b:World} (h:But k a b) (c:k<=a.heap.size):Below k a b:=⟨h.os,h.tape,h.output,h.size,λj d=>h.block j (by omega) (by omega)⟩
theorem oR {a:Func} (h:a.results=#[]) (b:Array Value) (P:Program) (w:World):(results a b).run P w=.ok (.tuple #[]) w:=by simp[results,h]
theorem km (k:Nat) (d t:Bs) (u B A p q o l C D i n z:Value) (s:Option Go.Addr) (E:Nat) (b:List Bs) (w:World) (I:t.length<=100000) (Q:b.length<=1000000) (H:∀x∈b,x.length<=1000000) (r:w.heap[k]?=some (.cells #[.string ⟨d.toArray⟩,u,B,A,p,q,o,l,C,D,i,n,z] 77 (0,0))) (M:b≠[]->∃g,s=some ⟨g,0,none⟩/\∀(j:Nat) x,b[j]?=some x->Ce w g j (.string ⟨x.toArray⟩)) (V:Env2 w):Calls prog 163 #[.pointer (some ⟨k,0,none⟩),.slice s b.length E,.string ⟨t.toArray⟩] w fun e w'=>e=.returned (.tuple #[])/\But k w w'/\∃v,w'.heap[k]?=some (.cells #[.string ⟨d.toArray⟩,u,B,A,p,q,.bool false,.string ⟨#[]⟩,v,D,i,n,z] 77 (0,0))/\w'.ownsRow w.heap.size 9 1 v (bO d b t).length (aW (bO d b t)):=by have K:=hI (DU d t s E b w I Q H M V);have h:=(aT.1 r).1;have T:Hid (∀c,Bl w c->c.heap[k]?=some (.cells #[Sv d,u,B,A,p,q,o,l,C,D,i,n,z] 77 (0,0))):=fun c L=>(L.block k h).trans r;have h0:Ce w k 0 (Sv d):=aa r 0;generalize bO d b t=segs at*;go_enter func163,ntmps163;go_wp21;refine K.out.mono ?_;rintro e c ⟨⟨v,rfl,F⟩,G⟩;have X:=hI F;have W:=hI G;have f:=T c G;have S:=hI f;have d6:Ce c k 6 o:=aa f 6;have d7:Ce c k 7 l:=aa f 7;have Y:Ce c k 8 C:=aa f 8;have f6:=aj f 6;have Z:=aj f 7;have f8:=aj f 8;obtain⟨m,y,R,_⟩:=dF F;subst R;go_wp2;have U:=aD c k 6 _ 77 (.bool false) S;have P:=aD _ k 7 _ 77 (Sv []) U;have O:=aD _ k 8 _ 77 (.slice m segs.length y) P;have J:=(((But.of_below (k:=k) W).setCell 6 (.bool false)).setCell 7 (Sv [])).setCell 8 (.slice m segs.length y);have N:=qI (qI (qI X (a:=(Ad k 6)) h (.bool false)) (a:=(Ad k 7)) h (Sv [])) (a:=(Ad k 8)) h (.slice m segs.length y);go_end0;exact⟨rfl,J,_,O,N⟩
theorem But.mono_own {w:World} {b d:Nat} {e:TypeId} {v:Value} {n:Nat} {c:List Value} (h:w.ownsRow b e 1 v n c) (f:d<=b):w.ownsRow d e 1 v n c:=by
 refine⟨h.1,?_⟩;rcases h.2 with a|⟨g,k,i,a,j,l⟩
 .exact .inl a
 .exact .inr ⟨g,k,i,a,bu f j,l⟩
theorem But.alloc {k:Nat} {a b:World} (h:But k a b) (o:Obj):But k a (b.alloc o):=by refine⟨h.os,h.tape,h.output,by have:=h.size;simp;omega,λj d c=>?_⟩;rw[<-h.block j d c];have:=h.size;simp only[World.alloc,mN];rw[ab (by omega)]
theorem nk (w:World) (o:Obj) (k:Nat) (h:k<w.heap.size):(w.alloc o).heap[k]?=w.heap[k]?:=by simp only[World.alloc,mN];rw[ab (by omega)]
theorem Tryz.Env.same {w w':World} (h:Env w) (hz:w.heap.size<=w'.heap.size) (H:∀g,g<29->w'.heap[g]?=w.heap[g]?):Env w':=by
 have c:=λg i d=>iH (a:=(Ad g i)) (H g d);have b:∀g,g<29->Err g w->Err g w':=by rintro g d ⟨t,v,k⟩;exact⟨t,v,by grind⟩
 obtain⟨m,f⟩:=h.maxLen;refine⟨bu h.size hz,?_,⟨m,by grind⟩,b _ (by omega) h.eEmpty,b _ (by omega) h.eBracket,b _ (by omega) h.eCount,b _ (by omega) h.eLength,b _ (by omega) h.eNought,b _ (by omega) h.eGreat,?_,by rw[c _ 0 (by omega)];exact h.errType⟩
 .intro j e
  rw[c _ j (by omega)];exact h.sets j e
 .have:=h.pow10
  unfold Lib.TabIs at this⊢;rw[<-this];simp only[World.var?,rD,Option.bind_some,H 20 (by omega)]
theorem Tryz.Env2.same {w w':World} (h:Env2 w) (hz:w.heap.size<=w'.heap.size) (H:∀g,g<29->w'.heap[g]?=w.heap[g]?):Env2 w':=by
 have d:=λg i f=>iH (a:=(Ad g i)) (H g f);have b:∀g,g<29->Err g w->Err g w':=by rintro g f ⟨t,v,k⟩;exact⟨t,v,by grind⟩
 refine⟨h.env.same hz H,?_,⟨λc j=>?_,λi e=>⟨?_,?_⟩⟩,b _ (by omega) h.eBase,b _ (by omega) h.eOpaque,b _ (by omega) h.eHost,b _ (by omega) h.eSyntax,b _ (by omega) h.eRange⟩
 .show _=_
  rw[d _ 15 (by omega)];exact h.tz
 .rw[d _ c (by omega)]
  exact h.u8.1 c j
 .rw[d _ (2*i) (by omega)]
  exact(h.u8.2 i e).1
 .rw[d _ (2*i+1) (by omega)]
  exact(h.u8.2 i e).2
theorem Tryz.Env2.but {k:Nat} {w w':World} (h:Env2 w) (a:But k w w') (c:29<=k):Env2 w':=h.same a.size λg b=>a.block g (by have:=h.env.size;omega) (by omega)
def nl (k:Nat) (sc:Bs) (c9 c10 c11 c12:Value) (B:Nat) (o:Except Int (Auth×Moor.Way)) (e:Ending) (w':World):Prop:=
 match o with
 | .error n=>∃x y te ve,e=.returned (.iface 96 (.agg #[.int .i64 n,.string x,.string y,.iface te ve]))
 | .ok (a,y)=>e=.returned .nilIface/\∃v,w'.heap[k]?=some (.cells #[.string ⟨sc.toArray⟩,.string ⟨a.e.toArray⟩,.string ⟨a.d.toArray⟩,.bool a.has,.string ⟨a.h.toArray⟩,.int .i64 a.p,.bool false,.string ⟨#[]⟩,v,c9,c10,c11,c12] 77 (0,0))/\w'.ownsRow B 9 1 v y.g.length (aW y.g)/\y.o=false/\y.text=[]
theorem rk (k:Nat) (c t:Bs) (J G I L H C A s j l m o:Value) (w:World) (ht:t.length<=100000) (M:w.heap[k]?=some (.cells #[.string ⟨c.toArray⟩,J,G,I,L,H,C,A,s,j,l,m,o] 77 (0,0))) (a8:29<=k) (K:Env2 w):Calls prog 246 #[.pointer (some ⟨k,0,none⟩),.string ⟨t.toArray⟩] w fun e w'=>But k w w'/\nl k c j l m o w.heap.size (cu hostTell c t) e w'/\(∀n,cu hostTell c t=.error n->w'.heap[k]?=w.heap[k]?):=by
 have r:=(aT.1 M).1;have O:Hid (CB 281 #[Sv t] w (.tuple #[.string ⟨(bd t).1.toArray⟩,.string ⟨(bd t).2.toArray⟩])):=by refine mR (rn t w) ?_;rintro w' ⟨n,rfl⟩;exact⟨rfl,ko _ _ _⟩
 have hl:=cutSlash_len t;have N:Hid (cu hostTell c t=match gq hostTell (bd t).1 c with| .error e=>.error e| .ok a=>.ok (a,aV c [] (bd t).2)):=rfl;generalize(bd t).1=B at*;generalize(bd t).2=p at*;have u:Hid (∀b,Bl w b->Calls prog 282 #[Sv B,Sv c] b fun e w'=>uR (gq hostTell B c) e/\Bl w w'):=by intro b f;refine(Cj B c b (by omega) (K.below f)).mono ?_;rintro e w' ⟨hr,E⟩;exact⟨hr,f.trans (E.mono f.size)⟩
 have U:Hid (∀b,Bl w b->b.heap[k]?=some (.cells #[Sv c,J,G,I,L,H,C,A,s,j,l,m,o] 77 (0,0))):=fun b f=>(f.block k r).trans M;have a4:Hid (∀(a:Auth) b,But k w b->Env2 b->b.heap[k]?=some (.cells #[Sv c,Sv a.e,Sv a.d,.bool a.has,Sv a.h,Iv a.p,C,A,s,j,l,m,o] 77 (0,0))->Calls prog 163 #[Pt k,.slice none 0 0,Sv p] b fun e w'=>e=.returned (.tuple #[])/\But k w w'/\∃v,w'.heap[k]?=some (.cells #[Sv c,Sv a.e,Sv a.d,.bool a.has,Sv a.h,Iv a.p,.bool false,Sv [],v,j,l,m,o] 77 (0,0))/\w'.ownsRow w.hz 9 1 v (bO c [] p).length (aW (bO c [] p))):=by intro a b f hv W;refine mR (km k c p _ _ _ _ _ C A s j l m o none 0 [] b (by omega) (by simp) (by simp) W (by simp) hv) ?_;rintro w' ⟨E,v,h2,F⟩;exact⟨rfl,f.trans E,v,h2,But.mono_own F f.size⟩
 have HV:=hI K;have S:∀b,Bl w b->Ce b k 0 (Sv c):=fun b f=>aa (U b f) 0;have Q:=hI S;clear S K;cases z:gq hostTell B c with
 |error n=>have D:Hid (cu hostTell c t=.error n):=hI (by rw[N.out,z]);rw[z] at u;go_enter func246,ntmps246;go_wp21;refine mR O.out fun b q=>?_;have d0:=Q b q;go_wp21;refine(u b q).mono ?_;rintro e g ⟨⟨x,y,te,ve,rfl⟩,i⟩;unfold eI;go_wp2;go_ret;rw[D.out];exact⟨(But.of_below i).alloc _,⟨_,_,_,_,rfl⟩,fun _ _=>(nk _ _ k (cq r i.size)).trans (i.block k r)⟩
 |ok a=>have D:Hid (cu hostTell c t=.ok (a,aV c [] p)):=hI (by rw[N.out,z]);rw[z] at u;go_enter func246,ntmps246;go_wp21;refine mR O.out fun b q=>?_;have d0:=Q b q;go_wp21;refine(u b q).mono ?_;rintro e g ⟨Z,i⟩;have a5:e=.returned (.tuple #[.agg #[Sv a.e,Sv a.d,.bool a.has,Sv a.h,Iv a.p],.nilIface]):=Z;subst a5;have d:=U g i;have a0:=hI d;have a3:=hI i;have a2:=cq r i.size;have e1:Ce g k 1 J:=aa d 1;have e2:Ce g k 2 G:=aa d 2;have e3:Ce g k 3 I:=aa d 3;have e4:Ce g k 4 L:=aa d 4;have e5:Ce g k 5 H:=aa d 5;have f1:=aj d 1;have f2:=aj d 2;have f3:=aj d 3;have f4:=aj d 4;have f5:=aj d 5;have g1:=aD g k 1 _ 77 (Sv a.e) a0;have Y:=aD _ k 2 _ 77 (Sv a.d) g1;have V:=aD _ k 3 _ 77 (.bool a.has) Y;have g4:=aD _ k 4 _ 77 (Sv a.h) V;have g5:=aD _ k 5 _ 77 (Iv a.p) g4;have P:=((((((But.of_below (k:=k) a3).setCell 1 (Sv a.e)).setCell 2 (Sv a.d)).setCell 3 (.bool a.has)).setCell 4 (Sv a.h)).setCell 5 (Iv a.p)).alloc (.cells #[Sv a.e,Sv a.d,.bool a.has,Sv a.h,Iv a.p] 71);have T:=a4 a _ P (HV.out.but P a8) ((nk _ _ k (by simpa using a2)).trans g5);have a1:Hid _:=T;clear T;go_wp21;refine mR a1 ?_;rintro X ⟨R,v,F,a6⟩;have HF:Hid (nl k c j l m o w.hz (.ok (a,aV c [] p)) (.returned .nilIface) X):=⟨rfl,v,F,a6,rfl,rfl⟩;have a7:=hI R;clear R;go_wp2;go_ret;rw[D.out];exact⟨a7,HF,fun n h=>by cases h⟩
theorem DZ (o:Option Bs) (m:UInt8) (w:World) (a:(o.getD []).length<4294967281):Calls prog 92 #[.agg (lT o),.string ⟨#[m]⟩] w fun e w'=>e=.returned (.string ⟨(cv m o).toArray⟩)/\Bl w w':=by
 unfold lT;cases o with
 |none=>go_enter func92,ntmps92;go_wp2;go_ret;exact⟨rfl,(ai _ _).alloc .refl _⟩
 |some x=>have c:x.length<4294967281:=a;have b:Hid ((⟨#[m]⟩:ByteArray)++(Bv x)=(Bv (m::x))):=aP [m] x;show Calls prog 92 #[.agg #[.bool true,Sv x],.string ⟨#[m]⟩] w _;go_enter func92,ntmps92;go_wp2;go_ret;exact⟨aB (fun y=>Ending.returned (Value.string y)) b,(ai _ _).alloc .refl _⟩
theorem Ea (a:Auth) (w:World) (x:a.e.length<4294967281) (z:a.d.length<4294967281):Calls prog 150 #[.agg (dP a)] w fun e w'=>e=.returned (.string ⟨(dw a).toArray⟩)/\Bl w w':=by
 obtain⟨b,c,j,m,k⟩:=a;unfold dP;simp only at x z⊢;have n:Hid (∀o:Obj,Bl w (w.alloc o)):=fun o=>(ai _ _).alloc .refl o;by_cases i:c=[]
 .subst i
  by_cases h:b=[]
  .subst h
   have f:Hid (dw ⟨[],[],j,m,k⟩=[]):=rfl;go_enter func150,ntmps150;go_wp2;go_ret;rw[f.out];exact⟨rfl,n _⟩
  .have q:=io b h
   have f:Hid (dw ⟨b,[],j,m,k⟩=b++ [64]):=hI (by unfold dw;rw[ab (by simp),ae h]);have d:=hI (aP b [64]);have l:=al b;obtain⟨s,g⟩:∃s:ByteArray,s=⟨b.toArray⟩:=⟨_,rfl⟩;rw[<-g] at q d l⊢;clear g h;go_enter func150,ntmps150;go_wp2;go_ret;rw[f.out];exact⟨aB (fun y=>Ending.returned (Value.string y)) d,n _⟩
 .have A:=io c i
  have f:Hid (dw ⟨b,c,j,m,k⟩=b++58::(c++ [64])):=hI (by unfold dw;rw[ae i]);have d:Hid (((⟨b.toArray⟩:ByteArray)++⟨#[58]⟩)++⟨c.toArray⟩++⟨#[64]⟩=⟨(b++58::(c++ [64])).toArray⟩):=by show _=_;have v:(⟨b.toArray⟩:ByteArray)++⟨#[58]⟩=⟨(b++ [58]).toArray⟩:=aP b [58];rw[v,aP (b++ [58]) c];have t:(⟨(b++ [58]++c).toArray⟩:ByteArray)++⟨#[64]⟩=⟨((b++ [58]++c)++ [64]).toArray⟩:=aP _ [64];rw[t];simp
  have l:(⟨b.toArray⟩:ByteArray).size=b.length:=al b;have u:(⟨c.toArray⟩:ByteArray).size=c.length:=al c;obtain⟨s,g⟩:∃s:ByteArray,s=⟨b.toArray⟩:=⟨_,rfl⟩;obtain⟨r,p⟩:∃r:ByteArray,r=⟨c.toArray⟩:=⟨_,rfl⟩;rw[<-g] at d l⊢;rw[<-p] at A d u⊢;clear g p i;go_enter func150,ntmps150;go_wp2;go_ret;rw[f.out];exact⟨aB (fun y=>Ending.returned (Value.string y)) d,n _⟩
theorem below_grow (w:World) (n:Nat) (a:Array Obj):Bl w (Go.Sort.grow (w.drewN n) a):=by
 refine⟨rfl,rfl,rfl,?_,λj b=>?_⟩
 .simp
 .show(w.heap++a)[j]?=w.heap[j]?
  rw[Array.getElem?_append_left b]
theorem Eb (p:Nat):Lib.itoa (p:Int)=Lib.decDigits p:=by rfl
theorem nu (n:Nat) (h:n<=65535):(Lib.decDigits n).length<=10:=by rw[<-nw 9 n (by omega)];exact kp 10 9 n
theorem vU (a:Auth) (w:World) (B:a.h.length<4294967281) (t:a.p= -1\/(0<=a.p/\a.p<=65535)) (u:Env2 w):Calls prog 127 #[.agg (dP a)] w fun e w'=>e=.returned (.string ⟨(dT a).toArray⟩)/\Bl w w':=by
 obtain⟨i,g,f,b,j⟩:=a;unfold dP;simp only at B t⊢;have v:Hid (∀o:Obj,Bl w (w.alloc o)):=fun o=>(ai _ _).alloc .refl o;by_cases h:j= -1
 .subst h
  have p:Hid (dT ⟨i,g,f,b, -1⟩=b):=hI (by unfold dT;rw[ae rfl]);go_enter func127,ntmps127;go_wp2;go_ret;rw[p.out];exact⟨rfl,v _⟩
 .obtain⟨n,rfl⟩:∃n:Nat,j=(n:Int):=⟨j.toNat,by omega⟩
  have C:n<=65535:=by omega
  have p:Hid (dT ⟨i,g,f,b,(n:Int)⟩=b++58::Lib.decDigits n):=by show _=_;unfold dT;rw[ab h];show b++58::Lib.decDigits ((n:Int).toNat)=_;rw[kV]
  have F:=aL.2 h;obtain⟨W,d⟩:=am (w.alloc (.cells #[Sv i,Sv g,.bool f,Sv b,Iv (n:Int)] 71));have s:Hid (Bl w W):=by rw[d];exact v _
  have H:W.heap.size=w.heap.size+1:=by rw[d];simp
  have E:Hid (∀w0,Bl W w0->CQ 106 #[Iv (n:Int)] w0 (Sv (Lib.decDigits n)) (Below W.heap.size W)):=by intro w0 m;have A:=(u.below (s.out.trans (m.mono (by omega)))).env;refine mR (strconv_Itoa (n:Int) (by omega) (by omega) w0 A.pow10) ?_;rintro w' ⟨k,M,rfl⟩;exact⟨by rw[Eb],m.trans ((below_grow _ _ _).mono m.size)⟩
  have x:Hid (∀c,Bl W c->Ce c w.heap.size 3 (Sv b)/\Ce c w.heap.size 4 (Iv (n:Int))):=by
   intro c l;have r:c.heap[w.heap.size]?=some (.cells #[Sv i,Sv g,.bool f,Sv b,Iv (n:Int)] 71 (0,0)):=by rw[l.block w.heap.size (by omega),d];exact cj w _ _
   exact⟨aa r 3,aa r 4⟩
  have z:Hid ((Bv b)++⟨#[58]⟩++(Bv (Lib.decDigits n))=(Bv (b++58::Lib.decDigits n))):=by show _=_;have l:=aP b [58];rw[l,aP (b++ [58]) _];simp
  have G:=nu n C;generalize Lib.decDigits n=D at*;obtain⟨L,I⟩:=x W (ai _ _);clear u t h;go_enter func127,ntmps127;go_wp2_with fail;rw[<-d];clear d;go_region_with (go_at_call 106;refine af (E _ (by exact du rfl rfl rfl rfl)) ?_;rintro e c ⟨rfl,q⟩;obtain⟨K,J⟩:=x c q);all_goals
   go_wp2;go_ret;rw[p.out];exact⟨aB (fun y=>Ending.returned (Value.string y)) z,s.out.trans (q.mono (by omega))⟩
def oL:Bs:=[108,111,99,97,108,104,111,115,116]
theorem vi (t:Bs) (w:World) (q:t.length<4294967281) (k:Env2 w):Calls prog 211 #[.string ⟨t.toArray⟩] w fun e w'=>lN 4 (dQ hostTell t) e/\Bl w w':=by
 have f:Hid (Calls Tryz.prog 32 #[.string ⟨t.toArray⟩,.bool true] w fun e w'=>pr ⟨t.toArray⟩ (hostTell t true) e/\Below w.heap.size w w'):=rH ⟨t.toArray⟩ true w (by rw[al];exact q) k.env k.tz;clear k q;by_cases g:t=[]
 .subst g
  have a:Hid (dQ hostTell []=some []):=rfl;have p:=nc;go_enter Tryz.func211,Tryz.ntmps211;go_wp2;go_ret2;rw[a.out];exact⟨rfl,ai _ _⟩
 .have a:Hid (dQ hostTell t=match hostTell t true with|none=>none|some h=>if h=oL then some [] else some h):=by
   show _=_;unfold dQ;rw[ab g];rfl
  have p:=io t g;generalize hostTell t true=o at*;obtain⟨s,u⟩:∃s:ByteArray,s=⟨t.toArray⟩:=⟨_,rfl⟩;rw[<-u] at p f⊢;clear g u;cases o with
  |none=>have b:=hI a;clear a;go_enter func211,ntmps211;go_wp2_with fail;refine f.out.mono ?_;rintro e v ⟨⟨x,y,rfl⟩,d⟩;go_wp2;go_ret2;rw[b.out];exact⟨⟨_,_,_,_,rfl⟩,d⟩
  |some h=>
   by_cases c:h=oL
   .have b:Hid (dQ hostTell t=some []):=by
     have:=a;simp only at this;rwa[ae c] at this
    subst c;clear a;unfold oL at f;go_enter func211,ntmps211;go_wp2_with fail;refine f.out.mono ?_;rintro e v ⟨i,d⟩;have l:e=.returned (.tuple #[.string ⟨#[108,111,99,97,108,104,111,115,116]⟩,.nilIface]):=i;subst l;go_wp2;go_ret2;rw[b.out];exact⟨rfl,d⟩
   .have b:Hid (dQ hostTell t=some h):=by
     have:=a;simp only at this;rwa[ab c] at this
    have m:=dV h _ c;unfold oL at m;obtain⟨r,j⟩:∃r:ByteArray,r=⟨h.toArray⟩:=⟨_,rfl⟩;rw[<-j] at m;have n:=hI j;clear a c j;go_enter func211,ntmps211;go_wp2_with fail;refine f.out.mono ?_;rintro e v ⟨i,d⟩;have l:e=.returned (.tuple #[.string r,.nilIface]):=(by rw[n.out];exact i);subst l;clear i;go_wp2;go_ret2;rw[b.out,n.out];exact⟨rfl,d⟩
def oM (k:Nat) (sc:Bs) (c1 c2 c3 c5 c9 c10 c11 c12:Value) (B:Nat) (o:Except Int (Value×List Bs)) (e:Ending) (w':World):Prop:=
 match o with
 | .error n=>∃x y te ve,e=.returned (.iface 96 (.agg #[.int .i64 n,.string x,.string y,.iface te ve]))
 | .ok (h,segs)=>e=.returned .nilIface/\∃v,w'.heap[k]?=some (.cells #[.string ⟨sc.toArray⟩,c1,c2,c3,h,c5,.bool false,.string ⟨#[]⟩,v,c9,c10,c11,c12] 77 (0,0))/\w'.ownsRow B 9 1 v segs.length (aW segs)
def ji (sc t:Bs) (c4:Value):Except Int (Value×List Bs):=
 if aC (bd t).1=true then .ok (c4,bO sc [] t)
 else match dQ hostTell (bd t).1 with
  |none=>.error 4
  |some h=>.ok (.string ⟨h.toArray⟩,bO sc [] (bd t).2)
theorem CH (k:Nat) (b t:Bs) (m o p c l I G K j f g i:Value) (w:World) (ht:t.length<=100000) (X:w.heap[k]?=some (.cells #[.string ⟨b.toArray⟩,m,o,p,c,l,I,G,K,j,f,g,i] 77 (0,0))) (a0:29<=k) (Z:Env2 w):Calls prog 278 #[.pointer (some ⟨k,0,none⟩),.string ⟨t.toArray⟩] w fun e w'=>But k w w'/\oM k b m o p l j f g i w.heap.size (ji b t c) e w'/\(∀n,ji b t c=.error n->w'.heap[k]?=w.heap[k]?):=by
 have V:=(aT.1 X).1;have hl:=cutSlash_len t;have Q:Hid (CB 281 #[Sv t] w (.tuple #[.string ⟨(bd t).1.toArray⟩,.string ⟨(bd t).2.toArray⟩])):=by refine mR (rn t w) ?_;rintro w' ⟨n,rfl⟩;exact⟨rfl,ko _ _ _⟩
 have T:Hid (ji b t c=if aC (bd t).1=true then .ok (c,bO b [] t) else match dQ hostTell (bd t).1 with|none=>.error 4|some h=>.ok (Sv h,bO b [] (bd t).2)):=rfl;generalize(bd t).1=r at*;generalize(bd t).2=H at*;have A:=hI fun a=>oK r a (by omega);have J:Hid (∀a,Bl w a->Calls prog 211 #[Sv r] a fun e w'=>lN 4 (dQ hostTell r) e/\Bl w w'):=by intro a d;refine(vi r a (by omega) (Z.below d)).mono ?_;rintro e w' ⟨hr,N⟩;exact⟨hr,d.trans (N.mono d.size)⟩
 have Y:Hid (∀a,Bl w a->a.heap[k]?=some (.cells #[Sv b,m,o,p,c,l,I,G,K,j,f,g,i] 77 (0,0))):=fun a d=>(d.block k V).trans X;have W:Hid (∀(h:Value) (u:Bs) a,u.length<=100000->But k w a->a.heap[k]?=some (.cells #[Sv b,m,o,p,h,l,I,G,K,j,f,g,i] 77 (0,0))->Calls prog 163 #[Pt k,.slice none 0 0,Sv u] a fun e w'=>e=.returned (.tuple #[])/\But k w w'/\∃v,w'.heap[k]?=some (.cells #[Sv b,m,o,p,h,l,.bool false,Sv [],v,j,f,g,i] 77 (0,0))/\w'.ownsRow w.hz 9 1 v (bO b [] u).length (aW (bO b [] u))):=by intro h u a hu d hh;refine mR (km k b u _ _ _ _ _ I G K j f g i none 0 [] a hu (by simp) (by simp) hh (by simp) (Z.but d a0)) ?_;rintro w' ⟨N,v,h2,B⟩;exact⟨rfl,d.trans N,v,h2,But.mono_own B d.size⟩
 have a1:H.length<=100000:=by omega
 cases D:aC r with
 |true=>have z:Hid (ji b t c=.ok (c,bO b [] t)):=hI (by rw[T.out,ae D]);rw[D] at A;go_enter func278,ntmps278;go_wp21;refine mR Q.out fun a s=>?_;go_wp21;refine mR (A a) fun q E=>?_;obtain rfl:=E.symm;have O:Hid _:=W c t a ht (But.of_below s) (Y a s);go_wp21;refine mR O ?_;rintro P ⟨C,v,B,S⟩;have U:Hid (oM k b m o p l j f g i w.hz (.ok (c,bO b [] t)) (.returned .nilIface) P):=⟨rfl,v,B,S⟩;have M:=hI C;clear C;go_wp2;go_ret;rw[z.out];exact⟨M,U,fun n h=>by cases h⟩
 |false=>
  rw[D] at A;cases L:dQ hostTell r with
  |none=>have z:Hid (ji b t c=.error 4):=hI (by rw[T.out,ab (by simp[D]),L]);rw[L] at J;go_enter func278,ntmps278;go_wp21;refine mR Q.out fun a s=>?_;go_wp21;refine mR (A a) fun q E=>?_;obtain rfl:=E.symm;go_wp21;refine(J a s).mono ?_;rintro e q ⟨⟨x,y,te,ve,rfl⟩,F⟩;go_wp2;go_ret;rw[z.out];exact⟨But.of_below F,⟨_,_,_,_,rfl⟩,fun _ _=>F.block k V⟩
  |some h=>have z:Hid (ji b t c=.ok (Sv h,bO b [] H)):=hI (by rw[T.out,ab (by simp[D]),L]);rw[L] at J;go_enter func278,ntmps278;go_wp21;refine mR Q.out fun a s=>?_;go_wp21;refine mR (A a) fun q E=>?_;obtain rfl:=E.symm;go_wp21;refine(J a s).mono ?_;rintro e q ⟨he,F⟩;have a2:e=.returned (.tuple #[Sv h,.nilIface]):=he;subst a2;have R:=Y q F;have e4:Ce q k 4 c:=aa R 4;have f4:=aj R 4;have g4:=aD q k 4 _ 77 (Sv h) R;have O:Hid _:=W (Sv h) H _ a1 ((But.of_below (k:=k) F).setCell 4 (Sv h)) g4;go_wp21;refine mR O ?_;rintro P ⟨C,v,B,S⟩;have U:Hid (oM k b m o p l j f g i w.hz (.ok (Sv h,bO b [] H)) (.returned .nilIface) P):=⟨rfl,v,B,S⟩;have M:=hI C;clear C;go_wp2;go_ret;rw[z.out];exact⟨M,U,fun n h=>by cases h⟩
theorem Di (l:Bs) (w:World) (p:l.length<=100000) (b:Env w):Calls prog 283 #[.string ⟨l.toArray⟩] w fun e w'=>e=.returned (.string ⟨(dd l).toArray⟩)/\Bl w w':=by
 have o:=hI (lu (Bv l) 0 w (by grind[al]) b.sets (by have:=b.size;omega));have q:=iT 0 l;have k:Hid (∀a,Env a->CB 107 #[Sv (ah 0 l),.string ⟨#[32]⟩,.string ⟨#[37,50,48]⟩] a (Sv (dd l))):=by
  intro a g;obtain⟨m,i⟩:=g.maxLen;have d:=rl (Bv (ah 0 l)) ⟨#[32]⟩;rw[al] at d;refine mR (strings_ReplaceAll (Bv (ah 0 l)) ⟨#[32]⟩ ⟨#[37,50,48]⟩ m a (by grind[al]) i (by decide) (by grind[al])) fun w' f=>?_;refine⟨?_,f⟩;have h:Lib.replaceAll (Bv (ah 0 l)).L (⟨#[32]⟩:ByteArray).L (⟨#[37,50,48]⟩:ByteArray).L=dd l:=by show Lib.replaceAll (ah 0 l) [32] [37,50,48]=_;rw[oJ];rfl
  rw[h]
 have n:=hI b;clear b;go_enter func283,ntmps283;go_wp21;refine mR o.out fun a c=>?_;go_wp21;refine mR (k a (n.out.below c)) fun r j=>?_;go_wp2;go_ret;exact⟨rfl,c.trans (j.mono c.size)⟩
theorem DX (x:Nat) (W:World):Calls prog 153 #[.int .i32 (x:Int)] W fun e w'=>e=.returned (.bool (eo x))/\∃q,w'=W.drewN q:=by
 have a:Hid (decide ((x:Int)<33)=eo x):=by
  show _=_;unfold eo;by_cases h:x<33
  .grind
  .grind
 go_enter func153,ntmps153;go_wp2;go_ret;rw[<-a.out];exact⟨rfl,0,rfl⟩
theorem DY (l:Bs) (w:World) (r:l.length<4294967281) (c:Env2 w):Calls prog 94 #[.string ⟨l.toArray⟩] w fun e w'=>e=.returned (.string ⟨(dE l).toArray⟩)/\Bl w w':=by
 have m:Hid (CB 152 #[Sv l,.func (.func 153) #[] #[]] w (Sv (fp blankB l))):=by
  refine mR (strings_TrimFunc 153 #[] (enters_of func153 (by kernel_rfl) rfl) eo (Bv l) w (by grind[al]) c.u8 (fun W x _=>DX x W)) fun w' i=>?_;refine⟨?_,i⟩;have h:=Ej (Bv l);have f:Lib.trimF eo (Bv l)=(Bv (fp blankB l)):=by apply lg;rw[h]
  rw[f]
 have q:(fp blankB l).length<=l.length:=by unfold fp;have d:∀x:Bs,(x.dropWhile blankB).length<=x.length:=fun x=>(mJ _).length_le;have p:=d l;have k:=d (l.dropWhile blankB).reverse;rw[qJ] at k⊢;omega
 have g:Hid (∀a,Env a->CB 61 #[Sv (fp blankB l)] a (Sv (dE l))):=fun a j=>vq (fp blankB l) a (by omega) j;have o:=hI c;clear c;go_enter func94,ntmps94;go_wp21;refine mR m.out fun a b=>?_;go_wp21;refine mR (g a (o.out.below b).env) fun s n=>?_;go_wp2;go_ret;exact⟨rfl,b.trans (n.mono b.size)⟩
def Dk (w:World) (v:Value) (segs:List Bs):Prop:=∃sp cap,v=.slice sp segs.length cap/\segs.length<=cap/\cap<=maxLen/\(segs≠[]->∃g,sp=some ⟨g,0,none⟩/\∀(j:Nat) x,segs[j]?=some x->w.cell? ⟨g,j,none⟩=some (.string ⟨x.toArray⟩))
def lh (w:World) (v:Value):Prop:=∀g n c,v=.slice (some ⟨g,0,none⟩) n c->∃cur fr,w.heap[g]?=some (.cells cur 9 fr)
def bh (w:World) (v:Value) (segs:List Bs):Prop:=Dk w v segs/\lh w v
theorem Dl {w:World} {B:Nat} {v:Value} {n:Nat} {b:List Value} (h:w.ownsRow B 9 1 v n b):lh w v:=by
 intro g n c a;obtain⟨rfl,_⟩|⟨e,f,d,rfl,_,i,_⟩:=h.2
 .cases a
 .grind
theorem jN {w:World} {B:Nat} {v:Value} {segs:List Bs} (h:w.ownsRow B 9 1 v segs.length (aW segs)):bh w v segs:=by refine⟨?_,Dl h⟩;obtain⟨a,f,b,m,c,k⟩:=dF h;refine⟨a,f,b,m,c,λd=>?_⟩;obtain⟨g,l,e⟩:=k (iK.2 d);refine⟨g,l,λj x i=>e j _ ?_⟩;unfold aW;rw[fy,i];rfl
def oQ (k:Nat) (sc:Bs) (c9 c10 c11 c12:Value) (o:Except Int (Auth×Moor.Way)) (e:Ending) (w':World):Prop:=
 match o with
 | .error n=>∃x y te ve,e=.returned (.iface 96 (.agg #[.int .i64 n,.string x,.string y,.iface te ve]))
 | .ok (a,y)=>e=.returned .nilIface/\∃v,w'.heap[k]?=some (.cells #[.string ⟨sc.toArray⟩,.string ⟨a.e.toArray⟩,.string ⟨a.d.toArray⟩,.bool a.has,.string ⟨a.h.toArray⟩,.int .i64 a.p,.bool y.o,.string ⟨y.text.toArray⟩,v,c9,c10,c11,c12] 77 (0,0))/\bh w' v y.g
theorem vu {k:Nat} {c:Bs} {g d b f:Value} {B:Nat} {o:Except Int (Auth×Moor.Way)} {e:Ending} {w':World} (h:nl k c g d b f B o e w'):oQ k c g d b f o e w':=by
 cases o with
 |error n=>exact h
 |ok p=>obtain⟨a,y⟩:=p;obtain⟨l,v,q,i,m,j⟩:=h;refine⟨l,v,?_,jN i⟩;rw[m,j];exact q
theorem Dm {k:Nat} {c:Bs} {d f b g:Value} {B:Nat} {o:Except Int (Auth×Moor.Way)} {e:Ending} {w':World} (h:nl k c d f b g B o e w'):∃v,e=.returned v:=by
 cases o with
 |error n=>obtain⟨x,y,j,i,rfl⟩:=h;exact⟨_,rfl⟩
 |ok p=>obtain⟨a,y⟩:=p;obtain⟨rfl,_⟩:=h;exact⟨_,rfl⟩
theorem jO (m:Bs):Lib.hasPrefix m [47,47]=List.isPrefixOf [47,47] m:=rfl
theorem Dn (k:Nat) (a m:Bs) (t q A i b d f:Value) (w:World) (J:m.length<=100000) (C:w.heap[k]?=some (.cells #[.string ⟨a.toArray⟩,.string ⟨#[]⟩,.string ⟨#[]⟩,.bool false,.string ⟨#[]⟩,.int .i64 (-1),t,q,A,i,b,d,f] 77 (0,0))) (X:29<=k) (F:Env2 w):Calls prog 248 #[.pointer (some ⟨k,0,none⟩),.string ⟨m.toArray⟩] w fun e w'=>But k w w'/\oQ k a i b d f (dR hostTell a m) e w'/\(∀n,dR hostTell a m=.error n->w'.heap[k]?=w.heap[k]?):=by
 have M:=(aT.1 C).1;have z:=hI (strings_CutPrefix (Bv m) ⟨#[47,47]⟩ w);cases o:List.isPrefixOf [47,47] m with
 |true=>
  have u:Hid (dR hostTell a m=cu hostTell a (m.drop 2)):=hI (by unfold dR;rw[ae o]);have P:Lib.trimPrefix m [47,47]=m.drop 2:=by unfold Lib.trimPrefix;rw[jO,o];rfl
  rw[P,jO,o] at z;have a1:=hI (rk k a (m.drop 2) _ _ _ _ _ t q A i b d f w (by grind) C X F);go_enter func248,ntmps248;go_wp21;refine mR z.out fun l y=>?_;obtain rfl:=y.symm;go_wp21;refine a1.out.mono ?_;rintro e p ⟨G,I,L⟩;obtain⟨ev,rfl⟩:=Dm I;have Z:=hI L;have x:=hI (vu I);have HB:=hI G;clear G L;go_wp2;go_ret;rw[u.out];exact⟨HB,x,Z⟩
 |false=>
  rw[jO,o] at z;have B:=hI (strings_HasPrefix (Bv m) ⟨#[47]⟩ w);by_cases s:m.head? =some 47
  .have D:Lib.hasPrefix m [47]=true:=by
    cases m with
    |nil=>cases s
    |cons c r=>simp at s;subst s;rfl
   have u:Hid (dR hostTell a m=.ok (noAuth,aV a [] m)):=hI (by unfold dR;rw[ab (by simp[o]),ae s]);have N:Hid (Calls prog 163 #[Pt k,.slice none 0 0,Sv m] w fun e w'=>e=.returned (.tuple #[])/\But k w w'/\∃v,w'.heap[k]?=some (.cells #[Sv a,Sv [],Sv [],.bool false,Sv [],Iv (-1),.bool false,Sv [],v,i,b,d,f] 77 (0,0))/\w'.ownsRow w.hz 9 1 v (bO a [] m).length (aW (bO a [] m))):=km k a m _ _ _ _ _ t q A i b d f none 0 [] w J (by simp) (by simp) C (by simp) F;rw[D] at B;go_enter func248,ntmps248;go_wp21;refine mR z.out fun l y=>?_;obtain rfl:=y.symm;go_wp21;refine mR B.out fun l Q=>?_;obtain rfl:=Q.symm;go_wp21;refine mR N.out ?_;rintro R ⟨H,v,W,Y⟩;have x:Hid (oQ k a i b d f (.ok (noAuth,aV a [] m)) (.returned .nilIface) R):=⟨rfl,v,W,jN Y⟩;have O:=hI H;clear H;go_wp2;go_ret;rw[u.out];exact⟨O,x,fun n h=>by cases h⟩
  .have D:Lib.hasPrefix m [47]=false:=by
    cases m with
    |nil=>rfl
    |cons c r=>grind[Lib.hasPrefix]
   have u:Hid (dR hostTell a m=.ok (noAuth,⟨true,dd m,[]⟩)):=hI (by unfold dR;rw[ab (by simp[o]),ab s]);have S:=hI (Di m w J F.env);have HK:Hid (∀l,Bl w l->l.heap[k]?=some (.cells #[Sv a,Sv [],Sv [],.bool false,Sv [],Iv (-1),t,q,A,i,b,d,f] 77 (0,0))):=fun l V=>(V.block k M).trans C;rw[D] at B;generalize dd m=E at*;go_enter func248,ntmps248;go_wp21;refine mR z.out fun l y=>?_;obtain rfl:=y.symm;go_wp21;refine m0 B.out ?_;go_wp21;refine mR S.out fun p K=>?_;have j:=HK p K;have d6:Ce p k 6 t:=aa j 6;have d7:Ce p k 7 q:=aa j 7;have d8:Ce p k 8 A:=aa j 8;have f6:=aj j 6;have f7:=aj j 7;have f8:=aj j 8;have g6:=aD p k 6 _ 77 (.bool true) j;have U:=aD _ k 7 _ 77 (Sv E) g6;have T:=aD _ k 8 _ 77 (.slice none 0 0) U;have a0:Hid _:=(((But.of_below (k:=k) K).setCell 6 (.bool true)).setCell 7 (Sv E)).setCell 8 (.slice none 0 0);have x:Hid (oQ k a i b d f (.ok (noAuth,⟨true,E,[]⟩)) (.returned .nilIface) _):=⟨rfl,.slice none 0 0,T,⟨none,0,rfl,.refl,aR _,fun h=>absurd rfl h⟩,fun g n c h=>by cases h⟩;go_wp2;go_ret;rw[u.out];exact⟨a0,x,fun n h=>by cases h⟩
def av (a:Adr) (v:Value):Array Value:=#[.string ⟨a.s.toArray⟩,.string ⟨a.t.e.toArray⟩,.string ⟨a.t.d.toArray⟩,.bool a.t.has,.string ⟨a.t.h.toArray⟩,.int .i64 a.t.p,.bool a.w.o,.string ⟨a.w.text.toArray⟩,v,.bool a.q.isSome,.string ⟨(a.q.getD []).toArray⟩,.bool a.f.isSome,.string ⟨(a.f.getD []).toArray⟩]
theorem nm {w:World} {a:Go.Addr} {v:Value} (h:w.cell? a=some v):a.block<w.heap.size:=by simp_all[World.block_lt_of_cell?]
theorem CX (a:Adr) (v:Value) (w:World) (A:bh w v a.w.g):Calls prog 91 #[.agg (av a v)] w fun e w'=>e=.returned (.string ⟨(fT a).toArray⟩)/\Bl w w':=by
 obtain⟨j,⟨m,k,u,i,h⟩,⟨l,f,segs⟩,d,fr⟩:=a;unfold av;simp only at A⊢;have q:Hid (∀o:Obj,Bl w (w.alloc o)):=fun o=>(ai _ _).alloc .refl o;obtain⟨⟨M,H,rfl,G,E,t⟩,_⟩:=A;unfold maxLen at E;have b:Hid (fT ⟨j,⟨m,k,u,i,h⟩,⟨l,f,segs⟩,d,fr⟩=if u=false/\1<segs.length/\segs.head? =some [] then [47,46] else []):=rfl;generalize d.isSome=N at*;generalize d.getD []=I at*;generalize fr.isSome=L at*;generalize fr.getD []=J at*;cases u with
 |true=>have c:Hid (fT ⟨j,⟨m,k,true,i,h⟩,⟨l,f,segs⟩,d,fr⟩=[]):=hI (by rw[b.out,ab (by simp)]);clear b t;go_enter func91,ntmps91;go_wp2;go_ret;rw[c.out];exact⟨rfl,q _⟩
 |false=>
  by_cases z:1<segs.length
  .obtain⟨x,r⟩:∃x,segs[0]?=some x:=⟨segs[0],bY (by omega)⟩
   have p:segs.head? =some x:=(by rw[mO];exact r);obtain⟨g,rfl,B⟩:=t (by grind);have C:=B 0 x r;have K:=nm C;clear t B;by_cases n:x=[]
   .subst n
    have c:Hid (fT ⟨j,⟨m,k,false,i,h⟩,⟨l,f,segs⟩,d,fr⟩=[47,46]):=hI (by rw[b.out,ae ⟨rfl,z,p⟩]);clear b p r;go_enter func91,ntmps91;go_wp2;go_ret;rw[c.out];exact⟨rfl,q _⟩
   .have c:Hid (fT ⟨j,⟨m,k,false,i,h⟩,⟨l,f,segs⟩,d,fr⟩=[]):=hI (by rw[b.out,p,ab (by simp[n])])
    have F:=io x n;obtain⟨s,D⟩:∃s:ByteArray,s=⟨x.toArray⟩:=⟨_,rfl⟩;rw[<-D] at F C;clear b p r n D;go_enter func91,ntmps91;go_wp2;go_ret;rw[c.out];exact⟨rfl,q _⟩
  .have c:Hid (fT ⟨j,⟨m,k,false,i,h⟩,⟨l,f,segs⟩,d,fr⟩=[]):=hI (by rw[b.out,ab (fun y=>z y.2.1)])
   clear b t;go_enter func91,ntmps91;go_wp2;go_ret;rw[c.out];exact⟨rfl,q _⟩
theorem Du (segs:List Bs) (q:Nat) (x:Bs) (h:segs[q]?=some x):bZ (segs.take (q+1))=(bZ (segs.take q)++ [47])++x:=by grind[List.take_add_one,bZ]
theorem vz (segs:List Bs) (c:∀x∈segs,x.length<=1000000) (q:Nat):(bZ (segs.take q)).length<=1000001*q:=by
 have b:∀l:List Bs,(∀x∈l,x.length<=1000000)->(bZ l).length<=1000001*l.length:=by
  intro l;induction l with
  |nil=>simp[bZ]
  |cons a l e=>grind[bZ]
 have:=b (segs.take q) (λx h=>c x (uh h));rw[cL] at this;have d:1000001*min q segs.length<=1000001*q:=Nat.mul_le_mul_left _ (by omega);omega
theorem vA (y:Moor.Way) (v:Value) (w:World) (D:bh w v y.g) (S:y.g.length<=10000000) (a:∀x∈y.g,x.length<=1000000):Calls prog 59 #[.agg #[.bool y.o,.string ⟨y.text.toArray⟩,v]] w fun e w'=>e=.returned (.string ⟨(dU y).toArray⟩)/\Bl w w':=by
 obtain⟨P,b,segs⟩:=y;simp only at D S a⊢;obtain⟨⟨f,k,rfl,a1,O,t⟩,_⟩:=D;unfold maxLen at O;cases P with
 |true=>have r:Hid (dU ⟨true,b,segs⟩=b):=rfl;clear t;go_enter func59,ntmps59;go_wp2;go_ret;rw[r.out];exact⟨rfl,(ai _ _).alloc .refl _⟩
 |false=>
  have r:Hid (dU ⟨false,b,segs⟩=bZ segs):=rfl;have K:Hid (∀(j:Nat) x,segs[j]?=some x->∃g,f=some (Ad g 0)/\Ce w g j (Sv x)):=by intro j x l;obtain⟨g,hg,N⟩:=t (by intro h;rw[h] at l;simp at l);exact⟨g,hg,N j x l⟩
  have Z:=hI (vz segs a);have Q:=hI a;obtain⟨W,c⟩:=am (w.alloc (.cells #[.bool false,Sv b,.slice f segs.length k] 73));have F:Hid (Bl w W):=by rw[c];exact(ai _ _).alloc .refl _
  have B:W.heap.size=w.heap.size+1:=by rw[c];simp
  have a3:Ce W w.heap.size 2 (.slice f segs.length k):=by
   have:W.heap[w.heap.size]?=some (.cells #[.bool false,Sv b,.slice f segs.length k] 73 (0,0)):=by rw[c];exact cj w _ _
   exact aa this 2
  clear t a;go_enter func59,ntmps59;go_wp2;rw[<-c];have U:Hid (Lib.IsBuilderF 142 5 (w.heap.size+1) (w.heap.size+1) (Lib.byteCells []) (W.alloc (.cells #[.pointer none,.slice none 0 0] 142))):=by have h:=By (Bz 142 5 W);rwa[B] at h
  have T:Hid (Below (w.heap.size+1) W (W.alloc (.cells #[.pointer none,.slice none 0 0] 142))):=(ai _ _).alloc (by omega) _;clear c;go_loopw [13] (fun i wr=>∃q:Nat,q<=segs.length/\i=Iv q/\Lib.IsBuilderF 142 5 (w.heap.size+1) (w.heap.size+1) (Lib.byteCells (bZ (segs.take q))) wr/\Below (w.heap.size+1) W wr/\w.heap.size+1<wr.heap.size) (fun i _=>segs.length-(intOf i).toNat)
  case atStart=>exact⟨0,aR _,rfl,U,T,by simp[B]⟩
  case round=>
   obtain⟨q,hq,rfl,hI,A,hz⟩:=hrel;have o:Hid (Below (w.heap.size+1) W wr):=A;have a4:=Z q;clear A;by_cases L:q<segs.length
   .obtain⟨x,a⟩:∃x,segs[q]?=some x:=⟨segs[q],bY L⟩
    obtain⟨g,H,n⟩:=K q x a;subst H;have M:g<w.heap.size:=nm n;have a2:wr.cell? ⟨g,q,none⟩=some (.string ⟨x.toArray⟩):=by rw[o.out.cell (p:=⟨g,q,none⟩) (show g<w.heap.size+1 by omega),F.out.cell (p:=⟨g,q,none⟩) M];exact n
    have a5:=Q x (ef a);have I:Hid (bZ (segs.take (q+1))=(bZ (segs.take q)++ [47])++x):=Du segs q x a;generalize bZ (segs.take q)=E at*;clear a n;go_wp2_with fail;refine mR (Builder_WriteString_k (w.heap.size+1) (w.heap.size+1) _ ⟨#[47]⟩ wr hI (by rw[jG];show _+1<=_;omega) (by omega)) ?_;rintro u ⟨C,m,_⟩;have J:Lib.IsBuilderF 142 5 (w.heap.size+1) (w.heap.size+1) (Lib.byteCells (E++ [47])) u:=(by rw[jH];exact .inr C);have X:=cq hz m.size;have Y:Hid (Below (w.heap.size+1) W u):=o.out.trans m;clear C m;go_wp2_with fail;refine mR (Builder_WriteString_k (w.heap.size+1) (w.heap.size+1) _ (Bv x) u J (by grind[Lib.byteCells_length,al]) (by omega)) ?_;rintro s ⟨z,d,_⟩;have V:Lib.IsBuilderF 142 5 (w.heap.size+1) (w.heap.size+1) (Lib.byteCells ((E++ [47])++x)) s:=(by rw[jH];exact .inr z);have R:=cq X d.size;have a0:Hid (Below (w.heap.size+1) W s):=Y.out.trans d;clear z d;go_wp2;go_roundw
    case rel=>exact⟨q+1,by omega,by go_num,by rw[I.out];exact V,a0,R⟩
    case measure=>(simp[intOf];try omega)
   .have G:Hid (bZ (segs.take q)=bZ segs):=by show _=_;rw[cg (by omega)]
    go_wp2_with(go_at_call 97;refine(Builder_String_any_k (w.heap.size+1) (w.heap.size+1) _ _ hI (by omega)).mono ?_);rintro e s ⟨rfl,_,d,_⟩;go_wp2;go_ret;rw[r.out,<-G.out];exact⟨rfl,F.out.trans ((o.out.trans d).mono (by omega))⟩
def le (k:Nat) (v:Value):Prop:=∀g n c,v=.slice (some ⟨g,0,none⟩) n c->g≠k
theorem CT {k:Nat} {w w':World} {v:Value} (h:lh w v) (e:But k w w') (f:le k v):lh w' v:=by intro g n c a;obtain⟨d,fr,b⟩:=h g n c a;exact⟨d,fr,(e.block g (aT.1 b).1 (f g n c a)).trans b⟩
theorem CU {w w':World} {v:Value} (h:lh w v) (d:Bl w w'):lh w' v:=by intro g n c e;obtain⟨b,fr,a⟩:=h g n c e;exact⟨b,fr,(d.block g (aT.1 a).1).trans a⟩
theorem iO {k:Nat} {w:World} {v:Value} {b:Array Value} {t:TypeId} {fr:Nat×Nat} (h:lh w v) (i:w.heap[k]?=some (.cells b t fr)) (f:t≠9):le k v:=by intro g n c d e;subst e;obtain⟨j,l,a⟩:=h g n c d;rw[i] at a;simp only[kU,Obj.cells.injEq] at a;exact f a.2.1
theorem gp {k:Nat} {w w':World} {v:Value} {segs:List Bs} (h:bh w v segs) (b:But k w w') (c:le k v):bh w' v segs:=by obtain⟨⟨d,m,rfl,q,e,o⟩,f⟩:=h;refine⟨⟨d,m,rfl,q,e,λi=>?_⟩,CT f b c⟩;obtain⟨g,rfl,n⟩:=o i;refine⟨g,rfl,λj x p=>?_⟩;have:=n j x p;have l:=nm this;rw[<-this];exact iH (a:=(Ad g j)) (b.block g l (c g _ _ rfl))
theorem ei {w w':World} {v:Value} {segs:List Bs} (h:bh w v segs) (b:Bl w w'):bh w' v segs:=by obtain⟨⟨c,k,rfl,o,d,l⟩,e⟩:=h;refine⟨⟨c,k,rfl,o,d,λm=>?_⟩,CU e b⟩;obtain⟨g,rfl,i⟩:=l m;refine⟨g,rfl,λj x n=>?_⟩;have:=i j x n;have f:=nm this;rw[<-this];exact iH (a:=(Ad g j)) (b.block g f)
theorem vk (s:Bs) (segs:List Bs):aI s segs<+:segs:=by grind[aI]
theorem CV {a b:List Bs} (h:a<+:b) (j:Nat) (x:Bs) (c:a[j]?=some x):b[j]?=some x:=by obtain⟨t,rfl⟩:=h;have d:=(dN.1 c).1;rw[qF d];exact c
theorem CW (k:Nat) (b:Bool) (c:ByteArray) (v x A z s u r p B q y E H M N O C K J:Value) (j g:Bool) (d i:ByteArray) (l:Option Go.Addr) (n f:Nat) (w:World) (a:w.heap[k]?=some (.cells #[v,x,A,z,s,u,r,p,B,.bool b,.string c,q,y] 77 (0,0))):Calls prog 280 #[.pointer (some ⟨k,0,none⟩),.string ⟨#[]⟩,.agg #[E,H,M,N,O,C,.bool j,.string d,.slice l n f,.bool g,.string i,K,J]] w fun e w'=>e=.returned (.tuple #[])/\But k w w'/\w'.heap[k]?=some (.cells #[v,x,A,z,s,u,.bool j,.string d,.slice l n f,.bool (if b then b else g),.string (if b then c else i),q,y] 77 (0,0)):=by
 have o:=(aT.1 a).1;have t:Hid (But k w w):=But.of_below (ai _ _);have X:Ce w k 6 r:=aa a 6;have Y:Ce w k 7 p:=aa a 7;have S:Ce w k 8 B:=aa a 8;have W:Ce w k 9 (.bool b):=aa a 9;have R:Ce w k 10 (.string c):=aa a 10;have T:=aj a 6;have U:=aj a 7;have P:=aj a 8;have V:=aj a 9;have Q:=aj a 10;have L:=aD _ k 6 _ 77 (.bool j) a;have G:=aD _ k 7 _ 77 (.string d) L;have h:=aD _ k 8 _ 77 (.slice l n f) G;have D:=aD _ k 9 _ 77 (.bool g) h;have m:=aD _ k 10 _ 77 (.string i) D;have F:Hid _:=h;have I:Hid _:=m;clear h m;cases b with
 |true=>simp only[eV];go_enter func280,ntmps280;go_wp2;go_end0;exact⟨rfl,(((t.out.setCell 6 _).setCell 7 _).setCell 8 _).alloc _,(nk _ _ k (by simpa using o)).trans F⟩
 |false=>simp only[ge,fO];go_enter func280,ntmps280;go_wp2;go_end0;exact⟨rfl,(((((t.out.setCell 6 _).setCell 7 _).setCell 8 _).setCell 9 _).setCell 10 _).alloc _,(nk _ _ k (by simpa using o)).trans I⟩
theorem vl (k:Nat) (a m:Bs) (q:Option Bs) (b:Adr) (n:Value) (t z A p r M I U o u:Value) (w:World) (hm:m.length<=100000) (D:w.heap[k]?=some (.cells #[.string ⟨a.toArray⟩,t,z,A,p,r,M,I,U,.bool q.isSome,.string ⟨(q.getD []).toArray⟩,o,u] 77 (0,0))) (L:bh w n b.w.g) (a0:le k n) (a1:b.w.g.length<=1000000) (G:∀x∈b.w.g,x.length<=1000000) (a4:Env2 w):Calls prog 280 #[.pointer (some ⟨k,0,none⟩),.string ⟨m.toArray⟩,.agg (av b n)] w fun e w'=>e=.returned (.tuple #[])/\But k w w'/\∃v,w'.heap[k]?=some (.cells #[.string ⟨a.toArray⟩,t,z,A,p,r,.bool (dc a m q b).1.o,.string ⟨(dc a m q b).1.text.toArray⟩,v,.bool (dc a m q b).2.isSome,.string ⟨((dc a m q b).2.getD []).toArray⟩,o,u] 77 (0,0))/\bh w' v (dc a m q b).1.g:=by
 have a6:=(aT.1 D).1;have S:=hI L;obtain⟨W,y⟩:=am (w.alloc (.cells (av b n) 77));have E:Bl w W:=by rw[y];exact(ai _ _).alloc .refl _
 have b1:W.heap.size=w.heap.size+1:=by rw[y];simp
 have R:=(E.block k a6).trans D;have Z:W.heap[w.heap.size]?=some (.cells (av b n) 77 (0,0)):=by rw[y];exact cj w _ _
 have Q:=hI E;have hV:=a4.below E;by_cases F:m=[]
 .
  subst F;obtain⟨⟨h,f,rfl,Y,O,_⟩,_⟩:=L;refine mR (CW k q.isSome (Bv (q.getD [])) _ t z A p r M I U o u _ _ _ _ _ _ _ _ b.w.o b.q.isSome (Bv b.w.text) (Bv (b.q.getD [])) h b.w.g.length f w D) ?_;rintro w' ⟨a2,hh⟩;have l:dc a [] q b=(b.w,if q.isSome then q else b.q):=by unfold dc;rw[ab (by simp)]
  refine⟨rfl,a2,_,?_,by rw[l];exact gp S a2 a0⟩;rw[l,hh];cases q<;>rfl
 .have e0:=io m F
  have HE:Hid (dc a m q b=(⟨false,[],bO a (aI a b.w.g) m⟩,q)):=hI (by unfold dc;rw[ae F];rfl);obtain⟨⟨h,f,rfl,Y,O,hf⟩,_⟩:=L;have k0:Ce W k 0 (Sv a):=aa R 0;have d8:Ce W w.heap.size 8 (.slice h b.w.g.length f):=aa Z 8;have a8:Hid (∀c,Bl W c->C0 253 #[Sv a,.slice h b.w.g.length f] c (.slice h (aI a b.w.g).length f)):=by intro c i;have K:=ei (ei S Q) i;obtain⟨⟨a7,a9,V,_,_,P⟩,_⟩:=K;injection V with e1 _ e2;subst e1;subst e2;refine vy a h f b.w.g c Y (by unfold maxLen at O;omega) (fun x d=>by have:=G x d;omega) ?_;intro j x d;obtain⟨g,l,N⟩:=P (fun e=>by rw[e] at d;simp at d);refine⟨(Ad g 0),l,?_⟩;have:=N j x d;rw[ui,fP];exact this
  have X:Hid (∀c,Below W.heap.size W c->Calls Tryz.prog 163 #[.pointer (some ⟨k,0,none⟩),.slice h (aI a b.w.g).length f,.string ⟨m.toArray⟩] c fun e w'=>e=.returned (.tuple #[])/\But k w w'/\∃v,w'.heap[k]?=some (.cells #[.string ⟨a.toArray⟩,t,z,A,p,r,.bool false,.string ⟨#[]⟩,v,.bool q.isSome,.string ⟨(q.getD []).toArray⟩,o,u] 77 (0,0))/\bh w' v (bO a (aI a b.w.g) m)):=by
   intro c i;have H:=vk a b.w.g;have K:=ei (ei S.out Q.out) i;obtain⟨⟨a7,a9,V,_,_,P⟩,_⟩:=K;injection V with e1 _ e2;subst e1;subst e2;refine(km k a m t z A p r M I U _ _ o u h f (aI a b.w.g) c hm (bu H.length_le a1) (fun x d=>G x (H.subset d)) ((i.block k (by omega)).trans R) ?_ (hV.below i)).mono ?_
   .intro hn
    obtain⟨g,l,N⟩:=P (fun e=>by rw[e] at hn;exact hn (List.prefix_nil.1 (vk a [])));exact⟨g,l,fun j x d=>N j x (CV H j x d)⟩
   .rintro e w' ⟨rfl,b0,v,B,C⟩
    exact⟨rfl,(But.of_below Q.out).trans ((But.of_below i).trans b0),v,B,jN C⟩
  clear D R Z a4 hV a0 a1 G hf hm E;obtain⟨s,a5⟩:∃s:ByteArray,s=⟨m.toArray⟩:=⟨_,rfl⟩;rw[<-a5] at e0 X⊢;generalize bO a (aI a b.w.g) m=rs at*;generalize aI a b.w.g=wl at*;generalize b.w.g=segs at*;unfold maxLen at O;clear a5 F;go_enter func280,ntmps280;go_wp2_with fail;rw[<-y];clear y;go_region_with (first|(go_at_call 253;refine af (a8 _ (by exact du rfl rfl rfl rfl)) ?_;rintro e c ⟨rfl,J⟩;have J:=J.symm;subst J)|(go_at_call 163;refine af (X _ (by exact du rfl rfl rfl rfl)) ?_;rintro e c ⟨rfl,a3,v,B,C⟩;have T:Hid _:=And.intro a3 (And.intro B C);clear a3 B C));all_goals
   go_wp2;rw[HE.out];exact aO (v:=.tuple #[]) (oR rfl _ _ _) rfl ⟨rfl,T.out.1,_,T.out.2.1,T.out.2.2⟩
end Go.Proofs
