import Derived.Test.YtkcnageeamappaaGreatDoorXU27
set_option maxHeartbeats 32000000
set_option maxRecDepth 8000
set_option linter.unusedSimpArgs false
namespace Go.Proofs
open Go.RowKit Go.Moor Go.Proofs.Tryz Go.Moor
theorem Na (t:Bs) (w:World) (b:t.length<=maxLen) (c:Env2 w):Calls prog 22 #[.string ⟨t.toArray⟩] w λe w'=>e=qj (da t)/\Bl w w':=by
 cases d:da t with
 |error n=>exact Gf t n w d b c
 |ok a=>exact DW t a w d b c
theorem Nb (o:Except Int Adr):∃(g e l:ByteArray) (j:Bool) (h:ByteArray) (k:Int) (a:Bool) (b:ByteArray) (f:Bool) (c:ByteArray) (d:Bool) (i:ByteArray) (n:Int),qj o=.returned (.tuple #[.agg #[.string g,.string e,.string l,.bool j,.string h,.int .i64 k,.bool a,.string b,.bool f,.string c,.bool d,.string i],.int .i64 n]):=by
 cases o with
 |error n=>exact⟨_,_,_,_,_,_,_,_,_,_,_,_,n,rfl⟩
 |ok u=>exact⟨_,_,_,_,_,_,_,_,_,_,_,_,0,rfl⟩
theorem Nc (t:Bs) (w:World) (r:t.length<=maxLen) (X:Env2 w):Calls prog 45 #[.string ⟨t.toArray⟩] w fun e w'=>e=.returned (.bool true)/\Bl w w':=by
 have J:Hid _:=Na t w r X;have K:Hid _:=fun W=>MZ t W r;obtain⟨B,I,D,L,u,y,A,C,s,F,x,v,n,Q⟩:=Nb (da t);rw[Q] at J K;obtain⟨g,j⟩:∃g:Array Value,g=#[.string B,.string I,.string D,.bool L,.string u,Iv y,.bool A,.string C,.bool s,.string F,.bool x,.string v]:=⟨_,rfl⟩;rw[<-j] at J K;have U:Hid ((prog.info? 40).map (·.size)=some g.size):=hI (by rw[j];exact kl);have O:Hid (g.all (·.oneCell')=true):=hI (by rw[j];simp[Value.oneCell']);have R:Hid (bi.size=g.size):=hI (by rw[j];rfl);have T:=hI j;generalize(⟨t.toArray⟩:ByteArray)=tb at*;clear r X Q j;go_enter func45,ntmps45;go_wp2_with fail;refine mR J fun b l=>?_;have z:Hid ((b.alloc (.cells bi 40)).heap[b.heap.size]?=some (.cells bi 40 (0,0))):=cj b _ _;obtain⟨k,m⟩:∃V,V=(b.alloc (.cells bi 40)).setRow b.heap.size g:=⟨_,rfl⟩;have E:k.heap[b.heap.size]?=some (.cells g 40 (0,0)):=by rw[m];exact iM z _
 have N:Bl w k:=by rw[m];exact aZ (l.alloc l.size _) l.size _
 have S:Hid (∀W,Bl k W->W.heap[b.heap.size]?=some (.cells g 40 (0,0))):=fun W h=>(h.block _ (aT.1 E).1).trans E;have G:=hI N;have P:=hI m;clear l E N m;go_wp2_with(refine aY rfl 40 _ _ rfl b.heap.size g rfl rfl 40 bi z U R O ?_);have i:=P;unfold bi at i;rw[<-i];clear i P z;refine mR (K k) fun c p=>?_;have q:Hid ((c.alloc (.cells bi 40)).heap[c.heap.size]?=some (.cells bi 40 (0,0))):=cj c _ _;obtain⟨a,o⟩:∃V,V=(c.alloc (.cells bi 40)).setRow c.heap.size g:=⟨_,rfl⟩;have f:a.heap[c.heap.size]?=some (.cells g 40 (0,0)):=by rw[o];exact iM q _
 have H:Bl k a:=by rw[o];exact aZ (p.alloc p.size _) p.size _
 have d:=S a H;have Y:=hI (G.out.trans (H.mono G.out.size));have M:=hI o;rw[T.out] at f d;have c0:Ce a b.heap.size 0 (.string B):=aa d 0;have c1:Ce a b.heap.size 1 (.string I):=aa d 1;have c2:Ce a b.heap.size 2 (.string D):=aa d 2;have c3:Ce a b.heap.size 3 (.bool L):=aa d 3;have c4:Ce a b.heap.size 4 (.string u):=aa d 4;have c5:Ce a b.heap.size 5 (Iv y):=aa d 5;have c6:Ce a b.heap.size 6 (.bool A):=aa d 6;have c7:Ce a b.heap.size 7 (.string C):=aa d 7;have c8:Ce a b.heap.size 8 (.bool s):=aa d 8;have c9:Ce a b.heap.size 9 (.string F):=aa d 9;have b0:Ce a b.heap.size 10 (.bool x):=aa d 10;have b4:Ce a b.heap.size 11 (.string v):=aa d 11;have d0:Ce a c.heap.size 0 (.string B):=aa f 0;have d1:Ce a c.heap.size 1 (.string I):=aa f 1;have d2:Ce a c.heap.size 2 (.string D):=aa f 2;have d3:Ce a c.heap.size 3 (.bool L):=aa f 3;have d4:Ce a c.heap.size 4 (.string u):=aa f 4;have Z:Ce a c.heap.size 5 (Iv y):=aa f 5;have d6:Ce a c.heap.size 6 (.bool A):=aa f 6;have d7:Ce a c.heap.size 7 (.string C):=aa f 7;have d8:Ce a c.heap.size 8 (.bool s):=aa f 8;have d9:Ce a c.heap.size 9 (.string F):=aa f 9;have b5:Ce a c.heap.size 10 (.bool x):=aa f 10;have b3:Ce a c.heap.size 11 (.string v):=aa f 11;clear p f H o d G S T;go_upto_region 3 with(refine aY rfl 40 _ _ rfl c.heap.size g rfl rfl 40 bi q U R O ?_)
 have i:=M;unfold bi at i;rw[<-i];clear i M q;go_wp2;go_ret;exact⟨rfl,Y⟩
theorem Al (o:Except Int Bs):∃(x:ByteArray) (m:Int),jk o=.returned (.tuple #[.string x,.int .i64 m]):=by
 cases o with
 |error n=>exact⟨_,_,rfl⟩
 |ok t=>exact⟨_,_,rfl⟩
theorem Nd (o:Except Int Adr):∃(x:ByteArray) (m:Int),tH o=.returned (.tuple #[.string x,.int .i64 m]):=by
 cases o with
 |error n=>exact⟨_,_,rfl⟩
 |ok t=>exact⟨_,_,rfl⟩
theorem Nf (b:Value) (d n:Int) (l:Bool) (S T:ByteArray) (p:Value) (w:World) (f:d<=6) (C:S.size<=2097152) (O:T.size<=2097152) (o:Env2 w):Calls prog 29 #[b,.agg #[.int .i64 d,.int .i64 n,.bool l,.string S,.string T,p]] w fun e w'=>e=.returned (.bool true)/\Bl w w':=by
 by_cases z:d<=3
 .exact IQ b d n l S T p w z C o.env o.tz
 obtain⟨W,i⟩:=am (w.alloc (.cells #[Iv d,Iv n,.bool l,.string S,.string T,p] 60));have m:Bl w W:=by rw[i];exact(ai _ _).alloc .refl _
 have t:Hid (∀a,Bl W a->Bl w a):=fun a c=>m.trans (c.mono m.size);have q:=o.below m;have hz:W.heap[w.heap.size]?=some (.cells #[Iv d,Iv n,.bool l,.string S,.string T,p] 60 (0,0)):=by rw[i];exact dO w _
 have A:=(aT.1 hz).1;have u:Hid (∀a,Below W.heap.size W a->a.cell? ⟨w.heap.size,0,none⟩=some (.int .i64 d)/\a.cell? ⟨w.heap.size,3,none⟩=some (.string S)/\a.cell? ⟨w.heap.size,4,none⟩=some (.string T)):=by intro a c;have k:=(c.block w.heap.size A).trans hz;unfold World.cell?;simp[k]
 have v:=hI i;have h:S.data.toList.length<=maxLen:=by
  unfold maxLen;have:S.data.toList.length=S.size:=by rw[bT];rfl
  omega
 have r:T.data.toList.length<=maxLen:=by
  unfold maxLen;have:T.data.toList.length=T.size:=by rw[bT];rfl
  omega
 have I:=hI (Dp S.data.toList T.data.toList W h r q);have E:=hI fun a=>MQ S.data.toList T.data.toList a h r;have F:=hI (MW S.data.toList W h q);have H:=hI fun a=>MT S.data.toList a h;have P:=hI (Nc S.data.toList W h q);obtain⟨X,U,y⟩:=Al (iR hostTell S.data.toList T.data.toList);obtain⟨V,R,x⟩:=Nd (da S.data.toList);rw[y] at I E;rw[x] at F H;clear q m hz A o C O h r y x;have M:Hid (Bl W W):=ai _ _;obtain⟨D,G,B⟩:=u W M.out;have K:d=4\/d=5\/d=6:=by omega
 clear f z;obtain f|f|f:=K
 .subst f
  clear i;go_enter func29,ntmps29;go_upto_region 1 with fail;rw[<-v.out];go_wp2_with fail;refine mR I fun a c=>?_;have g:=hI c;obtain⟨L,N,J⟩:=u a c;clear c D G B;go_wp2_with fail;refine mR (E a) fun Q j=>?_;have s:=hI (g.out.trans (j.mono g.out.size));clear j;go_wp2;go_ret;exact⟨rfl,t _ s⟩
 .subst f
  clear i;go_enter func29,ntmps29;go_upto_region 1 with fail;rw[<-v.out];go_wp2_with fail;refine mH P fun a g=>?_;go_wp2;go_ret;exact⟨rfl,t _ g⟩
 .subst f
  clear i;go_enter func29,ntmps29;go_upto_region 1 with fail;rw[<-v.out];go_wp2_with fail;refine mR F fun a c=>?_;have g:=hI c;obtain⟨L,N,J⟩:=u a c;clear c D G B;go_wp2_with fail;refine mR (H a) fun Q j=>?_;have s:=hI (g.out.trans (j.mono g.out.size));clear j;go_wp2;go_ret;exact⟨rfl,t _ s⟩
end Go.Proofs
namespace Go.Moor
open Go
structure PInv (K:Nat) (c:Mc):Prop where
 st:c.st=5\/c.st=6\/c.st=13
 err:c.err=0
 mark:cT c.r
 inv:Inv none K c
theorem qB (c:Mc) (h:cT c.r):bw c={c with st:=13,r:=c.r.drop 1}:=by unfold bw;have b:¬c.r.head? =some 63:=λe=>(h 63 (List.mem_of_mem_head? e)).2 rfl;have a:¬c.r.head? =some 35:=λe=>(h 35 (List.mem_of_mem_head? e)).1 rfl;rw[ab b,ab a]
theorem uc (l:Bs) (k:Nat) (h:cT l):cT (l.drop k):=λc a=>h c (List.mem_of_mem_drop a)
theorem Be (K:Nat) (c:Mc) (h:PInv K c) (p:c.st≠13):PInv K (ap hostTell none c)/\((c.st=5/\ap hostTell none c=eQ c)\/(c.st=6/\ap hostTell none c=bX c)):=by
 have m:=AA hostTell (base:=none) (λb j=>by cases j) c h.inv;have d:∀a,ap hostTell none c=a->(a.st=5\/a.st=6\/a.st=13)->a.err=0->cT a.r->PInv K (ap hostTell none c):=λa e o k i=>⟨by rw[e];exact o,by rw[e];exact k,by rw[e];exact i,m⟩;obtain g|f|i:=h.st
 .have e:ap hostTell none c=eQ c:=by unfold ap;simp[g]
  refine⟨?_,.inl ⟨g,e⟩⟩;refine d _ e ?_ ?_ ?_<;>unfold eQ<;>rw[qB c h.mark]
  .grind
  .split
   .exact h.err
   .split<;>exact h.err
  .split
   .exact uc _ _ h.mark
   .split
    .exact uc _ _ h.mark
    .exact h.mark
 .have e:ap hostTell none c=bX c:=by unfold ap;simp[f]
  refine⟨?_,.inr ⟨f,e⟩⟩;have l:cT (ca c.u.s c.r):=λx n=>h.mark x ((List.dropWhile_suffix _).subset n);refine d _ e ?_ ?_ ?_<;>unfold bX<;>simp only
  .grind[qB]
  .split
   .exact h.err
   .rw[qB _ l];exact h.err
  .grind[uc,qB]
 .omega
end Go.Moor
namespace Go.Proofs
open Go.RowKit Go.Moor Go.Proofs.Tryz Go.Moor
theorem OX (l:Bs) (k:Nat) (h:k<l.length):bq (l.take (k+1))=bq (l.take k)++eK l[k]:=by grind[iz,bq]
theorem ua (l:Bs):(bq l).length<=3*l.length:=by
 induction l with
 |nil=>simp[bq]
 |cons c l a=>grind[eK,jv]
theorem Tryz.Mem.set_s {B R k j:Nat} {b:Value} {s:ByteArray} {w0 w:World} {u:Adr} {d:Value} {a f c:Int} (h:Mem B R k j b s w0 u d a f c w) (g:ByteArray):Mem B R k j b g w0 u d a f c (w.setCell ⟨k,2,none⟩ (.string g)):=
 ⟨h.below.setCell h.bk _,aD w k 2 _ _ _ h.K,(fj w (Ad k 2) j _ (λe=>h.ne e.symm)).trans h.U,h.bk,h.bj,h.ne,h.kr,h.jr,by simpa using h.rz,h.row.setCell h.bk h.kr _⟩
theorem OY {B R k j:Nat} {n:Value} {s:ByteArray} {w0:World} (y:s.size<=1000000) (c:Mc) (w:World) (v:bl B R k j n s w0 c w) (d:PInv 1000000 c) (i:c.st≠13):Calls prog 124 #[.pointer (some ⟨k,0,none⟩)] w λe w'=>e=.returned (.tuple #[])/\bl B R k j n s w0 (ap hostTell none c) w':=by
 obtain⟨_,t⟩:=Be _ c d i;have p:=d.inv;have m:=d.err;obtain⟨u,r,z,A⟩:=c;have m:=m;subst m;obtain⟨C,a,b,f,x⟩:=v;have f:=f;subst f;have i:=i;have o:a<=s.size:=by
  obtain h|h:=x
  .exact h
  .omega
 obtain⟨g,e⟩|⟨l,e⟩:=t
 .have g:=g
  subst g;rw[e];exact zU k w _ (aa b.K 4) (AI a 5 b o (by omega))
 .have l:=l
  subst l;rw[e];have q:u.w.g.length<=1000000:=by have:=p.light;unfold jb at this;simp at this;omega
  exact zV k w _ (aa b.K 4) (zI a b (p.w (show(6:Nat)≠11 by decide) (show(6:Nat)≠12 by decide) (show(6:Nat)≠13 by decide)) o y q)
theorem OZ {B R k j:Nat} {b:Value} {w0 w:World} {u:Adr} {pv:Value} (v:Bs) (a:Mem B R k j b ⟨v.toArray⟩ w0 {u with w:=⟨false,[],[]⟩} pv 0 0 0 w) (hv:v.length<=2000):Calls prog 131 #[.pointer (some ⟨j,0,none⟩),.pointer (some ⟨k,0,none⟩)] w fun e w'=>e=.returned (.tuple #[])/\∃K O,∃V:ByteArray,Mem B R k j b V w0 {u with w:=aV u.s [] (aq u.s v)} K O 13 0 w':=by
 obtain⟨nr,f,r,c5,Z⟩:=Ke hostTell none u v;obtain⟨s,G⟩:=am (⟨v.toArray⟩:ByteArray);have a3:s.size=v.length:=by rw[G,al]
 have c3:s.size<=2000:=by omega
 have Q:Hid (∀(q:Nat) (h:q<s.size) (x:q<v.length),s[q]=v[q]):=by intro q h x;subst G;rfl
 rw[<-G] at a;have N:Hid (∀q,(bq (v.take q)).length<=6000):=by
  intro q;have h1:=ua (v.take q);have x:(v.take q).length<=v.length:=by rw[cL];omega
  omega
 obtain⟨t,M⟩:=am (⟨(bq v).toArray⟩:ByteArray);have a4:t.size<=6000:=by rw[M,al];have:=ua v;omega
 have P:=hI M;have b0:PInv 1000000 ⟨{u with w:=⟨false,[],[]⟩},bq v,5,0⟩:=by refine⟨.inl rfl,rfl,sR v,⟨fun h=>by simp at h,fun _ _ _=>rfl,fun h=>by simp at h,?_,⟨show(1:Nat)<=5 by decide,show(5:Nat)<=15 by decide⟩⟩⟩;have:=ua v;show 0+(bq v).length+(2+0)<=1000000;omega
 have a9:=hI r;have a8:=hI b0;have b1:=hI Z;have U:=hI a;have y2:=a.y2;clear r Z G M a b0;go_enter func131,ntmps131;go_wp2_with fail;go_loopw [4,5] (fun o i wr=>∃q:Nat,q<=s.size/\i=Iv q/\o=.string ⟨(bq (v.take q)).toArray⟩/\wr=w) (fun _ i _=>s.size-(intOf i).toNat)
 case atStart=>exact⟨0,aR _,rfl,rfl,rfl⟩
 case round=>
  obtain⟨q,hq,rfl,rfl,b6⟩:=hrel;obtain rfl:=b6.symm;by_cases a6:q<s.size
  .have x:q<v.length:=by omega
   have hg:=Q q a6 x;have p:Hid (bq (v.take (q+1))=bq (v.take q)++eK s[q]):=hI (by rw[OX v q x,hg]);have b2:=N q;have b5:(⟨(bq (v.take q)).toArray⟩:ByteArray).size=(bq (v.take q)).length:=al _;have S:=ky s q a6;have zx:(s.extract q (q+1)).size=1:=(by rw[S];rfl);have I:Hid (s[q]=63->(⟨(bq (v.take q)).toArray⟩:ByteArray)++⟨#[37,51,70]⟩=⟨(bq (v.take (q+1))).toArray⟩):=(by intro h;rw[p.out,show eK s[q]=[37,51,70] from by unfold eK;rw[ae h]];exact aP _ [37,51,70]);have F:Hid (s[q]=35->(⟨(bq (v.take q)).toArray⟩:ByteArray)++⟨#[37,50,51]⟩=⟨(bq (v.take (q+1))).toArray⟩):=(by intro h;rw[p.out,show eK s[q]=[37,50,51] from by unfold eK;rw[h];rfl];exact aP _ [37,50,51]);have H:Hid (¬s[q]=63->¬s[q]=35->(⟨(bq (v.take q)).toArray⟩:ByteArray)++s.extract q (q+1)=⟨(bq (v.take (q+1))).toArray⟩):=(by intro h h';rw[p.out,S,show eK s[q]=[s[q]] from by unfold eK;rw[ab h,ab h']];exact aP _ [s[q]]);generalize(⟨(bq (v.take q)).toArray⟩:ByteArray)=z at*;have g1:∀W:World,(Op.stringOp .add z ⟨#[37,51,70]⟩).run prog W=.ok (.string (z++⟨#[37,51,70]⟩)) W:=fun W=>bm W _ _ (by show _+3<=_;omega);have g2:∀W:World,(Op.stringOp .add z ⟨#[37,50,51]⟩).run prog W=.ok (.string (z++⟨#[37,50,51]⟩)) W:=fun W=>bm W _ _ (by show _+3<=_;omega);have g3:∀W:World,(Op.stringOp .add z (s.extract q (q+1))).run prog W=.ok (.string (z++s.extract q (q+1))) W:=fun W=>bm W _ _ (by omega);have c4:(0:Int)<=(q:Int):=(by omega);have b9:(q:Int)<(s.size:Int):=(by omega);have L:∀n:Nat,n<256->(((s[q].toNat:Int)==(n:Int))=true/\s[q]=n.toUInt8)\/(((s[q].toNat:Int)==(n:Int))=false/\¬s[q]=n.toUInt8):=by
    intro n hn;have b7:n.toUInt8.toNat=n:=Nat.mod_eq_of_lt hn;by_cases h:s[q]=n.toUInt8
    .exact .inl ⟨by rw[h,b7];simp,h⟩
    .grind[UInt8.toNat_inj]
   have k1:=L 63 (by decide);have k2:=L 35 (by decide);clear hg b5 zx S b2 p Q N L a3 a4 x;obtain⟨e1,y⟩|⟨e1,y⟩:=k1
   .have C:Hid _:=I y
    clear I F H y k2;go_wp2;go_roundw
    case rel=>exact⟨q+1,by omega,by go_num,aB Value.string C,by first|rfl|trivial⟩
    case measure=>(simp[intOf];try omega)
   .obtain⟨e2,A⟩|⟨e2,A⟩:=k2
    .have C:Hid _:=F A
     clear I F H y A;go_wp2;go_roundw
     case rel=>exact⟨q+1,by omega,by go_num,aB Value.string C,by first|rfl|trivial⟩
     case measure=>(simp[intOf];try omega)
    .have C:Hid _:=H y A
     clear I F H y A;go_wp2;go_roundw
     case rel=>exact⟨q+1,by omega,by go_num,aB Value.string C,by first|rfl|trivial⟩
     case measure=>(simp[intOf];try omega)
  .have HQ:Hid (v.take q=v):=cg (by omega)
   rw[HQ.out,<-P.out];have f2:=U.out.f 2;have J:=U.out.set_s t;have z4:=J.y4;have g4:=J.f 4;have a0:Hid (bl B R k j b t w0 ⟨{u with w:=⟨false,[],[]⟩},bq v,5,0⟩ ((w.setCell (Ad k 2) (.string t)).setCell (Ad k 4) (Iv 5))):=⟨pv,0,J.set_st 5,by rw[P.out];rfl,.inl (aR _)⟩;have T:Hid (∀c W,bl B R k j b t w0 c W->PInv 1000000 c->c.st≠13->CQ 124 #[Pt k] W (.tuple #[]) (bl B R k j b t w0 (ap hostTell none c))):=fun c W D l d=>OY (by omega) c W D l d;clear U J Q N a3 a4 P HQ;go_wp2_with fail;go_loopg [] nr (fun g wr=>∃c,gm hostTell none g c=some f/\bl B R k j b t w0 c wr/\PInv 1000000 c)
   case atStart=>exact⟨_,a9,a0,a8⟩
   case round=>
    clear a9 a0 a8;obtain⟨c,r,D,l⟩:=hrel;by_cases d:c.st=13
    .have X:=tB none gk c f r (.inl d)
     obtain⟨Y,a2,a,_,_⟩:=D;have he:=l.err;rw[d,he] at a;have HE:Hid (∃K O,∃V:ByteArray,Mem B R k j b V w0 {u with w:=aV u.s [] (aq u.s v)} K O 13 0 wr):=⟨Y,_,t,by rw[<-b1.out,X];exact a⟩;have x4:=a.y4;clear a X d he r l T z4 g4;go_wp2;go_end0;exact⟨rfl,HE⟩
    .obtain⟨m,b3,a7⟩:=Aa none gk c f r (by rintro(h|h);exact d h;exact h l.err)
     have a1:Hid _:=T c wr D l d;have p:Hid (∀E,bl B R k j b t w0 (ap hostTell none c) E->∃c,gm hostTell none m c=some f/\bl B R k j b t w0 c E/\PInv 1000000 c):=fun E h1=>⟨_,a7,h1,(Be _ c l d).1⟩;obtain⟨Y,a2,a,_,_⟩:=D;have x4:=a.y4;have b8:(((c.st:Nat):Int) !=13)=true:=(by rw[mY];omega);generalize((c.st:Nat):Int)=c0 at x4 b8;clear a d r l T a7 z4 g4;go_wp2_with fail;refine mR a1 fun E a5=>?_;have b4:Hid _:=p E a5;clear a5 p a1;go_wp2;go_roundg m
     case measure=>exact b3
     case rel=>exact b4
end Go.Proofs
namespace Go.Moor
open Go
def fN (v:Bs):Nat:=if aS v=0 then aS (v++ [58]) else aS v
theorem Pb (t:Bs):aS t<=t.length:=by
 have a:=kq 58 t;unfold aS;cases b:aN 58 t with
 |none=>simp
 |some p=>grind
theorem Bh (t:Bs) (h:aS t≠0):2<=aS t:=by
 unfold aS at h⊢;cases b:aN 58 t with
 |none=>grind
 |some p=>
  obtain⟨n,r⟩:=p;rw[b] at h;simp only at h⊢;cases a:cw n with
  |false=>grind
  |true=>
   cases n with
   |nil=>exact absurd a (by decide)
   |cons c n=>simp
theorem Bi (v:Bs):fN v<=v.length+1:=by grind[fN,Pb]
theorem Bj (v:Bs):(aU (v++ [58])).1=if fN v=0 then [] else Lib.toLowerA (v.take (fN v- 1)):=by
 rw[JW];unfold fN;by_cases h:aS v=0
 .grind
 .grind
theorem Pc (v:Bs) (h:fN v≠0):Lib.toLowerA (v.take (fN v- 1))≠[]:=by
 have b:2<=fN v:=by
  unfold fN at h⊢;split at h
  .simp_all[Bh]
  .simp_all[Bh]
 have a:=Bi v;intro e;have:=aB List.length e;simp only[Lib.toLowerA,gX,cL,gK] at this;omega
theorem Pd (a:Adr) (v:Bs) (h:fN v=0):ix a v=.error 6:=by simp_all[ix,Bj]
theorem Pe (a:Adr) (v:Bs) (h:fN v≠0) (b:Bs) (d:Lib.toLowerA (v.take (fN v- 1))=b):ix a v=if ao b≠ao a.s\/(decide (b=sFile))≠(decide (a.s=sFile)) then .error 6 else .ok {a with s:=b,t:={a.t with p:=eZ a.t.p b}}:=by have c:=Pc v h;unfold ix;rw[Bj,ab h];rw[d] at c⊢;simp only;rw[ab c]
def mG (a:Adr):Bool:=a.t.h.isEmpty||decide (a.s=sFile)
theorem Pf (a:Adr) (p:Int) (v:Bs) (h:mG a=true):gu a p v=.error 6:=by simp_all[gu,mG]
theorem Pg (a:Adr) (p:Int) (v:Bs) (h:mG a=false):gu a p v=if p=2 then .ok {a with t:={a.t with e:=ah 5 v}} else if p=3 then .ok {a with t:={a.t with d:=ah 5 v}} else match cV v a.s with|none=>.error 5|some q=>.ok {a with t:={a.t with p:=q}}:=by unfold mG at h;rw[ov,BD,uv] at h;unfold gu;rw[ab (λx=>x.elim h.1 h.2)];rfl
def ij (a:Adr) (v:Bs):Bool:=ao a.s&&!v.isEmpty
theorem Ph (a:Adr) (v:Bs) (h:a.w.o=true):gg hostTell a v=.error 6:=by simp_all[gg]
theorem Pi (a:Adr) (v:Bs) (b:v=[]) (c:ao a.s=false) (h:a.t.e++a.t.d≠[]\/0<=a.t.p):gg hostTell a v=.error 6:=by
 unfold gg;split
 .rfl
 .grind
theorem Pj:ao sFile=true:=by decide
theorem Pk:hostTell [] false=some []:=by decide+kernel
theorem Pm:hostTell [] true=none:=by decide+kernel
theorem Pn (a:Adr) (v:Bs) (e:a.w.o=false) (b:v=[]) (c:ao a.s=true) (d:a.s≠sFile):gg hostTell a v=.error 4:=by simp_all[gg,jQ,Pm]
def kT (a:Adr) (t:Bs):Bs:=if a.s=sFile/\t=[108,111,99,97,108,104,111,115,116] then [] else t
theorem Po (a:Adr) (v:Bs) (g:a.w.o=false) (j:¬(v=[]/\ao a.s=false/\(a.t.e++a.t.d≠[]\/0<=a.t.p))) (h:¬(v=[]/\ao a.s=true/\a.s≠sFile)) (i:a.t.p= -1\/0<=a.t.p):gg hostTell a v=match hostTell v (ij a v) with|none=>.error 4|some t=>.ok {a with t:={a.t with has:=true,h:=kT a t}}:=by
 unfold gg;rw[ab (by simp[g]),ab]
 .have d:jQ hostTell v a.s=(hostTell v (ij a v)).map (kT a):=by
   unfold jQ ij kT;by_cases b:a.s=sFile
   .rw[ae b]
    unfold dQ;by_cases c:v=[]
    .simp_all[Pk]
    .have f:v.isEmpty=false:=by rw[BD];exact c
     rw[ab c,b,Pj,f];show _=(hostTell v true).map _;cases hostTell v true with
     |none=>rfl
     |some t=>grind
   .rw[ab b]
    have e:(ao a.s&&!v.isEmpty)=ao a.s:=by
     by_cases c:v=[]
     .grind
     .grind
    rw[e];cases hostTell v (ao a.s) with
    |none=>rfl
    |some t=>simp[b]
  rw[d];cases hostTell v (ij a v)<;>rfl
 .grind[List.append_eq_nil_iff]
theorem Pp (s:Bs):eZ (-1) s= -1:=by simp[eZ]
theorem Pq (a b:Adr) (g:Int) (v:Bs) (c:eJ a) (h:dn hostTell a g v=.ok b):eJ b:=by
 unfold dn at h;split at h
 .unfold ix at h
  simp only at h;generalize(aU (v++ [58])).1=f at*;split at h
  .cases h
  .split at h
   .cases h
   .rename_i j
    injection h with h;subst h;refine⟨λd=>?_,λd=>c.2.1 (by grind),c.2.2⟩;show({a.t with p:=eZ a.t.p f}:Auth)=noAuth;rw[c.1 d];show({noAuth with p:=eZ (-1) f}:Auth)=noAuth;rw[Pp];rfl
 .have i:a.t.has=false->a.t.h=[]:=λe=>by rw[c.1 e];rfl
  unfold eJ gM at*;split at h
  .unfold gu at h
   grind
  .grind[gg,iU,aV]
theorem Pr (a:Adr) (p:Int) (v:Bs) (h:p=2\/p=3\/p=5):dn hostTell a p v=gu a p v:=by unfold dn;rw[ab (by omega),ae h]
theorem Ps (a:Adr) (p:Int) (v:Bs) (h:p≠1/\p≠2/\p≠3/\p≠4/\p≠5/\p≠6/\p≠7/\p≠8):dn hostTell a p v=.error 6:=by simp_all[dn]
end Go.Moor
namespace Go.Proofs
open Go.RowKit Go.Moor Go.Proofs.Tryz Go.Moor
def Tryz.UW (w0:World) (j:Nat) (u:Adr) (w:World):Prop:=Below w0.heap.size w0 w/\w0.heap.size<=j/\∃pv,Tryz.UAt w j u pv
theorem Tryz.UAt.raw {w w':World} {j:Nat} {u u':Adr} {d:Value} (h:UAt w j u d) (p:w'.heap[j]?=some (.cells (bD u' d) 116 (0,0))) (m:u'.w=u.w) (l:∀g,g≠j->g<w.heap.size->w'.heap[g]?=w.heap[g]?):UAt w' j u' d:=by
 refine⟨p,λb=>?_,λb=>?_,h.far⟩
 .rw[m] at b⊢
  obtain⟨n,e,a,c⟩:=h.g b;refine⟨n,e,a,λi x o=>?_⟩;obtain⟨g,k,f⟩:=c i x o;exact⟨g,k,(iH (l g (h.far g (by rw[a,k];rfl)) (qi f))).trans f⟩
 .rw[m] at b⊢
  obtain⟨g,e,a,c⟩:=h.text b;exact⟨g,e,a,(iH (l g (h.far g (by rw[a];rfl)) (qi c))).trans c⟩
section
variable {w0 w w' : World} {j : Nat} {u : Adr}
theorem Tryz.UW.off (h:UW w0 j u w) (a:Bl w w'):UW w0 j u w':=⟨h.1.trans (a.mono h.1.size),h.2.1,h.2.2.imp λ_ b=>b.below a⟩
theorem Tryz.UW.set (h:UW w0 j u w) {u':Adr} (i:Nat) (v:Value) (c:∀a,(bD u a).setIfInBounds i v=bD u' a) (e:u'.w=u.w):UW w0 j u' (w.setCell ⟨j,i,none⟩ v):=
 ⟨h.1.setCell h.2.1 v,h.2.1,h.2.2.imp λa b=>b.raw (by rw[<-c];exact aD w j i _ _ v b.U) e λg d _=>fj w (Ad j i) g v d⟩
theorem Tryz.UW.two (h:UW w0 j u w) {u':Adr} (i k:Nat) (x y:Value) (a:Below (w.setCell ⟨j,i,none⟩ x).heap.size (w.setCell ⟨j,i,none⟩ x) w') (m:∀b,((bD u b).setIfInBounds i x).setIfInBounds k y=bD u' b) (n:u'.w=u.w):UW w0 j u' (w'.setCell ⟨j,k,none⟩ y):=by
 have hz:(w.setCell (Ad j i) x).heap.size=w.heap.size:=by simp
 rw[hz] at a;obtain⟨f,c,b,d⟩:=h;have l:=(aT.1 d.U).1;refine⟨((f.setCell c x).trans (a.mono f.size)).setCell c y,c,b,d.raw ?_ n λg e hz=>?_⟩
 .rw[<-m]
  exact aD w' j k _ _ y ((a.block j l).trans (aD w j i _ _ x d.U))
 .exact(fj w' (Ad j k) g y e).trans ((a.block g hz).trans (fj w (Ad j i) g x e))
end
def Bf (w0:World) (j:Nat) (res:Except Int Adr) (e:Ending) (w':World):Prop:=match res with
 | .ok u=>e=.returned (.int .i64 0)/\Tryz.UW w0 j u w'
 | .error n=>e=.returned (.int .i64 n)/\n≠0/\Below w0.heap.size w0 w'
theorem Bg (k:Int) (c:UInt8) (v:Bs) (b:Bool) (a:b= !v.isEmpty):(eD c k v).isSome=b/\(eD c k v).getD []=ah k (cX c v):=by
 unfold eD;cases v with
 |nil=>exact⟨by rw[a];rfl,rfl⟩
 |cons x l=>grind
theorem Pa (j:Nat) (u:Adr) (part:Int) (v:Bs) (w0 w:World) (h:UW w0 j u w) (hg:eJ u) (hsm:Small 20000 4100 u) (hv:v.length<=2000):Calls prog 76 #[.pointer (some ⟨j,0,none⟩),.int .i64 part,.string ⟨v.toArray⟩] w λe w'=>Bf w0 j (dn hostTell u part v) e w':=by
 obtain⟨res,hres⟩:=am (dn hostTell u part v);rw[<-hres];have HRES:=hI hres;clear hres;have HU:=hI h;have HB:=hI h.1;obtain⟨-,hj,pv,hat⟩:=h;have HA:=hI hat;have HJ:=hI hj;have c0:w.cell? ⟨j,0,none⟩=some (.string ⟨u.s.toArray⟩):=aa hat.U 0;have c3:w.cell? ⟨j,3,none⟩=some (.bool u.t.has):=aa hat.U 3;have c4:w.cell? ⟨j,4,none⟩=some (.string ⟨u.t.h.toArray⟩):=aa hat.U 4;have HSP:Hid (∀W,Calls Tryz.prog 129 #[.string ⟨u.s.toArray⟩] W λe w'=>e=.returned (.bool (ao u.s))/\w'=W):=λW=>kI ⟨u.s.toArray⟩ W;obtain⟨fl,hfl⟩:=am (decide (u.s=sFile));have e1:((⟨u.s.toArray⟩:ByteArray).toList==[102,105,108,101])=fl:=by
  rw[hfl];by_cases h:u.s=sFile
  .exact(fE u.s _ h).trans (dC h).symm
  .exact(dV u.s _ h).trans (ee h).symm
 have e2:=ir u.t.h;obtain⟨he,hhe⟩:=am u.t.h.isEmpty;rw[<-hhe] at e2;obtain⟨has,hhas⟩:=am u.t.has;rw[<-hhas] at c3;obtain⟨sp,hsp⟩:=am (ao u.s);rw[<-hsp] at HSP;have HSPE:=hI hsp;have HFL:=hI hfl;have hhe2:has=false->he=true:=by intro e;rw[hhe,hg.1 (hhas.symm.trans e)];rfl
 have HPO:Hid (mG u=(he||fl)):=by show _=_;unfold mG;rw[hhe,hfl]
 have HSM:=hI hsm;have HV:=hI hv;clear hat hsp hfl hhe hhas hj hsm hv hg;generalize hhb:(⟨u.t.h.toArray⟩:ByteArray)=hb at c4 e2;generalize hsb:(⟨u.s.toArray⟩:ByteArray)=sb at*;have HSB:=hI hsb;clear hhb hsb;obtain⟨vb,hvb⟩:=am (⟨v.toArray⟩:ByteArray);have hvz:vb.size=v.length:=by rw[hvb,al]
 have e3:vb.toList.isEmpty=v.isEmpty:=by rw[hvb];exact ir v
 rw[<-hvb];have HVB:=hI hvb;clear hvb;go_enter Tryz.func76,Tryz.ntmps76;go_wp2_with fail;refine af (HSP.out _) ?_;rintro e W0 ⟨rfl,hw⟩;obtain rfl:=hw.symm;go_upto_region 2 with fail;go_cut [8] from 23 to 41 (λx wx=>x=.bool (he||fl)/\w=wx)
 case first=>
  cases has with
  |false=>have hh:=hhe2 rfl;subst hh;go_wp2;go_meet;exact⟨rfl,rfl⟩
  |true=>
   cases he with
   |false=>go_wp2;go_meet;exact⟨rfl,rfl⟩
   |true=>go_wp2;go_meet;exact⟨rfl,rfl⟩
 case rest=>
 obtain⟨rfl,rfl⟩:=hcut;clear hhe2 c3 c4 e2;have HES:Hid (∀(x:Bs) (k:Int) W,x.length<=2000->Calls Tryz.prog 40 #[.string ⟨x.toArray⟩,.int .i64 k] W λe w'=>e=.returned (.string ⟨(ah k x).toArray⟩)/\Below W.heap.size W w'):=λx k W hx=>hZ ⟨x.toArray⟩ k W (by rw[al];omega);by_cases p1:part=1
 .subst p1
  have HR:Hid (res=ix u v):=HRES.out;clear HRES HES;have HS1:Hid (∀W,Calls Tryz.prog 122 #[.string vb] W λe w'=>e=.returned (.int .i64 (aS v))/\w'=W):=λW=>by rw[HVB.out];exact tK v W (by have:=HV.out;omega)
  have HS2:Hid (∀W,Calls Tryz.prog 122 #[.string ⟨(v++ [58]).toArray⟩] W λe w'=>e=.returned (.int .i64 (aS (v++ [58])))/\w'=W):=λW=>tK (v++ [58]) W (by have:=HV.out;rw[cC];show _+1<=_;omega);have a1:∀W:World,(Op.stringOp .add vb ⟨#[58]⟩).run Tryz.prog W=.ok (.string ⟨(v++ [58]).toArray⟩) W:=λW=>by
   rw[bm W _ _ (by have:=HV.out;rw[hvz];show _+1<=_;omega),HVB.out];exact aB (λz=>Result.ok (Value.string z) W) (aP _ [58])
  have HNL:Hid (fN v=if aS v=0 then aS (v++ [58]) else aS v):=rfl;generalize(⟨(v++ [58]).toArray⟩:ByteArray)=vb2 at*;generalize aS (v++ [58])=l2 at*;generalize aS v=l1 at*;go_wp2_with fail;refine af (HS1.out _) ?_;rintro e W0 ⟨rfl,hw⟩;obtain rfl:=hw.symm;go_upto_if 48 with fail
  go_cut [9] from 49 to 51 (λx wx=>x=.int .i64 (fN v:Nat)/\w=wx)
  case first=>
   by_cases h0:l1=0
   .subst h0
    have HN:Hid (fN v=l2):=HNL.out;go_wp2_with fail;refine af (HS2.out _) ?_;rintro e W0 ⟨rfl,hw⟩;obtain rfl:=hw.symm;go_wp2;go_meet;exact⟨by rw[HN.out],rfl⟩
   .have HN:Hid (fN v=l1):=HNL.out.trans (ab h0)
    have h0b:((l1:Int)==0)=false:=(by rw[aL];omega);go_wp2;go_meet;exact⟨by rw[HN.out],rfl⟩
  case rest=>
  obtain⟨rfl,rfl⟩:=hcut;clear HS1 HS2 a1 HNL;have hnl:=Bi v;by_cases h0:fN v=0
  .have HE:Hid (ix u v=.error 6):=Pd u v h0
   have hres:=HR.out.trans HE.out;subst hres;rw[h0];clear HE hnl h0;go_wp2;go_ret;exact⟨rfl,by decide,HB.out⟩
  .have HE:Hid _:=Pe u v h0
   generalize fN v=n at*;obtain⟨m,hm⟩:=am (n- 1);rw[<-hm] at HE;have hnm:n=m+1:=(by omega);have q6:IntKind.i64.wrap ((n:Int)- 1)=(m:Int):=(by rw[lc];unfold wrap64;have:=HV.out;omega);have q7:((n:Int)==0)=false:=(by rw[aL];omega);have q2:(m:Int)<=(vb.size:Int):=(by omega);have hx:vb.extract 0 m=⟨(v.take m).toArray⟩:=(by rw[HVB.out];exact tw v m);have HSL:Hid (∀W,Calls Tryz.prog 118 #[.string ⟨(v.take m).toArray⟩] W λe w'=>e=.returned (.string ⟨(Lib.toLowerA (v.take m)).toArray⟩)/\Below W.heap.size W w'):=λW=>sr ⟨(v.take m).toArray⟩ W (by rw[al,cL];have:=HV.out;omega);obtain⟨sc,hsc⟩:=am (Lib.toLowerA (v.take m));rw[<-hsc] at HSL;have HE2:=hI (HE.out sc hsc.symm);have HSP2:Hid (∀W,Calls Tryz.prog 129 #[.string ⟨sc.toArray⟩] W λe w'=>e=.returned (.bool (ao sc))/\w'=W):=λW=>kI ⟨sc.toArray⟩ W;have HOW:Hid (∀W,Calls Tryz.prog 73 #[.string ⟨sc.toArray⟩] W λe w'=>e=.returned (.int .i64 (cE sc).1)/\w'=W):=λW=>qd ⟨sc.toArray⟩ W;obtain⟨nf,hnf⟩:=am (decide (sc=sFile));have e4:((⟨sc.toArray⟩:ByteArray).toList==[102,105,108,101])=nf:=by
    rw[hnf];by_cases h:sc=sFile
    .exact(fE sc _ h).trans (dC h).symm
    .exact(dV sc _ h).trans (ee h).symm
   rw[<-hnf,<-HFL.out,<-HSPE.out] at HE2;obtain⟨s2,hs2⟩:=am (ao sc);rw[<-hs2] at HE2 HSP2;generalize(⟨(v.take m).toArray⟩:ByteArray)=tb at*;have HSC:Hid (∃nb:ByteArray,nb=⟨sc.toArray⟩):=⟨_,rfl⟩;obtain⟨nb,hnb⟩:=HSC.out;rw[<-hnb] at HSL HSP2 HOW e4;have HNB:=hI hnb;clear HSC hnb hs2 hnf hsc HE hm hnm h0 hnl HSP HPO;go_wp2_with fail;refine af (HSL.out _) ?_;rintro e w1 ⟨rfl,hb1⟩;have hu1:=HU.out.off hb1;have HU1:=hI hu1;obtain⟨hbb, -,pv1,hat1⟩:=hu1;have HB1:=hI hbb;have d0:w1.cell? ⟨j,0,none⟩=some (.string sb):=(by rw[<-HSB.out];exact aa hat1.U 0);have f0:=aj hat1.U 0;clear hb1 hat1 hbb HSL q6 q7 q2 hx;have HE3:Hid (((s2 !=sp)||(nf !=fl))=true->res=.error 6):=by intro h;rw[HR.out,HE2.out,ae];revert h;cases s2<;>cases sp<;>cases nf<;>cases fl<;>simp
   have HE4:Hid (((s2 !=sp)||(nf !=fl))=false->res=.ok {u with s:=sc,t:={u.t with p:=eZ u.t.p sc}}):=(by intro h;rw[HR.out,HE2.out,ab];revert h;cases s2<;>cases sp<;>cases nf<;>cases fl<;>simp);clear HR HE2;go_upto_region 12 with fail;go_cut [72] from 59 to 72 (λx wx=>x=.bool ((s2 !=sp)||(nf !=fl))/\w1=wx)
   case first=>
    cases hne:(s2==sp)
    all_goals
     have HN:Hid ((s2 !=sp)= !(s2==sp)):=rfl;rw[hne] at HN;go_wp2_with fail;refine af (HSP2.out _) ?_;rintro e W0 ⟨rfl,hw⟩;obtain rfl:=hw.symm;go_wp2;go_meet;exact⟨by rw[HN.out];rfl,rfl⟩
   case rest=>
   obtain⟨rfl,rfl⟩:=hcut;clear HSP2 e4 e1;cases hbad:((s2 !=sp)||(nf !=fl)) with
   |true=>have hres:=HE3.out hbad;subst hres;clear HE3 HE4 hbad d0 f0 c0;go_wp2;go_ret;exact⟨rfl,by decide,HB1.out⟩
   |false=>
    have hres:=HE4.out hbad;subst hres;have HU2:Hid (Tryz.UW w0 j {u with s:=sc} (w1.setCell ⟨j,0,none⟩ (.string nb))):=(by rw[HNB.out];exact HU1.out.set 0 (.string ⟨sc.toArray⟩) (λ_=>rfl) rfl);clear HE3 HE4 hbad c0 HA;obtain⟨V,hV⟩:=am (w1.setCell ⟨j,0,none⟩ (.string nb));rw[<-hV] at HU2;have HVV:=hI hV;clear hV;go_upto_region 15 with fail;rw[<-HVV.out];obtain⟨hbb, -,pv2,hat2⟩:=HU2.out;have d5:V.cell? ⟨j,5,none⟩=some (.int .i64 u.t.p):=aa hat2.U 5;obtain⟨op,hop⟩:=am (cE sc).1;rw[<-hop] at HOW;have HOP:=hI hop;have HF5:Hid (∀n,(V.drewN n).cell? ⟨j,5,none⟩=some (.int .i64 u.t.p)/\(V.drewN n).frozen? ⟨j,5,none⟩=false):=λn=>⟨d5,aj (w:=V.drewN n) hat2.U 5⟩;clear hop hat2 hbb HVV d0 f0;go_cut [83] from 77 to 83 (λx wx=>x=.bool (u.t.p==op)/\∃n,wx=V.drewN n)
    case first=>go_quiet ((go_at_call 73;exact qH (HOW.out _)));go_wp2_with((go_at_call 73;refine(HOW.out _).mono ?_;rintro e W0 ⟨rfl,hw⟩;obtain rfl:=hw.symm));go_meet;exact⟨rfl,_,rfl⟩
    case rest=>
    obtain⟨rfl,n,rfl⟩:=hcut;obtain⟨g5,h5⟩:=HF5.out n;have HU3:Hid (Tryz.UW w0 j {u with s:=sc} (V.drewN n)):=HU2.out.off ⟨rfl,rfl,rfl,aG _,λ_ _=>rfl⟩;clear HF5 d5 HU2;generalize V.drewN n=V2 at*;cases hpe:(u.t.p==op) with
    |true=>have HU4:Hid (Tryz.UW w0 j {u with s:=sc,t:={u.t with p:=eZ u.t.p sc}} (V2.setCell ⟨j,5,none⟩ (.int .i64 (-1)))):=(by have e:eZ u.t.p sc= -1:=(by unfold eZ;rw[ae (by rw[<-HOP.out];exact eq_of_beq hpe)]);rw[e];exact HU3.out.set 5 (.int .i64 (-1)) (λ_=>rfl) rfl);clear hpe HU3;go_wp2;go_ret;exact⟨rfl,HU4.out⟩
    |false=>have HU4:Hid (Tryz.UW w0 j {u with s:=sc,t:={u.t with p:=eZ u.t.p sc}} V2):=(by have e:eZ u.t.p sc=u.t.p:=(by unfold eZ;rw[ab (by rw[<-HOP.out];exact ne_of_beq_false hpe)]);rw[e];exact HU3.out);clear hpe HU3;go_wp2;go_ret;exact⟨rfl,HU4.out⟩
 have b1:(part==1)=false:=by rw[aL];exact p1
 by_cases p2:part=2\/part=3\/part=5
 .have HR:Hid (res=gu u part v):=HRES.out.trans (Pr u part v p2)
  clear HRES b1 p1;cases hpo:(he||fl) with
  |true=>
   have HE:Hid (gu u part v=.error 6):=Pf u part v (HPO.out.trans hpo);have hres:=HR.out.trans HE.out;subst hres;clear HE hpo HES;rcases p2 with rfl|rfl|rfl;all_goals
    go_wp2;go_ret;exact⟨rfl,by decide,HB.out⟩
  |false=>
   have HE:=hI (HR.out.trans (Pg u part v (HPO.out.trans hpo)));clear hpo HR;have HEV:Hid (∀W,Calls Tryz.prog 40 #[.string vb,.int .i64 5] W λe w'=>e=.returned (.string ⟨(ah 5 v).toArray⟩)/\Below W.heap.size W w'):=λW=>by rw[HVB.out];exact HES.out v 5 W HV.out
   clear HES;rcases p2 with rfl|rfl|rfl
   .have hres:=HE.out
    subst hres;clear HE;go_wp2_with fail;refine af (HEV.out _) ?_;rintro e w1 ⟨rfl,hb1⟩;have hu1:=HU.out.off hb1;have HU1:=hI (hu1.set (u':={u with t:={u.t with e:=ah 5 v}}) 1 (.string ⟨(ah 5 v).toArray⟩) (λ_=>rfl) rfl);obtain⟨-, -,pv1,hat1⟩:=hu1;have d1:=aa hat1.U 1;have f1:=aj hat1.U 1;clear hb1 hat1 HEV;go_wp2;go_ret;exact⟨rfl,HU1.out⟩
   .have hres:=HE.out
    subst hres;clear HE;go_wp2_with fail;refine af (HEV.out _) ?_;rintro e w1 ⟨rfl,hb1⟩;have hu1:=HU.out.off hb1;have HU1:=hI (hu1.set (u':={u with t:={u.t with d:=ah 5 v}}) 2 (.string ⟨(ah 5 v).toArray⟩) (λ_=>rfl) rfl);obtain⟨-, -,pv1,hat1⟩:=hu1;have d1:=aa hat1.U 2;have f1:=aj hat1.U 2;clear hb1 hat1 HEV;go_wp2;go_ret;exact⟨rfl,HU1.out⟩
   .have HPT:Hid (∀W,Calls Tryz.prog 130 #[.string vb,.string sb] W λe w'=>e=.returned (.tuple #[.int .i64 (eM v u.s).1,.int .i64 (eM v u.s).2])/\w'=W):=λW=>by rw[HVB.out,<-HSB.out];exact As v u.s W (by have:=HV.out;omega)
    cases hrp:cV v u.s with
    |none=>have hpr:eM v u.s=(0,5):=(by unfold eM;rw[hrp]);rw[hpr] at HPT;have hres:res=.error 5:=(by rw[HE.out,hrp];rfl);subst hres;clear HE;clear hpr hrp HEV;go_wp2_with fail;refine af (HPT.out _) ?_;rintro e W0 ⟨rfl,hw⟩;obtain rfl:=hw.symm;go_wp2;go_ret;exact⟨rfl,by decide,HB.out⟩
    |some q=>have hpr:eM v u.s=(q,0):=(by unfold eM;rw[hrp]);rw[hpr] at HPT;have hres:res=.ok {u with t:={u.t with p:=q}}:=(by rw[HE.out,hrp];rfl);subst hres;clear HE;have HU1:=hI (HU.out.set (u':={u with t:={u.t with p:=q}}) 5 (.int .i64 q) (λ_=>rfl) rfl);have d1:=aa HA.out.U 5;have f1:=aj HA.out.U 5;clear hpr hrp HEV;go_wp2_with fail;refine af (HPT.out _) ?_;rintro e W0 ⟨rfl,hw⟩;obtain rfl:=hw.symm;go_wp2;go_ret;exact⟨rfl,HU1.out⟩
 have b2:(part==2)=false:=by rw[aL];omega
 have b3:(part==3)=false:=by rw[aL];omega
 have b5:(part==5)=false:=by rw[aL];omega
 by_cases p4:part=4
 .subst p4
  have HR:Hid (res=gg hostTell u v):=HRES.out;clear HRES HES b1 b2 b3 b5 p1 p2 HPO;have c1:w.cell? ⟨j,1,none⟩=some (.string ⟨u.t.e.toArray⟩):=aa HA.out.U 1;have c2:w.cell? ⟨j,2,none⟩=some (.string ⟨u.t.d.toArray⟩):=aa HA.out.U 2;have c5:w.cell? ⟨j,5,none⟩=some (.int .i64 u.t.p):=aa HA.out.U 5;have c6:w.cell? ⟨j,6,none⟩=some (.bool u.w.o):=aa HA.out.U 6;have g3:∀n,((w.drewN n).frozen? ⟨j,3,none⟩)=false:=λn=>aj (w:=w.drewN n) HA.out.U 3;have a1:∀W:World,(Op.stringOp .add ⟨u.t.e.toArray⟩ ⟨u.t.d.toArray⟩).run Tryz.prog W=.ok (.string ⟨(u.t.e++u.t.d).toArray⟩) W:=λW=>by
   rw[bm W _ _ (by rw[al,al];have:=HSM.out.e;have:=HSM.out.d;omega)];exact aB (λz=>Result.ok (Value.string z) W) (aP _ _)
  have e5:=ir (u.t.e++u.t.d);have HHO:Hid (∀x W,x=ij u v->Calls Tryz.prog 67 #[.string vb,.bool x] W λe w'=>fe (hostTell v (ij u v)) e/\Below W.heap.size W w'):=λx W hx=>by rw[HVB.out,hx];exact pH ⟨v.toArray⟩ (ij u v) W (by rw[al];exact HV.out)
  obtain⟨ve,hve⟩:=am v.isEmpty;have HVE:Hid (v=[]↔ve=true):=by show _↔_;rw[hve,ol]
  rw[<-hve] at e3;obtain⟨ue,hue⟩:=am (u.t.e++u.t.d).isEmpty;have HUE:Hid (u.t.e++u.t.d=[]↔ue=true):=by show _↔_;rw[hue,ol]
  rw[<-hue] at e5;obtain⟨op,hop⟩:=am u.w.o;rw[<-hop] at c6;have HOP:=hI hop;have HAR:Hid (ij u v=(sp&&!ve)):=by show _=_;unfold ij;rw[<-HSPE.out,hve]
  have hpp:=HSM.out.p;obtain⟨po,hpo⟩:=am u.t.p;rw[<-hpo] at c5 hpp;have HPP:=hI hpo;generalize(⟨(u.t.e++u.t.d).toArray⟩:ByteArray)=upb at*;generalize(⟨u.t.e.toArray⟩:ByteArray)=usb at*;generalize(⟨u.t.d.toArray⟩:ByteArray)=pab at*;obtain⟨pb,hpb⟩:=am (decide (0<=po));have HPB:=hI hpb;clear hve hue hop hpo;go_upto_region 33 with fail;go_cut [154] from 124 to 154 (λx wx=>x=.bool (op||(ve&&(!sp&&(!ue||pb))))/\∃n,wx=w.drewN n)
  case first=>
   cases op with
   |true=>go_quiet (fail);go_wp2;go_meet;exact⟨rfl,_,rfl⟩
   |false=>
    cases ve with
    |false=>go_quiet (fail);go_wp2;go_meet;exact⟨rfl,_,rfl⟩
    |true=>
     cases sp with
     |true=>go_quiet (fail);go_wp2;go_meet;exact⟨rfl,_,rfl⟩
     |false=>
      cases ue with
      |false=>go_quiet (fail);go_wp2;go_meet;exact⟨rfl,_,rfl⟩
      |true=>
       by_cases hp:0<=po
       .rw[dC hp] at hpb
        subst hpb;go_quiet (fail);go_wp2;go_meet;exact⟨rfl,_,rfl⟩
       .rw[ee hp] at hpb
        subst hpb;go_quiet (fail);go_wp2;go_meet;exact⟨rfl,_,rfl⟩
  case rest=>
  obtain⟨rfl,n,rfl⟩:=hcut;have HBN:Hid (Below w0.heap.size w0 (w.drewN n)):=HB.out.trans ⟨rfl,rfl,rfl,aG _,λ_ _=>rfl⟩;have HU1:Hid (Tryz.UW w0 j u (w.drewN n)):=HU.out.off ⟨rfl,rfl,rfl,aG _,λ_ _=>rfl⟩;have d0:(w.drewN n).cell? ⟨j,0,none⟩=some (.string sb):=c0;clear c1 c2 c5 c6 c0 a1 e5;generalize w.drewN n=V at*;cases hbad:(op||(ve&&(!sp&&(!ue||pb)))) with
  |true=>
   have HE:Hid (gg hostTell u v=.error 6):=by
    show _=_;cases ho:op with
    |true=>exact Ph u v (HOP.out.symm.trans ho)
    |false=>
     have h2:ve=true/\sp=false/\(ue=false\/pb=true):=(by rw[ho] at hbad;simpa using hbad);refine Pi u v (HVE.out.2 h2.1) (HSPE.out.symm.trans h2.2.1) ?_;rcases h2.2.2 with h3|h3
     .exact Or.inl λx=>by have:=HUE.out.1 x;rw[h3] at this;cases this
     .exact Or.inr (by rw[<-HPP.out];exact ik (HPB.out.symm.trans h3))
   have hres:=HR.out.trans HE.out;subst hres;clear HE hbad;go_wp2;go_ret;exact⟨rfl,by decide,HBN.out⟩
  |false=>
   have HB2:Hid (op=false/\¬(v=[]/\ao u.s=false/\(u.t.e++u.t.d≠[]\/0<=u.t.p))):=by
    have hh:op=false/\¬(ve=true/\sp=false/\(ue=false\/pb=true)):=(by revert hbad;cases op<;>cases ve<;>cases sp<;>cases ue<;>cases pb<;>simp);refine⟨hh.1,λx=>hh.2 ⟨HVE.out.1 x.1,HSPE.out.trans x.2.1,?_⟩⟩;rcases x.2.2 with h3|h3
    .refine Or.inl ?_
     cases hu:ue with
     |false=>rfl
     |true=>exact absurd (HUE.out.2 hu) h3
    .exact Or.inr (HPB.out.trans (dC (by rw[HPP.out];exact h3)))
   clear hbad;go_upto_region 35 with fail;go_cut [166] from 155 to 166 (λx wx=>x=.bool (ve&&(sp&&!fl))/\V=wx)
   case first=>
    cases ve with
    |false=>go_wp2;go_meet;exact⟨rfl,rfl⟩
    |true=>
     cases sp with
     |false=>go_wp2;go_meet;exact⟨rfl,rfl⟩
     |true=>go_wp2;go_meet;exact⟨by simp,rfl⟩
   case rest=>
   obtain⟨rfl,rfl⟩:=hcut;cases hbd2:(ve&&(sp&&!fl)) with
   |true=>have hh:ve=true/\sp=true/\fl=false:=(by revert hbd2;cases ve<;>cases sp<;>cases fl<;>simp);have hres:=HR.out.trans (Pn u v (HOP.out.symm.trans HB2.out.1) (HVE.out.2 hh.1) (HSPE.out.symm.trans hh.2.1) (Bx (HFL.out.symm.trans hh.2.2)));subst hres;clear hbd2 hh HB2;go_wp2;go_ret;exact⟨rfl,by decide,HBN.out⟩
   |false=>
    have HE:=hI (HR.out.trans (Po u v (HOP.out.symm.trans HB2.out.1) HB2.out.2 (λx=>by
     have h1:=HVE.out.1 x.1;have h2:=HSPE.out.trans x.2.1;have h3:=HFL.out.trans (ee x.2.2);rw[h1,h2,h3] at hbd2;cases hbd2) (HSM.out.p.imp id (λh=>h.1))))
    clear hbd2 HB2 HR;go_upto_region 37 with fail;go_cut [14,15] from 167 to 176 (λx y wx=>fe (hostTell v (ij u v)) (.returned (.tuple #[x,y]))/\Below V.heap.size V wx)
    case first=>
     cases sp with
     |false=>
      have HH:=hI (HHO.out false V (by rw[HAR.out];rfl));go_wp2_with fail;refine af HH.out ?_;rintro e w1 ⟨hr,hb1⟩;have HX:Hid (∃x y,e=.returned (.tuple #[x,y])):=by
       cases hh:hostTell v (ij u v) with
       |none=>rw[hh] at hr;obtain⟨x,rfl⟩:=hr;exact⟨_,_,rfl⟩
       |some t=>rw[hh] at hr;exact⟨_,_,hr⟩
      obtain⟨x,y,rfl⟩:=HX.out;have HR1:=hI hr;have HB1:=hI hb1;clear hr hb1 HX HH;go_wp2;go_meet;exact⟨HR1.out,HB1.out⟩
     |true=>
      have HH:=hI (HHO.out (!ve) V (by rw[HAR.out];rfl));go_wp2_with fail;refine af HH.out ?_;rintro e w1 ⟨hr,hb1⟩;have HX:Hid (∃x y,e=.returned (.tuple #[x,y])):=by
       cases hh:hostTell v (ij u v) with
       |none=>rw[hh] at hr;obtain⟨x,rfl⟩:=hr;exact⟨_,_,rfl⟩
       |some t=>rw[hh] at hr;exact⟨_,_,hr⟩
      obtain⟨x,y,rfl⟩:=HX.out;have HR1:=hI hr;have HB1:=hI hb1;clear hr hb1 HX HH;go_wp2;go_meet;exact⟨HR1.out,HB1.out⟩
    case rest=>
    obtain⟨hr,hb1⟩:=hcut;have hu1:=HU1.out.off hb1;have HU2:=hI hu1;obtain⟨hbb, -,pv1,hat1⟩:=hu1;have HB1:=hI hbb;have k0:wc.cell? ⟨j,0,none⟩=some (.string sb):=(by rw[<-HSB.out];exact aa hat1.U 0);have k3:=aa hat1.U 3;have k4:=aa hat1.U 4;have f3:=aj hat1.U 3;have f4:=aj hat1.U 4;clear hb1 hbb hat1 HHO d0;cases ht:hostTell v (ij u v) with
    |none=>rw[ht] at hr HE;obtain⟨x,hx⟩:=hr;injection hx with hx;injection hx with hx;injection hx with hx;injection hx with hx1 hx2;injection hx2 with hx2 _;subst hx1 hx2;have hres:=HE.out;subst hres;clear HE ht;go_wp2;go_ret;exact⟨rfl,by decide,HB1.out⟩
    |some t=>
     rw[ht] at hr HE;injection hr with hx;injection hx with hx;injection hx with hx;injection hx with hx1 hx2;injection hx2 with hx2 _;subst hx1 hx2;have hres:=HE.out;subst hres;clear HE ht;have HFI:Hid (∀h,kT u t=h->Tryz.UW w0 j {u with t:={u.t with has:=true,h:=kT u t}} ((wc.setCell ⟨j,3,none⟩ (.bool true)).setCell ⟨j,4,none⟩ (.string ⟨h.toArray⟩))):=by intro h e;rw[<-e];exact(HU2.out.set (u':={u with t:={u.t with has:=true}}) 3 (.bool true) (λ_=>rfl) rfl).set 4 _ (λ_=>rfl) rfl
     have HF4:Hid ((wc.setCell ⟨j,3,none⟩ (.bool true)).frozen? ⟨j,4,none⟩=false):=(by obtain⟨_,_,pv3,hat3⟩:=HU2.out.set (u':={u with t:={u.t with has:=true}}) 3 (.bool true) (λ_=>rfl) rfl;exact aj hat3.U 4);have f5:=HF4.out;cases fl with
     |false=>have HFF:=hI (HFI.out t (by unfold kT;rw[ab (λx=>Bx HFL.out.symm x.1)]));clear HFI;go_wp2;go_ret;exact⟨rfl,HFF.out⟩
     |true=>
      have hfs:=ik HFL.out.symm;by_cases hl:t=[108,111,99,97,108,104,111,115,116]
      .have e7:=fE t _ hl
       have HFF:=hI (HFI.out [] (by unfold kT;rw[ae ⟨hfs,hl⟩]));generalize(⟨t.toArray⟩:ByteArray)=tb at*;clear HFI hfs hl;go_wp2;go_ret;exact⟨rfl,HFF.out⟩
      .have e7:=dV t _ hl
       have HFF:=hI (HFI.out t (by unfold kT;rw[ab (λx=>hl x.2)]));generalize(⟨t.toArray⟩:ByteArray)=tb at*;clear HFI hfs hl;go_wp2;go_ret;exact⟨rfl,HFF.out⟩
 have b4:(part==4)=false:=by rw[aL];exact p4
 by_cases p6:part=6
 .subst p6
  have HR:Hid (res=iU u v):=HRES.out;clear HRES HES b1 b2 b3 b4 b5 p1 p2 p4;have c3:w.cell? ⟨j,3,none⟩=some (.bool u.t.has):=aa HA.out.U 3;have c6:w.cell? ⟨j,6,none⟩=some (.bool u.w.o):=aa HA.out.U 6;have c7:=aa HA.out.U 7;have f7:=aj HA.out.U 7;obtain⟨ve,hve⟩:=am v.isEmpty;have HVE:Hid (v=[]↔ve=true):=by show _↔_;rw[hve,ol]
  rw[<-hve] at e3;obtain⟨has,hhas⟩:=am u.t.has;obtain⟨op,hop⟩:=am u.w.o;rw[<-hhas] at c3;rw[<-hop] at c6;have HAS:=hI hhas;have HOP:=hI hop;clear hve hhas hop;go_upto_region 45 with fail;go_cut [211] from 197 to 211 (λx wx=>x=.bool (op||(!has&&ve))/\w=wx)
  case first=>
   cases op with
   |true=>go_wp2;go_meet;exact⟨rfl,rfl⟩
   |false=>
    cases has with
    |true=>go_wp2;go_meet;exact⟨rfl,rfl⟩
    |false=>go_wp2;go_meet;exact⟨by simp,rfl⟩
  case rest=>
  obtain⟨rfl,rfl⟩:=hcut;clear c3 c6;cases hbad:(op||(!has&&ve)) with
  |true=>
   have HE:Hid (iU u v=.error 6):=by
    show _=_;unfold iU;rw[<-HOP.out,<-HAS.out];cases op with
    |true=>rfl
    |false=>
     rw[ab (by simp),ae];have:has=false/\ve=true:=by simpa using hbad
     exact⟨this.1,HVE.out.2 this.2⟩
   have hres:=HR.out.trans HE.out;subst hres;clear HE hbad;go_wp2;go_ret;exact⟨rfl,by decide,HB.out⟩
  |false=>have hb2:op=false/\¬(has=false/\ve=true):=(by cases op<;>cases has<;>cases ve<;>simp_all);have HE:Hid (iU u v=.ok {u with w:=aV u.s [] (aq u.s v)}):=(by show _=_;unfold iU;rw[<-HOP.out,<-HAS.out,ab (by rw[hb2.1];simp),ab (λx=>hb2.2 ⟨x.1,HVE.out.1 x.2⟩)]);have hop0:u.w.o=false:=HOP.out.symm.trans hb2.1;obtain⟨w1,hw1⟩:=am (w.setCell ⟨j,7,none⟩ (.slice none 0 0));have hz1:w1.heap.size=w.heap.size:=(by rw[hw1];simp);have hjz:j<w.heap.size:=(aT.1 HA.out.U).1;have hu1:w1.heap[j]?=some (.cells (bD {u with w:=⟨false,[],[]⟩} (.slice none 0 0)) 116 (0,0)):=(by have:=aD w j 7 _ _ (.slice none 0 0) HA.out.U;rw[hw1,this];unfold bD;rw[hop0];rfl);have hbz:=HB.out.size;have HM:Hid (Tryz.Mem w0.heap.size (w.heap.size+1) w.heap.size j (.pointer none) ⟨v.toArray⟩ w0 {u with w:=⟨false,[],[]⟩} (.slice none 0 0) 0 0 0 (w1.alloc (.cells (jY j (.pointer none) ⟨v.toArray⟩ 0 0 0) 168))):=(by have h2:=cj w1 (jY j (.pointer none) ⟨v.toArray⟩ 0 0 0) 168;rw[hz1] at h2;refine⟨?_,h2,(uD _ _ j (by omega)).trans hu1,by omega,HJ.out,by omega,by omega,by omega,by simp;omega,Or.inl ⟨rfl,rfl,Or.inl ⟨rfl,rfl⟩⟩⟩;rw[hw1];exact(HB.out.setCell HJ.out _).alloc (by simp;omega) _);have HAG:=hI (OZ v HM.out HV.out);have hres:=HR.out.trans HE.out;subst hres;rw[<-HVB.out] at HAG;have HW1:=hI hw1;clear HE hbad hb2 hop0 hu1 hbz hw1 HM;go_upto_region 49 with fail;rw[<-HW1.out];clear HW1 c7 f7 HR;unfold jY at HAG;go_wp2_with fail;refine af HAG.out ?_;rintro e w2 ⟨rfl,pv2,a2,s2,hm2⟩;have HU2:Hid (Tryz.UW w0 j {u with w:=aV u.s [] (aq u.s v)} w2):=⟨hm2.below,HJ.out,pv2,hm2.at⟩;clear hm2;go_wp2;go_ret;exact⟨rfl,HU2.out⟩
 have b6:(part==6)=false:=by rw[aL];exact p6
 by_cases p7:part=7
 .subst p7
  have HR:Hid (res=.ok {u with q:=eD 63 (bE u.s) v}):=HRES.out;clear HRES b1 b2 b3 b4 b5 b6 p1 p2 p4 p6 HPO c0 e1;have d1:=aa HA.out.U 8;have g1:=aj HA.out.U 8;obtain⟨ve,hve⟩:=am v.isEmpty;have HVE:=hI hve;rw[<-hve] at e3;obtain⟨V,hV⟩:=am (w.setCell ⟨j,8,none⟩ (.bool (!ve)));have HVV:=hI hV;have hV9:V.heap[j]?=_:=(aB (λx:World=>x.heap[j]?) hV).trans (aD w j 8 _ _ (.bool (!ve)) HA.out.U);have d2:=aa hV9 9;have g2:=aj hV9 9;have HV9:=hI hV9;obtain⟨tb,htb⟩:=am (⟨(cX 63 v).toArray⟩:ByteArray);have hlt:(cX 63 v).length<=2000:=by
   have:=HV.out;unfold cX;cases v with
   |nil=>simp
   |cons x l=>
    simp only[dL] at this⊢;split
    .omega
    .simpa using this
  obtain⟨qs,hqs⟩:=am (bE u.s);have HQS:Hid (qs=if sp=true then 3 else 2):=by show _=_;rw[hqs];unfold bE;rw[<-HSPE.out]
  rw[<-hqs] at HR;clear hqs;have HEV:Hid (∀W,Calls Tryz.prog 40 #[.string tb,.int .i64 qs] W λe w'=>e=.returned (.string ⟨(ah qs (cX 63 v)).toArray⟩)/\Below W.heap.size W w'):=λW=>by rw[htb];exact HES.out _ qs W hlt
  have HTB:=hI htb;have HFIN:Hid (∀w',Below V.heap.size V w'->Tryz.UW w0 j {u with q:=eD 63 qs v} (w'.setCell ⟨j,9,none⟩ (.string ⟨(ah qs (cX 63 v)).toArray⟩))):=by intro w' hb;obtain⟨t1,t2⟩:=Bg qs 63 v (!ve) (by rw[hve]);rw[hV] at hb;refine HU.out.two 8 9 _ _ hb (λpv=>?_) rfl;unfold bD;rw[t1,t2];rfl
  clear hve hV hV9 htb hlt HES;have hcase:(ve=true/\tb=vb)\/(ve=false/\(1:Int)<=(vb.size:Int)/\∃h:0<vb.size,((vb[0].toNat:Int)==63)=true/\vb.extract 1 vb.size=tb)\/(ve=false/\(1:Int)<=(vb.size:Int)/\∃h:0<vb.size,((vb[0].toNat:Int)==63)=false/\tb=vb):=by
   have h1:=HVB.out;have h2:=HTB.out;have h3:=HVE.out;cases v with
   |nil=>exact Or.inl ⟨h3,by rw[h1,h2];rfl⟩
   |cons c l=>
    have hz0:0<vb.size:=(by rw[h1,al];simp);have hx0:vb[0]=c:=by
     have:∀(s:ByteArray) (h:0<s.size),s=⟨(c::l).toArray⟩->s[0]=c:=by intro s h e;subst e;rfl
     exact this vb hz0 h1
    refine Or.inr ?_;by_cases hc:c=63
    .refine Or.inl ⟨h3,by omega,hz0,by rw[hx0,hc];rfl,?_⟩
     have:(⟨(c::l).toArray⟩:ByteArray).size=l.length+1:=by rw[al];rfl
     rw[h2,h1,this,fJ];rw[show cX 63 (c::l)=l from ae hc];simp
    .refine Or.inr ⟨h3,by omega,hz0,?_,?_⟩
     .rw[aL,hx0]
      intro e;exact hc (cU.1 (by show c.toNat=63;omega))
     .rw[h1,h2]
      rw[show cX 63 (c::l)=c::l from ab hc]
  have hres:=HR.out;subst hres;have HD9:Hid (∀w',Below V.heap.size V w'->(∃x,w'.cell? ⟨j,9,none⟩=some x)/\w'.frozen? ⟨j,9,none⟩=false):=λw' hb=>⟨⟨_,aa ((hb.block j (aT.1 HV9.out).1).trans HV9.out) 9⟩,aj ((hb.block j (aT.1 HV9.out).1).trans HV9.out) 9⟩;clear HR d2 g2 HV9 HA HU;have hvz2:vb.size<=2000:=by have:=HV.out;omega
  clear hvz;go_upto_if 224 with fail
  go_cut [17] from 224 to 224 (λx wx=>x=.int .i64 qs/\w=wx)
  case first=>
   cases sp with
   |true=>go_wp2;go_meet;exact⟨by rw[HQS.out];rfl,rfl⟩
   |false=>go_wp2;go_meet;exact⟨by rw[HQS.out];rfl,rfl⟩
  case rest=>
  obtain⟨rfl,rfl⟩:=hcut;rcases hcase with⟨h1,h2⟩|⟨h1,h2,h3,h4,h5⟩|⟨h1,h2,h3,h4,h5⟩;case' inl=>subst h1 h2
  case' inr.inl=>subst h1
  case' inr.inr=>subst h1 h5
  all_goals
   go_upto_region 55 with fail;simp only[Bool.not_true,uz] at HVV;rw[<-HVV.out];clear d1 g1;go_wp2_with fail;refine af (HEV.out _) ?_;rintro e w1 ⟨rfl,hb1⟩;have HU1:=hI (HFIN.out w1 hb1);obtain⟨⟨x2,d2⟩,f2⟩:=HD9.out w1 hb1;clear hb1 HFIN HEV HD9;go_wp2;go_ret;exact⟨rfl,HU1.out⟩
 have b7:(part==7)=false:=by rw[aL];exact p7
 by_cases p8:part=8
 .subst p8
  have HR:Hid (res=.ok {u with f:=eD 35 1 v}):=HRES.out;clear HRES b1 b2 b3 b4 b5 b6 b7 p1 p2 p4 p6 p7 HPO c0 e1;have d1:=aa HA.out.U 10;have g1:=aj HA.out.U 10;obtain⟨ve,hve⟩:=am v.isEmpty;have HVE:=hI hve;rw[<-hve] at e3;obtain⟨V,hV⟩:=am (w.setCell ⟨j,10,none⟩ (.bool (!ve)));have HVV:=hI hV;have hV9:V.heap[j]?=_:=(aB (λx:World=>x.heap[j]?) hV).trans (aD w j 10 _ _ (.bool (!ve)) HA.out.U);have d2:=aa hV9 11;have g2:=aj hV9 11;have HV9:=hI hV9;obtain⟨tb,htb⟩:=am (⟨(cX 35 v).toArray⟩:ByteArray);have hlt:(cX 35 v).length<=2000:=by
   have:=HV.out;unfold cX;cases v with
   |nil=>simp
   |cons x l=>
    simp only[dL] at this⊢;split
    .omega
    .simpa using this
  have HEV:Hid (∀W,Calls Tryz.prog 40 #[.string tb,.int .i64 1] W λe w'=>e=.returned (.string ⟨(ah 1 (cX 35 v)).toArray⟩)/\Below W.heap.size W w'):=λW=>by rw[htb];exact HES.out _ 1 W hlt
  have HTB:=hI htb;have HFIN:Hid (∀w',Below V.heap.size V w'->Tryz.UW w0 j {u with f:=eD 35 1 v} (w'.setCell ⟨j,11,none⟩ (.string ⟨(ah 1 (cX 35 v)).toArray⟩))):=by intro w' hb;obtain⟨t1,t2⟩:=Bg 1 35 v (!ve) (by rw[hve]);rw[hV] at hb;refine HU.out.two 10 11 _ _ hb (λpv=>?_) rfl;unfold bD;rw[t1,t2];rfl
  clear hve hV hV9 htb hlt HES;have hcase:(ve=true/\tb=vb)\/(ve=false/\(1:Int)<=(vb.size:Int)/\∃h:0<vb.size,((vb[0].toNat:Int)==35)=true/\vb.extract 1 vb.size=tb)\/(ve=false/\(1:Int)<=(vb.size:Int)/\∃h:0<vb.size,((vb[0].toNat:Int)==35)=false/\tb=vb):=by
   have h1:=HVB.out;have h2:=HTB.out;have h3:=HVE.out;cases v with
   |nil=>exact Or.inl ⟨h3,by rw[h1,h2];rfl⟩
   |cons c l=>
    have hz0:0<vb.size:=(by rw[h1,al];simp);have hx0:vb[0]=c:=by
     have:∀(s:ByteArray) (h:0<s.size),s=⟨(c::l).toArray⟩->s[0]=c:=by intro s h e;subst e;rfl
     exact this vb hz0 h1
    refine Or.inr ?_;by_cases hc:c=35
    .refine Or.inl ⟨h3,by omega,hz0,by rw[hx0,hc];rfl,?_⟩
     have:(⟨(c::l).toArray⟩:ByteArray).size=l.length+1:=by rw[al];rfl
     rw[h2,h1,this,fJ];rw[show cX 35 (c::l)=l from ae hc];simp
    .refine Or.inr ⟨h3,by omega,hz0,?_,?_⟩
     .rw[aL,hx0]
      intro e;exact hc (cU.1 (by show c.toNat=35;omega))
     .rw[h1,h2]
      rw[show cX 35 (c::l)=c::l from ab hc]
  have hres:=HR.out;subst hres;have HD9:Hid (∀w',Below V.heap.size V w'->(∃x,w'.cell? ⟨j,11,none⟩=some x)/\w'.frozen? ⟨j,11,none⟩=false):=λw' hb=>⟨⟨_,aa ((hb.block j (aT.1 HV9.out).1).trans HV9.out) 11⟩,aj ((hb.block j (aT.1 HV9.out).1).trans HV9.out) 11⟩;clear HR d2 g2 HV9 HA HU;have hvz2:vb.size<=2000:=by have:=HV.out;omega
  clear hvz;rcases hcase with⟨h1,h2⟩|⟨h1,h2,h3,h4,h5⟩|⟨h1,h2,h3,h4,h5⟩;case' inl=>subst h1 h2
  case' inr.inl=>subst h1
  case' inr.inr=>subst h1 h5
  all_goals
   go_upto_region 60 with fail;simp only[Bool.not_true,uz] at HVV;rw[<-HVV.out];clear d1 g1;go_wp2_with fail;refine af (HEV.out _) ?_;rintro e w1 ⟨rfl,hb1⟩;have HU1:=hI (HFIN.out w1 hb1);obtain⟨⟨x2,d2⟩,f2⟩:=HD9.out w1 hb1;clear hb1 HFIN HEV HD9;go_wp2;go_ret;exact⟨rfl,HU1.out⟩
 have b8:(part==8)=false:=by rw[aL];exact p8
 have HR:Hid (res=.error 6):=HRES.out.trans (Ps u part v (by omega));have hres:=HR.out;subst hres;clear HR HES p1 p2 p4 p6 p7 p8;go_wp2;go_ret;exact⟨rfl,by decide,HB.out⟩
end Go.Proofs
