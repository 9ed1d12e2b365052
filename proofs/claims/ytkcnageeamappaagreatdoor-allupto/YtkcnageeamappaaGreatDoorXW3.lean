import Derived.Test.YtkcnageeamappaaGreatDoorXV2
set_option maxHeartbeats 32000000
set_option maxRecDepth 8000
set_option linter.unusedSimpArgs false
namespace Go.Proofs
open Go.RowKit Go.Moor Go.Proofs.Tryz Go.Moor
theorem xC {k:Nat} {w w':World} (d:w'.os=w.os) (b:w'.tape=w.tape) (c:w'.output=w.output) (a:w'.heap=w.heap):Below k w w':=⟨d,b,c,by grind,λ_ _=>by rw[a]⟩
theorem mm (a b:Bs):(⟨a.toArray⟩:ByteArray)++⟨b.toArray⟩=⟨(a++b).toArray⟩:=by rfl
theorem xD:∀l:List Bs,Lib.join l [38]=gP l
 | []=>rfl
 | [x]=>Lib.join_one x [38]
 |x::y::l=>by
  have a:=xD (y::l);rw[ou] at a⊢;show x++Lib.joinTail [38] (y::l)=x++38::gP (y::l);rw[<-a];simp[Lib.joinTail]
theorem xE (K:Nat):∀l:List Bs,(∀x∈l,x.length<=K)->(gP l).length<=(K+1)*l.length
 | [],_=>by simp[gP]
 | [x],h=>by
  grind[gP]
 |x::y::l,h=>by
  have a:=xE K (y::l) (λz hz=>h z (by simp[hz]));have b:=h x (by simp);simp only[gP,cC,dL] at a⊢;rw[Nat.mul_add,Nat.mul_one];omega
theorem rX (l:Bs):(aK l).length<=3*l.length:=by
 induction l with
 |nil=>simp[aK]
 |cons c l a=>grind[iW,dq,aK]
def gQ (ps:List (Bs×Bs)) (q:Nat):Array Value:=((ps.take q).map (λp=>Value.string ⟨(piece aK p).toArray⟩)++List.replicate (ps.length- q) (Value.string ⟨#[]⟩)).toArray
theorem Hi (a:List (Bs×Bs)) (q:Nat) (p:Bs×Bs) (h:a[q]?=some p):(gQ a q).setIfInBounds q (.string ⟨(piece aK p).toArray⟩)=gQ a (q+1):=by
 have d:=(dN.1 h).1;apply qT;unfold gQ;rw[Array.toList_setIfInBounds];simp only;have c:(List.map (λp=>Value.string ⟨(piece aK p).toArray⟩) (a.take q)).length=q:=by simp;omega
 obtain⟨m,b⟩:∃m,a.length- q=m+1:=⟨a.length- q- 1,by omega⟩;rw[b,show a.length-(q+1)=m by omega,uu,jf,h,kg,Option.toList_some,eU];rw[kh _ _ (by omega),c,lI];rfl
theorem Hj (a:List (Bs×Bs)):gQ a a.length=(a.map (λp=>Value.string ⟨(piece aK p).toArray⟩)).toArray:=by simp[gQ]
theorem Hk:(prog.info? 9).map (λi=>(i.zero,i.size,i.bytes))=some (some (.string ⟨#[]⟩),1,16):=by kernel_rfl
theorem Hl (ps:List (Bs×Bs)) (v:Value) (w:World) (hv:PairRow w v ps) (hx:∀p∈ps,p.1.length<=3000/\p.2.length<=3000) (hn:ps.length<=2097152) (henv:EnvP w):Calls prog 135 #[v] w fun e w'=>e=.returned (.string ⟨(eE ps).toArray⟩)/\Bl w w':=by
 obtain⟨i0,hi,hz0,hz1,hz2⟩:=fA Hk;obtain⟨sp,cap,rfl,hnc,hcm,hf⟩:=hv;unfold maxLen at hcm;have HS:Hid (∀(j:Nat) p,ps[j]?=some p->∃g,sp=some (Ad g 0)/\∀wr,Bl w wr->Ce wr g (j*2) (.string ⟨p.1.toArray⟩)/\Ce wr g (j*2+1) (.string ⟨p.2.toArray⟩)/\g<wr.heap.size):=by intro j p hj;obtain⟨g,hg,hz,c1,c2⟩:=hf j p hj;exact⟨g,hg,fun wr hb=>⟨(hb.cell (p:=(Ad g (j*2))) hz).trans c1,(hb.cell (p:=(Ad g (j*2+1))) hz).trans c2,cq hz hb.size⟩⟩
 have HX:=hI hx;have HT:=hI fun t w1 ht h1=>GW t w1 ht (henv.below h1);have HJ:Hid (∀w1,w.heap.size<w1.heap.size->w1.heap[w.heap.size]?=some (.cells (gQ ps ps.length) 9 (0,0))->CB 189 #[.slice (some (Ad w.heap.size 0)) ps.length ps.length,.string ⟨#[38]⟩] w1 (.string ⟨(eE ps).toArray⟩)):=by
  intro w1 hz hr;by_cases h0:ps=[]
  .subst h0
   refine(strings_Join_none _ _ _ w1).mono ?_;rintro e w' ⟨rfl,rfl⟩;exact⟨rfl,ai _ _⟩
  .have hcells:∀(j:Nat) x,(ps.map fun p=>(⟨(piece aK p).toArray⟩:ByteArray))[j]?=some x->w1.cell? ⟨w.heap.size,0+j,none⟩=some (.string x):=by
    intro j x hj;rw[fy,um] at hj;obtain⟨p,hp,rfl⟩:=hj;rw[Hj] at hr;rw[fP];unfold World.cell?;simp[hr,hp]
   have hm:(ps.map fun p=>(⟨(piece aK p).toArray⟩:ByteArray)).map (·.data.toList)=ps.map (piece aK):=(by simp);have he:Lib.join ((ps.map fun p=>(⟨(piece aK p).toArray⟩:ByteArray)).map (·.data.toList)) (⟨#[38]⟩:ByteArray).data.toList=eE ps:=(by rw[hm];exact xD _);have hl:(eE ps).length<=20000*2097152:=by
    have:=xE 19000 (ps.map (piece aK)) (fun x hx=>by
     grind[rX,piece])
    rw[gX] at this;exact bu this (by omega)
   have h:=strings_Join w.heap.size 0 ps.length (ps.map fun p=>(⟨(piece aK p).toArray⟩:ByteArray)) ⟨#[38]⟩ w1 hcells hz (by simp;omega) (by simp) (by rw[he];omega);rw[he] at h;rw[gX] at h;exact h
 have hmade:madeCells #[Value.string ⟨#[]⟩] ps.length=gQ ps 0:=by apply qT;rw[toList_madeCells_one];unfold gQ;simp
 clear hf hx henv;go_enter func135,ntmps135;go_wp2_with(refine wpList_make_row _ rfl _ _ 28 rfl 9 i0 (.string ⟨#[]⟩) underlying28 hi hz0 hz1 rfl _ _ ps.length rfl rfl (by rw[hz2];omega) (by omega) ?_);obtain⟨W,hW⟩:=am (w.alloc (.cells (gQ ps 0) 9));rw[<-hW];have HW0:Hid (W.heap[w.heap.size]?=some (.cells (gQ ps 0) 9 (0,0))/\Bl w W):=by rw[hW];exact⟨dO w _,(ai _ _).alloc (aG _) _⟩
 clear hW hmade hi hz0 hz1 hz2;go_loopw [11] (fun i wr=>∃q:Nat,q<=ps.length/\i=Iv q/\wr.heap[w.heap.size]?=some (.cells (gQ ps q) 9 (0,0))/\Bl w wr) (fun i _=>ps.length-(intOf i).toNat)
 case atStart=>exact⟨0,aR _,rfl,HW0.out.1,HW0.out.2⟩
 case round=>
  rename_i wr _;obtain⟨q,hq,rfl,hrow,hb⟩:=hrel;have HB:=hI hb;have HROW:=hI hrow;have hwz:=(aT.1 hrow).1;by_cases hlt:q<ps.length
  .obtain⟨p,hp⟩:∃p,ps[q]?=some p:=⟨ps[q],bY hlt⟩
   obtain⟨g,hsp,hc⟩:=HS q p hp;subst hsp;obtain⟨c1,c2,hgz⟩:=hc _ hb;have hxl:=HX p (ef hp);have HNX:=hI (Hi ps q p hp);have hl1:=rX p.1;have hl2:=rX p.2;have HT1:=hI fun w1 h1=>HT p.1 w1 (by omega) h1;have HT2:=hI fun w1 h1=>HT p.2 w1 (by omega) h1;have HAP:Hid ((⟨(aK p.1).toArray⟩:ByteArray)++⟨#[61]⟩++⟨(aK p.2).toArray⟩=⟨(piece aK p).toArray⟩):=by show _=_;have h1:(⟨(aK p.1).toArray⟩:ByteArray)++⟨#[61]⟩=⟨(aK p.1++ [61]).toArray⟩:=mm _ [61];rw[h1,mm];unfold piece;simp
   have hz1:(⟨(aK p.1).toArray⟩:ByteArray).size=(aK p.1).length:=al _;have hz2:(⟨(aK p.2).toArray⟩:ByteArray).size=(aK p.2).length:=al _;have z61:(⟨#[61]⟩:ByteArray).size=1:=rfl;generalize(⟨(aK p.1).toArray⟩:ByteArray)=t1 at*;generalize(⟨(aK p.2).toArray⟩:ByteArray)=t2 at*;generalize(⟨p.1.toArray⟩:ByteArray)=x1 at*;generalize(⟨p.2.toArray⟩:ByteArray)=x2 at*;have g0:∀W:World,(Op.stringOp .add t1 ⟨#[61]⟩).run prog W=.ok (.string (t1++⟨#[61]⟩)) W:=fun W=>bm W _ _ (by omega);have g1:∀W:World,(Op.stringOp .add (t1++⟨#[61]⟩) t2).run prog W=.ok (.string (t1++⟨#[61]⟩++t2)) W:=fun W=>bm W _ _ (by grind);obtain⟨V,hV⟩:=am (wr.alloc (.cells #[.string x1,.string x2] 62));have hVB:Bl wr V:=(by rw[hV];exact(ai _ _).alloc (aG _) _);have hVs:V.heap.size=wr.heap.size+1:=(by rw[hV];simp);have hVc:V.heap[wr.heap.size]?=some (.cells #[.string x1,.string x2] 62 (0,0)):=(by rw[hV];exact dO wr _);have HVC:Hid (∀w1,Below V.heap.size V w1->w1.cell? ⟨wr.heap.size,0,none⟩=some (.string x1)/\w1.cell? ⟨wr.heap.size,1,none⟩=some (.string x2)):=(by intro w1 h1;have k:=(h1.block wr.heap.size (by omega)).trans hVc;unfold World.cell?;simp[k]);have HVR:Hid (∀w1,Bl V w1->w1.heap[w.heap.size]?=some (.cells (gQ ps q) 9 (0,0))):=fun w1 h1=>((h1.block w.heap.size (by omega)).trans (hVB.block w.heap.size hwz)).trans HROW;have HVB:Hid (∀w1,Bl V w1->Bl w w1):=fun w1 h1=>(HB.out.trans (hVB.mono (by omega))).trans (h1.mono (by omega));have HVR2:Hid (∀w1,Below V.heap.size V w1->w1.cell? ⟨w.heap.size,q,none⟩=some (.string ⟨#[]⟩)/\w1.frozen? ⟨w.heap.size,q,none⟩=false):=by
    intro w1 h1;have k:=HVR w1 h1;have hq0:(gQ ps q)[q]?=some (.string ⟨#[]⟩):=by unfold gQ;rw[kW];have hl:(List.map (fun p=>Value.string ⟨(piece aK p).toArray⟩) (ps.take q)).length=q:=(by simp;omega);obtain⟨m,hm⟩:∃m,ps.length- q=m+1:=⟨ps.length- q- 1,by omega⟩;rw[mX (by omega),hl,lI,hm];rfl
    constructor
    .grind[World.cell?]
    .grind[World.frozen?]
   have HV:=hI hV;obtain⟨v0,v1⟩:=HVC V (ai _ _);have HNE:=hI ((by omega:w.heap.size≠wr.heap.size));clear hb hrow hp hV hVB hVs hVc;go_upto_region 5 with fail;rw[<-HV.out];clear HV c1 c2;go_region_held3 (fun w'=>w'.cell? ⟨wr.heap.size,0,none⟩=some (.string x1)/\w'.cell? ⟨wr.heap.size,1,none⟩=some (.string x2)) (first|(go_keep;done)|(refine⟨(World.cell?_setCell_far _ _ _ _ HNE.out).trans ?_,(World.cell?_setCell_far _ _ _ _ HNE.out).trans ?_⟩<;>assumption)) (first|(go_at_call_of 188 (Value.string x1);refine af (HT1.out _ (by first|exact HVB.out _ (ai _ _)|exact HVB.out _ (xC rfl rfl rfl rfl))) ?_;rintro e w1 ⟨rfl,b1⟩;have HB1:Hid (Below V.heap.size V w1):=(by first|exact b1|exact(xC rfl rfl rfl rfl:Below V.heap.size V V.drew).trans b1);clear b1;obtain⟨a0,a1⟩:=HVC.out w1 HB1.out)|(go_at_call_of 188 (Value.string x2);refine af (HT2.out _ (HVB.out _ HB1.out)) ?_;rintro e w2 ⟨rfl,b2⟩;have HB2:Hid (Below V.heap.size V w2):=HB1.out.trans (b2.mono HB1.out.size);clear b2;obtain⟨a0',a1'⟩:=HVC.out w2 HB2.out;obtain⟨r0,r1⟩:=HVR2.out w2 HB2.out))
   all_goals
    go_wp2;go_roundw
    case rel=>
     refine⟨q+1,by omega,by go_num,?_,?_⟩
     .have h:=aD w2 w.heap.size q _ 9 (.string (t1++⟨#[61]⟩++t2)) (HVR w2 HB2)
      rw[HAP.out,HNX.out] at h;rw[HAP.out];exact h
     .exact(HVB w2 HB2).setCell (aG _) _
    case measure=>grind[intOf]
  .have hqe:q=ps.length:=by omega
   subst hqe;have HJ2:Hid _:=HJ wr hwz HROW;clear hb hrow;go_wp2_with fail;refine af HJ2 ?_;rintro e w2 ⟨rfl,b2⟩;have HB2:=hI (HB.out.trans (b2.mono HB.out.size));clear b2;go_wp2;go_ret;exact⟨rfl,HB2⟩
def PairAt (w:World) (sp:Option Go.Addr) (ps:List (Bs×Bs)):Prop:=∀(j:Nat) p,ps[j]?=some p->∃g off,sp=some ⟨g,off,none⟩/\g<w.heap.size/\w.cell? ⟨g,off+j*2,none⟩=some (.string ⟨p.1.toArray⟩)/\w.cell? ⟨g,off+j*2+1,none⟩=some (.string ⟨p.2.toArray⟩)
theorem PairAt.below {w w':World} {c:Option Go.Addr} {d:List (Bs×Bs)} (h:PairAt w c d) (a:Bl w w'):PairAt w' c d:=by intro j p i;obtain⟨g,off,k,b,f,e⟩:=h j p i;exact⟨g,off,k,cq b a.size,(a.cell (by exact b)).trans f,(a.cell (by exact b)).trans e⟩
theorem AO (a:List (Bs×Bs)) (c f:Option Go.Addr) (s t:Nat) (w:World) (o:PairAt w c a) (l:PairAt w f a) (C:a.length<=4294967296):Calls prog 51 #[.slice c a.length s,.slice f a.length t] w fun e w'=>e=.returned (.bool true)/\Bl w w':=by
 have u:Hid (∀W,Bl w W->PairAt W c a):=fun W d=>o.below d;have k:Hid (∀W,Bl w W->PairAt W f a):=fun W d=>l.below d;go_enter func51,ntmps51;go_wp21;go_loopw [5] (fun i wr=>∃q:Nat,q<=a.length/\i=Iv q/\Bl w wr) (fun i _=>a.length-(intOf i).toNat)
 case atStart=>exact⟨0,aR _,rfl,ai _ _⟩
 case round=>
  obtain⟨q,z,rfl,b⟩:=hrel;have j:=hI b;by_cases r:q<a.length
  .obtain⟨p,h⟩:∃p,a[q]?=some p:=⟨a[q],bY r⟩
   obtain⟨g,off,n,_,F,D⟩:=u _ b q p h;obtain⟨A,v,m,_,B,E⟩:=k _ b q p h;subst n m;generalize(⟨p.1.toArray⟩:ByteArray)=x at*;generalize(⟨p.2.toArray⟩:ByteArray)=y at*;go_wp2;go_quiet (fail);go_wp2;go_roundw
   case rel=>exact⟨q+1,by omega,by go_num,cr j _⟩
   case measure=>grind[intOf]
  .clear b
   go_wp2;go_ret;exact⟨rfl,j⟩
theorem Oh (m:ByteArray) (n k:Nat) (g:Nat) (w:World) (c:∀j,j<n->Ce w g (j*2) (.string m)/\Ce w g (j*2+1) (.string ⟨#[]⟩)) (h:g<w.heap.size) (r:n<=4294967296):Calls prog 54 #[.slice (some ⟨g,0,none⟩) n k,.string m] w fun e w'=>e=.returned (.bool true)/\Bl w w':=by
 have o:Hid (∀j W,j<n->Bl w W->Ce W g (j*2) (.string m)/\Ce W g (j*2+1) (Sv [])):=fun j W b d=>⟨(d.cell (by exact h)).trans (c j b).1,(d.cell (by exact h)).trans (c j b).2⟩;go_enter func54,ntmps54;go_wp21;go_loopw [5] (fun i wr=>∃q:Nat,q<=n/\i=Iv q/\Bl w wr) (fun i _=>n-(intOf i).toNat)
 case atStart=>exact⟨0,aR _,rfl,ai _ _⟩
 case round=>
  obtain⟨q,p,rfl,a⟩:=hrel;have f:=hI a;by_cases l:q<n
  .obtain⟨t,s⟩:=o q _ l a
   clear a;go_wp2;go_roundw
   case rel=>exact⟨q+1,by omega,by go_num,f⟩
   case measure=>grind[intOf]
  .clear a
   go_wp2;go_ret;exact⟨rfl,f⟩
theorem AP (x:Bs):∀l:List Bs,gP (l++ [x])=if l=[] then x else gP l++38::x
 | []=>rfl
 | [y]=>rfl
 |y::z::l=>by
  have h:=AP x (z::l);rw[ab (by simp)] at h⊢;show y++38::gP (z::l++ [x])=(y++38::gP (z::l))++38::x;rw[h];simp
theorem AQ (a:List (Bs×Bs)) (q:Nat) (p:Bs×Bs) (h:a[q]?=some p):eE (a.take (q+1))=eE (a.take q)++(if 0<q then [38] else [])++aK p.1++ [61]++aK p.2:=by
 have c:=(dN.1 h).1;unfold eE;rw[jf,h,Option.toList_some,kg,List.map_singleton,AP];by_cases b:0<q
 .rw[ab (by grind[List.map_eq_nil_iff,List.take_eq_nil_iff]),ae b]
  simp[piece]
 .grind[piece,gP]
theorem AR (a:List (Bs×Bs)):∀q,q<=a.length->(eE (a.take q)).length<=3*de (a.take q)+2*q
 |0,_=>by simp[eE,gP]
 |q+1,h=>by
  have b:a[q]?=some a[q]:=bY (by omega);have:=AR a q (by omega);have d:=nY a[q].1;have c:=nY a[q].2;rw[AQ a q _ b,ml a q _ b];simp only[cC,List.length_singleton];split<;>simp<;>omega
theorem AS (a:List (Bs×Bs)) (K:Nat) (b:∀p∈a,p.1.length+p.2.length<=K):∀q,de (a.take q)<=q*K
 |0=>by simp[de]
 |q+1=>by
  have e:=AS a K b q;rw[Nat.succ_mul];by_cases c:q<a.length
  .have f:=ml a q _ (bY c)
   have d:=b a[q] (mW c);omega
  .grind[List.take_of_length_le]
def kc (ps:List (Bs×Bs)):Ending:=if 2000<de ps then .returned (.tuple #[.string ⟨#[]⟩,.int .i64 1]) else .returned (.tuple #[.string ⟨(eE ps).toArray⟩,.int .i64 0])
theorem Oi (a:List (Bs×Bs)) (D:Option Go.Addr) (Z:Nat) (w:World) (b:PairAt w D a) (hn:a.length<=2097152) (H:∀p∈a,p.1.length<=2097152/\p.2.length<=2097152):Calls prog 81 #[.slice D a.length Z] w fun e w'=>e=kc a/\Bl w w':=by
 have A:Hid (∀W,Bl w W->PairAt W D a):=fun W G=>b.below G;have P:=hI H;have B:Hid (∀(x:Bs) W,x.length<=2000->CB 136 #[.string ⟨x.toArray⟩] W (.string ⟨(aK x).toArray⟩)):=fun x W h=>NZ ⟨x.toArray⟩ W (by rw[al];omega);have M:Hid (∀q,de (a.take q)<=q*4194304):=AS a _ fun p b=>by have:=H p b;omega
 clear b H;go_enter func81,ntmps81;go_wp2_with fail;go_loopw [4,6] (fun s i wr=>∃q:Nat,q<=a.length/\i=Iv q/\s=Iv (de (a.take q):Nat)/\Bl w wr) (fun _ i _=>a.length-(intOf i).toNat)
 case atStart=>exact⟨0,aR _,rfl,rfl,ai _ _⟩
 case round=>
  obtain⟨q,n,rfl,rfl,j⟩:=hrel;have k:=hI j;by_cases u:q<a.length
  .obtain⟨p,b⟩:∃p,a[q]?=some p:=⟨a[q],bY u⟩
   obtain⟨g,off,C,_,U,R⟩:=A _ j q p b;subst C;have b8:=P p (ef b);have a4:=hI (ml a q p b);have b7:=M q;have l:(⟨p.1.toArray⟩:ByteArray).size=p.1.length:=al _;have m:(⟨p.2.toArray⟩:ByteArray).size=p.2.length:=al _;generalize(⟨p.1.toArray⟩:ByteArray)=x at*;generalize(⟨p.2.toArray⟩:ByteArray)=y at*;generalize de (a.take q)=T at*;clear j b;go_wp2;go_quiet (fail);go_wp2;go_roundw
   case rel=>exact⟨q+1,by omega,by go_num,by rw[a4.out];simp;omega,cr k _⟩
   case measure=>(simp[intOf];try omega)
  .have Y:q=a.length:=by omega
   subst Y;rw[un];clear j u n P M;by_cases v:2000<de a
   .have a8:(2000:Int)<(de a:Nat):=by omega
    have F:Hid (kc a=.returned (.tuple #[.string ⟨#[]⟩,Iv 1])):=hI (by unfold kc;rw[ae v]);generalize de a=T at*;clear v;go_wp2;go_ret2;exact⟨by rw[F.out];rfl,k⟩
   .have a8:¬(2000:Int)<(de a:Nat):=by omega
    have F:Hid (kc a=.returned (.tuple #[.string ⟨(eE a).toArray⟩,Iv 0])):=hI (by unfold kc;rw[ab v]);have L:Hid (∀(q:Nat) (p:Bs×Bs),a[q]?=some p->p.1.length<=2000/\p.2.length<=2000):=(by intro q p b;have h1:=ml a q p b;have z:=pC a (q+1);omega);have N:Hid (∀q,q<=a.length->(eE (a.take q)).length<=6000+2*q):=(by intro q n;have h1:=AR a q n;have z:=pC a q;omega);generalize de a=T at*;clear v;go_wp2_with fail;go_loopw [5,7] (fun o i wr=>∃q:Nat,q<=a.length/\i=Iv q/\o=.string ⟨(eE (a.take q)).toArray⟩/\Bl w wr) (fun _ i _=>a.length-(intOf i).toNat)
    case atStart=>exact⟨0,aR _,rfl,rfl,k⟩
    case round=>
     obtain⟨q,n,rfl,rfl,j⟩:=hrel;have k:=hI j;by_cases u:q<a.length
     .obtain⟨p,b⟩:∃p,a[q]?=some p:=⟨a[q],bY u⟩
      obtain⟨g,off,C,_,U,R⟩:=A _ j q p b;subst C;have a9:Hid (∀W,Bl w W->Ce W g (off+q*2+1) (.string ⟨p.2.toArray⟩)):=by intro W G;obtain⟨g',b6,h,_,_,z⟩:=A W G q p b;injection h with h;injection h with e1 e2;rw[e1,e2];exact z
      obtain⟨Q,S⟩:=L q p b;have b3:Hid _:=fun W=>B p.1 W Q;have a7:Hid _:=fun W=>B p.2 W S;have a6:=N q n;have k1:=nY p.1;have k2:=nY p.2;have a3:(⟨(eE (a.take q)).toArray⟩:ByteArray).size=(eE (a.take q)).length:=al _;have l:(⟨(aK p.1).toArray⟩:ByteArray).size=(aK p.1).length:=al _;have m:(⟨(aK p.2).toArray⟩:ByteArray).size=(aK p.2).length:=al _;have r:Hid ((⟨(eE (a.take q)).toArray⟩:ByteArray)++⟨(if 0<q then [38] else []).toArray⟩++⟨(aK p.1).toArray⟩++⟨#[61]⟩++⟨(aK p.2).toArray⟩=⟨(eE (a.take (q+1))).toArray⟩):=by show _=_;rw[AQ a q p b,show(⟨#[61]⟩:ByteArray)=⟨[61].toArray⟩ from rfl,mm,mm,mm,mm]
      generalize(⟨(eE (a.take q)).toArray⟩:ByteArray)=d at*;generalize(⟨(aK p.1).toArray⟩:ByteArray)=x at*;generalize(⟨(aK p.2).toArray⟩:ByteArray)=y at*;generalize(⟨p.1.toArray⟩:ByteArray)=b1 at*;generalize(⟨p.2.toArray⟩:ByteArray)=b2 at*;have hw:d.size+x.size+y.size<=4300000:=(by omega);clear j b L N B a6 a3 k1 k2 l m Q S;by_cases E:0<q;case' pos=>have g0:∀W:World,(Op.stringOp .add d ⟨#[38]⟩).run prog W=.ok (.string (d++⟨#[38]⟩)) W:=fun W=>bm W _ _ (by show _+1<=_;omega);rw[ae E] at r;have O:(d++⟨#[38]⟩:ByteArray).size=d.size+1:=(by rw[qM];rfl);go_wp2_with fail;clear g0;obtain⟨c,f⟩:=am (d++⟨#[38]⟩:ByteArray);have J:Hid (c++x++⟨#[61]⟩++y=⟨(eE (a.take (q+1))).toArray⟩):=hI (by rw[f];exact r);have I:c.size<=d.size+1:=(by rw[f,O];omega);rw[<-f];clear f O
      case' neg=>
       rw[ab E] at r;go_wp2_with fail;obtain⟨c,f⟩:=am d;have J:Hid (c++x++⟨#[61]⟩++y=⟨(eE (a.take (q+1))).toArray⟩):=by show _=_;rw[f,<-r.out,show d++(⟨([]:Bs).toArray⟩:ByteArray)=d from by apply BV;simp[ByteArray.data_append]]
       have I:c.size<=d.size+1:=(by rw[f];omega);rw[<-f];clear f
      all_goals
       have a5:c.size+x.size+y.size<=4300001:=(by omega);clear r E I hw;refine mR (b3 _) fun w4 V=>?_;have t:=hI (k.out.trans (V.mono k.out.size));have c2:=a9 w4 t;clear V U R;go_wp2_with fail;refine mR (a7 _) fun w5 K=>?_;have b0:=hI (t.out.trans (K.mono t.out.size));have l:(c++x).size=c.size+x.size:=qM ..;have m:(c++x++⟨#[61]⟩:ByteArray).size=c.size+x.size+1:=(by rw[qM,l];rfl);have g1:∀W:World,(Op.stringOp .add c x).run prog W=.ok (.string (c++x)) W:=fun W=>bm W _ _ (by omega);have g2:∀W:World,(Op.stringOp .add (c++x) ⟨#[61]⟩).run prog W=.ok (.string (c++x++⟨#[61]⟩)) W:=fun W=>bm W _ _ (by rw[l];show _+1<=_;omega);have g3:∀W:World,(Op.stringOp .add (c++x++⟨#[61]⟩) y).run prog W=.ok (.string (c++x++⟨#[61]⟩++y)) W:=fun W=>bm W _ _ (by rw[m];omega);clear K l m a5 c2 t;go_wp2;go_roundw
       case rel=>exact⟨q+1,by omega,by go_num,aB Value.string J,b0⟩
       case measure=>(simp[intOf];try omega)
     .have X:Hid (a.take q=a):=cg (by omega)
      rw[X.out];clear j;go_wp2;go_ret2;exact⟨by rw[F.out];rfl,k⟩
theorem GX (a:List (Bs×Bs)) (v:Value) (w:World) (d:PairRow w v a) (l:∀p∈a,p.1.length<=3000/\p.2.length<=3000) (i:a.length<=2097152) (n:de a<=2000) (g:EnvP w):Calls prog 80 #[v] w fun e w'=>e=.returned (.tuple #[.string ⟨(eE a).toArray⟩,.int .i64 0])/\Bl w w':=by
 have j:Hid (CB 134 #[v] w (.bool false)):=by have:=xB a v w d (fun p o=>⟨by grind,by grind⟩);rwa[ee (by omega)] at this
 have m:Hid (∀b,Bl w b->CQ 135 #[v] b (.string ⟨(eE a).toArray⟩) (Below w.hz w)):=by intro b c;refine mR (Hl a v b (d.below c) l i (g.below c)) fun w' f=>?_;exact⟨rfl,c.trans (f.mono c.size)⟩
 generalize(⟨(eE a).toArray⟩:ByteArray)=r at*;go_enter func80,ntmps80;go_wp21;refine mR j.out fun b k=>?_;go_wp21;refine mR (m b k) fun q h=>?_;go_wp21;go_ret2;exact⟨rfl,h⟩
theorem GY (s:ByteArray) (w:World) (h:s.size<=2000):Calls prog 31 #[.string s] w fun e w'=>e=.returned (.bool false)/\w'=w:=by
 have a:¬(2000:Int)<(s.size:Int):=by omega
 go_enter func31,ntmps31;go_wp2;go_ret;first|simp|exact⟨by simp,rfl⟩
def gW (t:Bs):List (Bs×Bs):=if 2000<t.length then [] else iX t
def qw (t:Bs):Int:=if 2000<t.length then 1 else 0
def lz (b:Nat) (t:Bs) (e:Ending) (w':World):Prop:=∃v,e=.returned (.tuple #[v,.int .i64 (qw t)])/\w'.ownsRow b 62 2 v (gW t).length (cQ (gW t))
theorem AT (t:Bs):(gW t).length<=2001:=by grind[gW,iX,iy,lY]
theorem Oj (s:ByteArray) (w:World) (h:2000<s.size):Calls prog 50 #[.string s] w fun e w'=>e=.returned (.tuple #[.slice none 0 0,.int .i64 1])/\w'=w:=by
 have a:(2000:Int)<(s.size:Int):=by omega
 go_enter func50,ntmps50;go_wp2;go_ret2;exact⟨rfl,rfl⟩
theorem Ok (t:Bs) (w:World):Calls prog 50 #[.string ⟨t.toArray⟩] w λe w'=>lz w.heap.size t e w'/\Bl w w':=by
 unfold lz gW qw;by_cases h:2000<t.length
 .simp only[ae h]
  refine m0 (Oj (Bv t) w (by grind[al])) ?_;exact⟨⟨_,rfl,rfl,.inl ⟨rfl,rfl⟩⟩,ai _ _⟩
 .simp only[ab h]
  exact Og t w (by omega)
theorem Ol (t:Bs) (w:World) (c:t.length<=maxLen) (b:EnvP w):Calls prog 49 #[.string ⟨t.toArray⟩] w fun e w'=>lz w.heap.size t e w'/\Bl w w':=by
 unfold lz gW qw;by_cases h:2000<t.length
 .simp only[ae h]
  have d:Hid (∀a,Calls Tryz.prog 31 #[.string ⟨t.toArray⟩] a fun e w'=>e=.returned (.bool true)/\w'=a):=fun a=>mf _ a (by rw[al];exact h) (by rw[al];exact c);generalize(⟨t.toArray⟩:ByteArray)=j at*;clear h c b;go_enter func49,ntmps49;go_wp2_with fail;refine af (d.out w) ?_;rintro e l ⟨rfl,k⟩;obtain rfl:=k.symm;go_wp2_with fail;go_ret2;exact⟨⟨_,rfl,rfl,.inl ⟨rfl,rfl⟩⟩,ai _ _⟩
 .simp only[ab h]
  have d:=hI (GY ⟨t.toArray⟩ w (by grind[al]));have g:=hI (Hh t w (by omega) b);generalize iX t=m at*;generalize(⟨t.toArray⟩:ByteArray)=j at*;clear h c b;go_enter func49,ntmps49;go_wp2_with fail;refine m0 d.out ?_;go_wp2_with fail;refine g.out.mono ?_;rintro e n ⟨⟨v,rfl,(i:Hid _)⟩,f⟩;go_wp2_with fail;go_ret2;exact⟨⟨v,rfl,i⟩,f⟩
theorem Om (a:List (Bs×Bs)) (v:Value) (w:World) (b:PairRow w v a) (i:∀p∈a,p.1.length<=2097152/\p.2.length<=2097152) (f:a.length<=2097152) (d:EnvP w):Calls prog 80 #[v] w fun e w'=>e=kc a/\Bl w w':=by
 unfold kc;by_cases h:2000<de a
 .simp only[ae h]
  have c:=hI (xB a v w b i);rw[dC h] at c;go_enter func80,ntmps80;go_wp21;refine mR c.out fun m g=>?_;go_wp21;go_ret2;exact⟨rfl,g⟩
 .simp only[ab h]
  refine GX a v w b (fun p k=>?_) f (by omega) d;obtain⟨q,j⟩:=List.getElem?_of_mem k;have n:=ml a q p j;have l:=pC a (q+1);omega
def aX (m:ByteArray):Nat->List Value
 |0=>[]
 |n+1=>.string m::.string ⟨#[]⟩::aX m n
theorem fM (m:ByteArray):∀n,(aX m n).length=n*2
 |0=>rfl
 |n+1=>by
  show(aX m n).length+2=_;rw[fM m n];omega
theorem lA (m:ByteArray) (b:Nat):∀a,aX m (a+b)=aX m a++aX m b
 |0=>by rw[fP];rfl
 |a+1=>by
  rw[Nat.succ_add];show _::_::aX m (a+b)=_::_::(aX m a++aX m b);rw[lA m b a]
theorem nZ (m:ByteArray):∀n j,j<n->(aX m n)[j*2]?=some (.string m)/\(aX m n)[j*2+1]?=some (.string ⟨#[]⟩)
 |n+1,0,_=>⟨rfl,rfl⟩
 |n+1,j+1,h=>by
  have:=nZ m n j (by omega);rw[show(j+1)*2=j*2+1+1 by omega];exact this
theorem AV (m:ByteArray):∀n,∀u∈aX m n,u.oneCell'=true
 |n+1,u,h=>by
  rcases cM.1 h with rfl|h
  .rfl
  .rcases cM.1 h with rfl|h
   .rfl
   .exact AV m n u h
def Mk (w:World) (m:ByteArray) (g n:Nat):Prop:=∀j,j<n->w.cell? ⟨g,j*2,none⟩=some (.string m)/\w.cell? ⟨g,j*2+1,none⟩=some (.string ⟨#[]⟩)
theorem Mk.block {w w':World} {m:ByteArray} {g n:Nat} (h:Mk w m g n) (b:w'.heap[g]?=w.heap[g]?):Mk w' m g n:=λj c=>⟨(iH (a:=(Ad g _)) b).trans (h j c).1,(iH (a:=(Ad g _)) b).trans (h j c).2⟩
theorem tU {w:World} {m:ByteArray} {g n:Nat} {a:Array Value} {e:TypeId} {fr:Nat×Nat} (f:w.heap[g]?=some (.cells a e fr)) (h:a.toList.take (n*2)=aX m n):Mk w m g n:=by
 intro j c;have b:∀i u,i<n*2->(aX m n)[i]?=some u->w.cell? ⟨g,i,none⟩=some u:=by intro i u d k;rw[dD w g i a e fr f,<-jK];rwa[<-h,ow,ae d] at k
 exact⟨b _ _ (by omega) (nZ m n j c).1,b _ _ (by omega) (nZ m n j c).2⟩
theorem AW {w:World} {a:Go.Addr} {v:Value} (h:w.cell? a=some v):a.block<w.heap.size:=by grind[World.cell?]
section
variable {P : Program}
def qy (m:ByteArray) (base:Nat) (e:TypeId) (w w':World) (v:Value) (n k g:Nat):Prop:=
 base<=g/\g<w'.heap.size/\Mk w' m g (n+k)/\w.grownBy w' v.ownBlock/\(∀g' n',Mk w m g' n'->Mk w' m g' n')/\w'.ownsRow base e 2 v n (aX m n)/\(v.ownBlock=some g\/g=w.heap.size)
theorem Ow (w:World) (m:ByteArray) (t y:TypeId) (base:Nat) (e:TypeId) (i:TypeInfo) (z:Value) (J:Nat) (A:P.underlying t=some (.slice e)) (D:P.info? e=some i) (hz:i.zero=some z) (F:i.size=2) (a0:i.bytes=J) (v:Value) (n:Nat) (f:w.ownsRow base e 2 v n (aX m n)) (p:Go.Addr) (k c:Nat) (E:∀j u,(aX m k)[j]?=some u->w.cell? (p.add j)=some u) (W:0<k) (I:n+k<=maxLen) (Q:(n+k)*J<=140737488355328) (R:base<=w.heap.size):∃g b w',(Builtin.append_ #[t,t] y #[v,.slice (some p) k c]).run P w=.ok (.slice (some ⟨g,0,none⟩) (n+k) b) w'/\qy m base e w w' v n k g:=by
 subst a0;have B:(aX m k).length=k*i.size:=by rw[fM,F]
 have a3:n+k<=9223372036854775807:=by simp only[maxLen] at I;omega
 have H:∀(C:Array Value) (row:Option Nat),C.toList.take ((n+k)*2)=aX m (n+k)->w.ownsRow base e 2 v n (aX m n)->qy m base e w (w.drew.alloc (.cells C e)) v n k w.hz:=by
  intro C row M f;have G:∀q,q<w.hz->(w.drew.alloc (.cells C e)).heap[q]?=w.heap[q]?:=λq d=>uG w.drew _ d;refine⟨R,by simp,tU (w:=w.drew.alloc (.cells C e)) (g:=w.hz) (fr:=(0,0)) (dO w.drew _) M,⟨rfl,rfl,rfl,by simp,λq d _=>G q d⟩,?_,?_,.inr rfl⟩
  .intro a O h
   intro j s;have U:=AW (h j s).1;exact h.block (G a U) j s
  .exact f.kept (row:=none) ⟨rfl,rfl,rfl,by simp,λq d _=>G q d⟩ (by grind)
 obtain⟨rfl,rfl⟩|⟨g,b,l,rfl,K,x,N,X,Y,a2⟩:=f.2
 .have o:=run_append_nil (P:=P) w t y e i z A D hz p k c (aX m k) B E W (by omega) (by grind)
  rw[fP] at I;refine⟨_,_,_,by rw[fP];exact o,H _ none ?_ f⟩;rw[fP,Ca,<-fM m k];exact ke
 .by_cases a1:n+k<=b
  .have Z:=fM m k
   have T:n*i.size+(aX m k).length<=l.size:=(by rw[F,Z,Y];omega);have o:=run_append_room (P:=P) w t y e i A D g n b l x p k c (aX m k) B E (AV m k) a1 T;rw[F,a2] at o;have r:=bH w g l (aX m n++aX m k++l.toList.drop (n*2+(aX m k).length)).toArray e _ x;refine⟨g,b,_,o,K,?_,tU r ?_,⟨rfl,rfl,rfl,by simp,λq _ d=>BT w g q _ (λe=>d (by grind[Value.ownBlock]))⟩,?_,⟨f.1,.inr ⟨g,b,_,rfl,K,r,N,X,?_,?_⟩⟩,.inl rfl⟩
   .grind
   .rw[<-lA]
    show List.take _ (aX m (n+k)++_)=_;rw[<-fM m (n+k)];exact ke
   .intro a O h
    by_cases L:a=g
    .subst L
     intro j s;have V:=h j s;rw[dD w a _ l e _ x,dD w a _ l e _ x] at V;rw[dD _ a _ _ e _ r,dD _ a _ _ e _ r,<-lA];by_cases a4:j<n+k
     .grind[nZ,List.getElem?_append_left]
     .grind[fM,List.getElem?_append_right]
    .exact h.block (BT w g a _ L)
   .grind
   .grind
  .have S:=f.cells (g:=g) rfl
   have o:=run_append_grow (P:=P) w t y e i z A D hz (Ad g 0) n b (aX m n) (by grind) S p k c (aX m k) B E (by omega) (by omega) (growslice_fits (by omega) Q);refine⟨_,_,_,o,H _ none ?_ f⟩;rw[Ca,Ca];show List.take _ (aX m n++aX m k++_)=_;rw[<-lA,<-fM m (n+k)];exact ke
theorem tV {w:World} {l:Array Oper} {rest:List Oper} {o:Oper} {a:Act} {Q:Exit->Act->World->Prop} (K:o.guard=none) (s x:Operand) (t:TypeId) (y:o.op=.call {callee:=.builtin .append,args:=#[s,x],argTypes:=#[t,t]}) (m:ByteArray) (base:Nat) (e:TypeId) (i:TypeInfo) (z:Value) (d:Nat) (q:P.underlying t=some (.slice e)) (B:P.info? e=some i) (hz:i.zero=some z) (I:i.size=2) (G:i.bytes=d) (v:Value) (n:Nat) (J:a.eval s=v) (L:w.ownsRow base e 2 v n (aX m n)) (f:Go.Addr) (k c:Nat) (M:a.eval x=.slice (some f) k c) (D:∀j u,(aX m k)[j]?=some u->w.cell? (f.add j)=some u) (E:0<k) (C:n+k<=maxLen) (r:(n+k)*d<=140737488355328) (A:base<=w.heap.size) (h:∀g b w',qy m base e w w' v n k g->wpList P l Q rest (a.put o.dst (.slice (some ⟨g,0,none⟩) (n+k) b)) w'):wpList P l Q (o::rest) a w:=
 wpList_plain K λ_ H=>by
  obtain⟨g,b,w',F,p⟩:=Ow (P:=P) w m t o.type base e i z d q B hz I G v n L f k c D E C r A;unfold Oper.wp execOp;simp only[y,resolve,invoke,builtin,jg,uE,uF,List.map_toArray,mM,List.map_nil,J,M,F];exact H _ _ (h g b w' p)
end
structure Ent where
 l:Value
 a:Value
 b:Value
 c:Value
 m:ByteArray
def lB (e:Ent):List Value:=[e.l,e.a,e.b,e.c,.string e.m]
def jd (es:List Ent):List Value:=es.flatMap lB
theorem AX:∀(a:List Ent) (j:Nat) (e:Ent),a[j]?=some e->∀(i:Nat) c,(lB e)[i]?=some c->(jd a)[j*5+i]?=some c
 |x::a,0,e,h,i,c,hc=>by
  simp at h;subst h;show(lB x++jd a)[0*5+i]?=_;have d:=(dN.1 hc).1;rw[qW,fP,qF d];exact hc
 |x::a,j+1,e,h,i,c,hc=>by
  show(lB x++jd a)[(j+1)*5+i]?=_;have b:(lB x).length=5:=rfl;rw[mX (by omega),b,show(j+1)*5+i- 5=j*5+i by omega];exact AX a j e (by simpa using h) i c hc
def FullV (w:World) (k:Nat) (ob:Option Nat) (m:ByteArray) (v:Value):Prop:=v=.slice none 0 0\/∃g n cap,v=.slice (some ⟨g,0,none⟩) n cap/\k<g/\some g≠ob/\g<w.heap.size/\n<=1000000/\Mk w m g n
def FullE (w:World) (k:Nat) (ob:Option Nat) (e:Ent):Prop:=FullV w k ob e.m e.l/\FullV w k ob e.m e.a/\FullV w k ob e.m e.b/\FullV w k ob e.m e.c
def BookIs (k:Nat) (w:World) (es:List Ent):Prop:=∃bv,w.heap[k]?=some (.cells #[bv] 56 (0,0))/\w.ownsRow (k+1) 93 5 bv es.length (jd es)/\∀e∈es,FullE w k bv.ownBlock e
theorem FullV.keep {w w':World} {k:Nat} {c ob':Option Nat} {m:ByteArray} {v:Value} (h:FullV w k c m v) (f:w.heap.size<=w'.heap.size) (d:∀g,k<g->g<w.heap.size->some g≠c->w'.heap[g]?=w.heap[g]?/\some g≠ob'):FullV w' k ob' m v:=by
 rcases h with h|⟨g,n,l,o,a,e,b,j,i⟩
 .exact .inl h
 .exact .inr ⟨g,n,l,o,a,(d g a b e).2,cq b f,j,i.block (d g a b e).1⟩
theorem FullE.keep {w w':World} {k:Nat} {c ob':Option Nat} {e:Ent} (h:FullE w k c e) (b:w.heap.size<=w'.heap.size) (a:∀g,k<g->g<w.heap.size->some g≠c->w'.heap[g]?=w.heap[g]?/\some g≠ob'):FullE w' k ob' e:=⟨h.1.keep b a,h.2.1.keep b a,h.2.2.1.keep b a,h.2.2.2.keep b a⟩
theorem FullV.form {w:World} {k:Nat} {a:Option Nat} {m:ByteArray} {v:Value} (h:FullV w k a m v):∃s n c,v=.slice s n c:=by
 rcases h with h|⟨g,n,b,d,_⟩
 .grind
 .grind
theorem BookIs.below {k:Nat} {w w':World} {b:List Ent} (h:BookIs k w b) (a:Bl w w'):BookIs k w' b:=by obtain⟨d,c,f,l⟩:=h;have n:=(aT.1 c).1;exact⟨d,(a.block k n).trans c,jU f a,λe i=>(l e i).keep a.size λg _ m j=>⟨a.block g m,j⟩⟩
theorem qz (k:Nat) (a:Option Nat) (m:ByteArray) (v:Value) (w:World) (h:FullV w k a m v):Calls prog 54 #[v,.string m] w fun e w'=>e=.returned (.bool true)/\Bl w w':=by
 rcases h with rfl|⟨g,n,f,rfl,j,o,b,l,d⟩
 .go_enter func54,ntmps54
  go_wp21;go_loopw [5] (fun i wr=>i=Iv 0/\Bl w wr) (fun _ _=>0)
  case atStart=>simp[ai]
  case round=>obtain⟨rfl,(c:Hid _)⟩:=hrel;go_wp2;go_ret;exact⟨rfl,c⟩
 .exact Oh m n f g w d b (by omega)
theorem Ox (k:Nat) (b:List Ent) (w:World) (h:BookIs k w b) (T:b.length<=4194304):Calls prog 30 #[.pointer (some ⟨k,0,none⟩)] w fun e w'=>e=.returned (.bool true)/\Bl w w':=by
 obtain⟨N,O,X,x⟩:=h;have S:=(aT.1 O).1;have HK:Hid (∀W,Bl w W->Ce W k 0 N):=fun W d=>aa ((d.block k S).trans O) 0;have HF:Hid (∀W e v,Bl w W->e∈b->(v=e.l\/v=e.a\/v=e.b\/v=e.c)->CB 54 #[v,.string e.m] W (.bool true)):=by
  intro W e v d f P;have G:=(x e f).keep (w':=W) (ob':=N.ownBlock) d.size fun g _ F T=>⟨d.block g F,T⟩;obtain rfl|rfl|rfl|rfl:=P
  .exact qz k _ _ _ W G.1
  .exact qz k _ _ _ W G.2.1
  .exact qz k _ _ _ W G.2.2.1
  .exact qz k _ _ _ W G.2.2.2
 have Y:Hid (∃L D,N=.slice L b.length D/\∀(q:Nat) e,b[q]?=some e->∃g,L=some (Ad g 0)/\∀W,Bl w W->Ce W g (q*5) e.l/\Ce W g (q*5+1) e.a/\Ce W g (q*5+2) e.b/\Ce W g (q*5+3) e.c/\Ce W g (q*5+4) (.string e.m)):=by
  obtain⟨rfl,h0⟩|⟨g,D,c2,rfl,_,F,_,_,_,b8⟩:=X.2
  .simp_all
  .refine⟨_,D,rfl,fun q e J=>⟨g,rfl,fun W d=>?_⟩⟩
   have c1:=(dN.1 J).1;have z:∀(i:Nat) c,i<5->(lB e)[i]?=some c->W.cell? ⟨g,q*5+i,none⟩=some c:=(by intro i c hi I;rw[(d.cell (p:=⟨g,q*5+i,none⟩) (aT.1 F).1),aa F,<-jK];have:=AX b q e J i c I;rwa[<-b8,ow,ae (by omega)] at this);exact⟨z 0 _ (by omega) rfl,z 1 _ (by omega) rfl,z 2 _ (by omega) rfl,z 3 _ (by omega) rfl,z 4 _ (by omega) rfl⟩
 have b5:Hid (∀e∈b,(∃s n c,e.l=.slice s n c)/\(∃s n c,e.a=.slice s n c)/\(∃s n c,e.b=.slice s n c)/\∃s n c,e.c=.slice s n c):=fun e f=>⟨(x e f).1.form,(x e f).2.1.form,(x e f).2.2.1.form,(x e f).2.2.2.form⟩;clear O X x S;obtain⟨L,D,a9,U⟩:=Y.out;subst a9;have b7:=hI U;have c0:=HK.out w (ai _ _);clear Y U;go_enter func30,ntmps30;go_wp2_with fail;go_loopw [3] (fun i wr=>∃q:Nat,q<=b.length/\i=Iv q/\Bl w wr) (fun i _=>b.length-(intOf i).toNat)
 case atStart=>exact⟨0,aR _,rfl,ai _ _⟩
 case round=>
  obtain⟨q,J,rfl,m⟩:=hrel;have HB:=hI m;have k0:=HK _ m;by_cases b6:q<b.length
  .obtain⟨e,f⟩:∃e,b[q]?=some e:=⟨b[q],bY b6⟩
   have K:=ef f;obtain⟨g,b0,I⟩:=b7 q e f;subst b0;obtain⟨a0,a1,a2,a3,a4⟩:=I _ m;obtain⟨W,d⟩:=am (wr.alloc (.cells #[e.l,e.a,e.b,e.c,.string e.m] 93));have B:Bl w W:=(by rw[d];exact m.alloc m.size _);have hz:W.heap[wr.heap.size]?=some (.cells #[e.l,e.a,e.b,e.c,.string e.m] 93 (0,0)):=(by rw[d];exact dO wr _);have a5:=(aT.1 hz).1;have A:Hid (∀a,Bl W a->Ce a wr.heap.size 0 e.l/\Ce a wr.heap.size 1 e.a/\Ce a wr.heap.size 2 e.b/\Ce a wr.heap.size 3 e.c/\Ce a wr.heap.size 4 (.string e.m)):=(by intro a j;have y:=(j.block wr.heap.size a5).trans hz;exact⟨aa y 0,aa y 1,aa y 2,aa y 3,aa y 4⟩);have b9:Hid (∀a,Bl W a->Bl w a):=fun a j=>B.trans (j.mono B.size);have C:Hid (∀a v,Bl W a->(v=e.l\/v=e.a\/v=e.b\/v=e.c)->CB 54 #[v,.string e.m] a (.bool true)):=fun a v j P=>HF a e v (B.trans (j.mono B.size)) K P;have Q:=hI d;obtain⟨⟨s0,n0,p0,a6⟩,⟨s1,n1,p1,a8⟩,⟨s2,n2,p2,a7⟩,s3,n3,p3,V⟩:=b5 e K;clear m I f K B hz a5 d;obtain⟨el,ea,eb,ec,em⟩:=e;simp only at a0 a1 a2 a3 a4 A C Q a6 a8 a7 V;subst a6 a8 a7 V;go_upto_region 5 with fail;rw[<-Q.out];obtain⟨o,t,u,l,r⟩:=A W (ai _ _);go_wp2_with fail;refine mR (C W _ (ai _ _) (.inl rfl)) fun a j=>?_;have M:=hI j;clear o t u l r;obtain⟨o,t,u,l,r⟩:=A a j;clear j;go_wp2_with fail;refine mR (C a _ M.out (.inr (.inl rfl))) fun w2 Z=>?_;have H:=hI (M.out.trans (Z.mono M.out.size));clear o t u l r Z;obtain⟨o,t,u,l,r⟩:=A w2 H.out;go_wp2_with fail;refine mR (C w2 _ H.out (.inr (.inr (.inl rfl)))) fun R b3=>?_;have E:=hI (H.out.trans (b3.mono H.out.size));clear o t u l r b3;obtain⟨o,t,u,l,r⟩:=A R E.out;go_wp2_with fail;refine mR (C R _ E.out (.inr (.inr (.inr rfl)))) fun w4 b4=>?_;have B4:=hI (b9 w4 (E.out.trans (b4.mono E.out.size)));clear o t u l r b4;go_wp2;go_roundw
   case rel=>exact⟨q+1,by omega,by go_num,B4.out⟩
   case measure=>grind[intOf]
  .clear m
   go_wp2;go_ret;exact⟨rfl,HB⟩
end Go.Proofs
