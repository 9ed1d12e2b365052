import Derived.Test.YtkcnageeamappaaGreatDoorXV2
set_option maxHeartbeats 32000000
set_option maxRecDepth 8000
set_option linter.unusedSimpArgs false
namespace Go.Proofs
open Go.RowKit Go.Moor Go.Proofs.Tryz Go.Moor
theorem xC {k:Nat} {w w':World} (d:w'.os=w.os) (b:w'.tape=w.tape) (c:w'.output=w.output) (a:w'.heap=w.heap):Below k w w':=⟨d,b,c,by grind,λ_ _=>by rw[a]⟩
theorem mm (a b:Bs):(⟨a.toArray⟩:ByteArray)++⟨b.toArray⟩=⟨(a++b).toArray⟩:=by rfl
theorem xD:∀l:List Bs,Lib.join l [38]=gP l
 | []=>rfl
 | [x]=>Lib.join_one x [38]
 |x::y::l=>by
  have a:=xD (y::l);rw[ou] at a⊢;show x++Lib.joinTail [38] (y::l)=x++38::gP (y::l);rw[<-a];simp[Lib.joinTail]
theorem xE (K:Nat):∀l:List Bs,(∀x∈l,x.length<=K)->(gP l).length<=(K+1)*l.length
 | [],_=>by simp[gP]
 | [x],h=>by
  grind[gP]
 |x::y::l,h=>by
  have a:=xE K (y::l) (λz hz=>h z (by simp[hz]));have b:=h x (by simp);simp only[gP,cC,dL] at a⊢;rw[Nat.mul_add,Nat.mul_one];omega
theorem rX (l:Bs):(aK l).length<=3*l.length:=by
 induction l with
 |nil=>simp[aK]
 |cons c l a=>grind[iW,dq,aK]
def gQ (ps:List (Bs×Bs)) (q:Nat):Array Value:=((ps.take q).map (λp=>Value.string ⟨(piece aK p).toArray⟩)++List.replicate (ps.length- q) (Value.string ⟨#[]⟩)).toArray
theorem Hi (a:List (Bs×Bs)) (q:Nat) (p:Bs×Bs) (h:a[q]?=some p):(gQ a q).setIfInBounds q (.string ⟨(piece aK p).toArray⟩)=gQ a (q+1):=by
 have d:=(dN.1 h).1;apply qT;unfold gQ;rw[Array.toList_setIfInBounds];simp only;have c:(List.map (λp=>Value.string ⟨(piece aK p).toArray⟩) (a.take q)).length=q:=by simp;omega
 obtain⟨m,b⟩:∃m,a.length- q=m+1:=⟨a.length- q- 1,by omega⟩;rw[b,show a.length-(q+1)=m by omega,uu,jf,h,kg,Option.toList_some,eU];rw[kh _ _ (by omega),c,lI];rfl
theorem Hj (a:List (Bs×Bs)):gQ a a.length=(a.map (λp=>Value.string ⟨(piece aK p).toArray⟩)).toArray:=by simp[gQ]
theorem Hk:(prog.info? 9).map (λi=>(i.zero,i.size,i.bytes))=some (some (.string ⟨#[]⟩),1,16):=by kernel_rfl
theorem Hl (ps:List (Bs×Bs)) (v:Value) (w:World) (hv:PairRow w v ps) (hx:∀p∈ps,p.1.length<=3000/\p.2.length<=3000) (hn:ps.length<=2097152) (henv:EnvP w):Calls prog 135 #[v] w fun e w'=>e=.returned (.string ⟨(eE ps).toArray⟩)/\Bl w w':=by
 obtain⟨i0,hi,hz0,hz1,hz2⟩:=fA Hk;obtain⟨sp,cap,rfl,hnc,hcm,hf⟩:=hv;unfold maxLen at hcm;have HS:Hid (∀(j:Nat) p,ps[j]?=some p->∃g,sp=some (Ad g 0)/\∀wr,Bl w wr->Ce wr g (j*2) (.string ⟨p.1.toArray⟩)/\Ce wr g (j*2+1) (.string ⟨p.2.toArray⟩)/\g<wr.heap.size):=by intro j p hj;obtain⟨g,hg,hz,c1,c2⟩:=hf j p hj;exact⟨g,hg,fun wr hb=>⟨(hb.cell (p:=(Ad g (j*2))) hz).trans c1,(hb.cell (p:=(Ad g (j*2+1))) hz).trans c2,cq hz hb.size⟩⟩
 have HX:=hI hx;have HT:=hI fun t w1 ht h1=>GW t w1 ht (henv.below h1);have HJ:Hid (∀w1,w.heap.size<w1.heap.size->w1.heap[w.heap.size]?=some (.cells (gQ ps ps.length) 9 (0,0))->CB 189 #[.slice (some (Ad w.heap.size 0)) ps.length ps.length,.string ⟨#[38]⟩] w1 (.string ⟨(eE ps).toArray⟩)):=by
  intro w1 hz hr;by_cases h0:ps=[]
  .subst h0
   refine(strings_Join_none _ _ _ w1).mono ?_;rintro e w' ⟨rfl,rfl⟩;exact⟨rfl,ai _ _⟩
  .have hcells:∀(j:Nat) x,(ps.map fun p=>(⟨(piece aK p).toArray⟩:ByteArray))[j]?=some x->w1.cell? ⟨w.heap.size,0+j,none⟩=some (.string x):=by
    intro j x hj;rw[fy,um] at hj;obtain⟨p,hp,rfl⟩:=hj;rw[Hj] at hr;rw[fP];unfold World.cell?;simp[hr,hp]
   have hm:(ps.map fun p=>(⟨(piece aK p).toArray⟩:ByteArray)).map (·.data.toList)=ps.map (piece aK):=(by simp);have he:Lib.join ((ps.map fun p=>(⟨(piece aK p).toArray⟩:ByteArray)).map (·.data.toList)) (⟨#[38]⟩:ByteArray).data.toList=eE ps:=(by rw[hm];exact xD _);have hl:(eE ps).length<=20000*2097152:=by
    have:=xE 19000 (ps.map (piece aK)) (fun x hx=>by
     grind[rX,piece])
    rw[gX] at this;exact bu this (by omega)
   have h:=strings_Join w.heap.size 0 ps.length (ps.map fun p=>(⟨(piece aK p).toArray⟩:ByteArray)) ⟨#[38]⟩ w1 hcells hz (by simp;omega) (by simp) (by rw[he];omega);rw[he] at h;rw[gX] at h;exact h
 have hmade:madeCells #[Value.string ⟨#[]⟩] ps.length=gQ ps 0:=by apply qT;rw[toList_madeCells_one];unfold gQ;simp
 clear hf hx henv;go_enter func135,ntmps135;go_wp2_with(refine wpList_make_row _ rfl _ _ 28 rfl 9 i0 (.string ⟨#[]⟩) underlying28 hi hz0 hz1 rfl _ _ ps.length rfl rfl (by rw[hz2];omega) (by omega) ?_);obtain⟨W,hW⟩:=am (w.alloc (.cells (gQ ps 0) 9));rw[<-hW];have HW0:Hid (W.heap[w.heap.size]?=some (.cells (gQ ps 0) 9 (0,0))/\Bl w W):=by rw[hW];exact⟨dO w _,(ai _ _).alloc (aG _) _⟩
 clear hW hmade hi hz0 hz1 hz2;go_loopw [11] (fun i wr=>∃q:Nat,q<=ps.length/\i=Iv q/\wr.heap[w.heap.size]?=some (.cells (gQ ps q) 9 (0,0))/\Bl w wr) (fun i _=>ps.length-(intOf i).toNat)
 case atStart=>exact⟨0,aR _,rfl,HW0.out.1,HW0.out.2⟩
 case round=>
  rename_i wr _;obtain⟨q,hq,rfl,hrow,hb⟩:=hrel;have HB:=hI hb;have HROW:=hI hrow;have hwz:=(aT.1 hrow).1;by_cases hlt:q<ps.length
  .obtain⟨p,hp⟩:∃p,ps[q]?=some p:=⟨ps[q],bY hlt⟩
   obtain⟨g,hsp,hc⟩:=HS q p hp;subst hsp;obtain⟨c1,c2,hgz⟩:=hc _ hb;have hxl:=HX p (ef hp);have HNX:=hI (Hi ps q p hp);have hl1:=rX p.1;have hl2:=rX p.2;have HT1:=hI fun w1 h1=>HT p.1 w1 (by omega) h1;have HT2:=hI fun w1 h1=>HT p.2 w1 (by omega) h1;have HAP:Hid ((⟨(aK p.1).toArray⟩:ByteArray)++⟨#[61]⟩++⟨(aK p.2).toArray⟩=⟨(piece aK p).toArray⟩):=by show _=_;have h1:(⟨(aK p.1).toArray⟩:ByteArray)++⟨#[61]⟩=⟨(aK p.1++ [61]).toArray⟩:=mm _ [61];rw[h1,mm];unfold piece;simp
   have hz1:(⟨(aK p.1).toArray⟩:ByteArray).size=(aK p.1).length:=al _;have hz2:(⟨(aK p.2).toArray⟩:ByteArray).size=(aK p.2).length:=al _;have z61:(⟨#[61]⟩:ByteArray).size=1:=rfl;generalize(⟨(aK p.1).toArray⟩:ByteArray)=t1 at*;generalize(⟨(aK p.2).toArray⟩:ByteArray)=t2 at*;generalize(⟨p.1.toArray⟩:ByteArray)=x1 at*;generalize(⟨p.2.toArray⟩:ByteArray)=x2 at*;have g0:∀W:World,(Op.stringOp .add t1 ⟨#[61]⟩).run prog W=.ok (.string (t1++⟨#[61]⟩)) W:=fun W=>bm W _ _ (by omega);have g1:∀W:World,(Op.stringOp .add (t1++⟨#[61]⟩) t2).run prog W=.ok (.string (t1++⟨#[61]⟩++t2)) W:=fun W=>bm W _ _ (by grind);obtain⟨V,hV⟩:=am (wr.alloc (.cells #[.string x1,.string x2] 62));have hVB:Bl wr V:=(by rw[hV];exact(ai _ _).alloc (aG _) _);have hVs:V.heap.size=wr.heap.size+1:=(by rw[hV];simp);have hVc:V.heap[wr.heap.size]?=some (.cells #[.string x1,.string x2] 62 (0,0)):=(by rw[hV];exact dO wr _);have HVC:Hid (∀w1,Below V.heap.size V w1->w1.cell? ⟨wr.heap.size,0,none⟩=some (.string x1)/\w1.cell? ⟨wr.heap.size,1,none⟩=some (.string x2)):=(by intro w1 h1;have k:=(h1.block wr.heap.size (by omega)).trans hVc;unfold World.cell?;simp[k]);have HVR:Hid (∀w1,Bl V w1->w1.heap[w.heap.size]?=some (.cells (gQ ps q) 9 (0,0))):=fun w1 h1=>((h1.block w.heap.size (by omega)).trans (hVB.block w.heap.size hwz)).trans HROW;have HVB:Hid (∀w1,Bl V w1->Bl w w1):=fun w1 h1=>(HB.out.trans (hVB.mono (by omega))).trans (h1.mono (by omega));have HVR2:Hid (∀w1,Below V.heap.size V w1->w1.cell? ⟨w.heap.size,q,none⟩=some (.string ⟨#[]⟩)/\w1.frozen? ⟨w.heap.size,q,none⟩=false):=by
    intro w1 h1;have k:=HVR w1 h1;have hq0:(gQ ps q)[q]?=some (.string ⟨#[]⟩):=by unfold gQ;rw[kW];have hl:(List.map (fun p=>Value.string ⟨(piece aK p).toArray⟩) (ps.take q)).length=q:=(by simp;omega);obtain⟨m,hm⟩:∃m,ps.length- q=m+1:=⟨ps.length- q- 1,by omega⟩;rw[mX (by omega),hl,lI,hm];rfl
    constructor
    .grind[World.cell?]
    .grind[World.frozen?]
   have HV:=hI hV;obtain⟨v0,v1⟩:=HVC V (ai _ _);have HNE:=hI ((by omega:w.heap.size≠wr.heap.size));clear hb hrow hp hV hVB hVs hVc;go_upto_region 5 with fail;rw[<-HV.out];clear HV c1 c2;go_region_held3 (fun w'=>w'.cell? ⟨wr.heap.size,0,none⟩=some (.string x1)/\w'.cell? ⟨wr.heap.size,1,none⟩=some (.string x2)) (first|(go_keep;done)|(refine⟨(World.cell?_setCell_far _ _ _ _ HNE.out).trans ?_,(World.cell?_setCell_far _ _ _ _ HNE.out).trans ?_⟩<;>assumption)) (first|(go_at_call_of 188 (Value.string x1);refine af (HT1.out _ (by first|exact HVB.out _ (ai _ _)|exact HVB.out _ (xC rfl rfl rfl rfl))) ?_;rintro e w1 ⟨rfl,b1⟩;have HB1:Hid (Below V.heap.size V w1):=(by first|exact b1|exact(xC rfl rfl rfl rfl:Below V.heap.size V V.drew).trans b1);clear b1;obtain⟨a0,a1⟩:=HVC.out w1 HB1.out)|(go_at_call_of 188 (Value.string x2);refine af (HT2.out _ (HVB.out _ HB1.out)) ?_;rintro e w2 ⟨rfl,b2⟩;have HB2:Hid (Below V.heap.size V w2):=HB1.out.trans (b2.mono HB1.out.size);clear b2;obtain⟨a0',a1'⟩:=HVC.out w2 HB2.out;obtain⟨r0,r1⟩:=HVR2.out w2 HB2.out))
   all_goals
    go_wp2;go_roundw
    case rel=>
     refine⟨q+1,by omega,by go_num,?_,?_⟩
     .have h:=aD w2 w.heap.size q _ 9 (.string (t1++⟨#[61]⟩++t2)) (HVR w2 HB2)
      rw[HAP.out,HNX.out] at h;rw[HAP.out];exact h
     .exact(HVB w2 HB2).setCell (aG _) _
    case measure=>grind[intOf]
  .have hqe:q=ps.length:=by omega
   subst hqe;have HJ2:Hid _:=HJ wr hwz HROW;clear hb hrow;go_wp2_with fail;refine af HJ2 ?_;rintro e w2 ⟨rfl,b2⟩;have HB2:=hI (HB.out.trans (b2.mono HB.out.size));clear b2;go_wp2;go_ret;exact⟨rfl,HB2⟩
def PairAt (w:World) (sp:Option Go.Addr) (ps:List (Bs×Bs)):Prop:=∀(j:Nat) p,ps[j]?=some p->∃g off,sp=some ⟨g,off,none⟩/\g<w.heap.size/\w.cell? ⟨g,off+j*2,none⟩=some (.string ⟨p.1.toArray⟩)/\w.cell? ⟨g,off+j*2+1,none⟩=some (.string ⟨p.2.toArray⟩)
theorem PairAt.below {w w':World} {c:Option Go.Addr} {d:List (Bs×Bs)} (h:PairAt w c d) (a:Bl w w'):PairAt w' c d:=by intro j p i;obtain⟨g,off,k,b,f,e⟩:=h j p i;exact⟨g,off,k,cq b a.size,(a.cell (by exact b)).trans f,(a.cell (by exact b)).trans e⟩
theorem AO (a:List (Bs×Bs)) (c f:Option Go.Addr) (s t:Nat) (w:World) (o:PairAt w c a) (l:PairAt w f a) (C:a.length<=4294967296):Calls prog 51 #[.slice c a.length s,.slice f a.length t] w fun e w'=>e=.returned (.bool true)/\Bl w w':=by
 have u:Hid (∀W,Bl w W->PairAt W c a):=fun W d=>o.below d;have k:Hid (∀W,Bl w W->PairAt W f a):=fun W d=>l.below d;go_enter func51,ntmps51;go_wp21;go_loopw [5] (fun i wr=>∃q:Nat,q<=a.length/\i=Iv q/\Bl w wr) (fun i _=>a.length-(intOf i).toNat)
 case atStart=>exact⟨0,aR _,rfl,ai _ _⟩
 case round=>
  obtain⟨q,z,rfl,b⟩:=hrel;have j:=hI b;by_cases r:q<a.length
  .obtain⟨p,h⟩:∃p,a[q]?=some p:=⟨a[q],bY r⟩
   obtain⟨g,off,n,_,F,D⟩:=u _ b q p h;obtain⟨A,v,m,_,B,E⟩:=k _ b q p h;subst n m;generalize(⟨p.1.toArray⟩:ByteArray)=x at*;generalize(⟨p.2.toArray⟩:ByteArray)=y at*;go_wp2;go_quiet (fail);go_wp2;go_roundw
   case rel=>exact⟨q+1,by omega,by go_num,cr j _⟩
   case measure=>grind[intOf]
  .clear b
   go_wp2;go_ret;exact⟨rfl,j⟩
theorem Oh (m:ByteArray) (n k:Nat) (g:Nat) (w:World) (c:∀j,j<n->Ce w g (j*2) (.string m)/\Ce w g (j*2+1) (.string ⟨#[]⟩)) (h:g<w.heap.size) (r:n<=4294967296):Calls prog 54 #[.slice (some ⟨g,0,none⟩) n k,.string m] w fun e w'=>e=.returned (.bool true)/\Bl w w':=by
 have o:Hid (∀j W,j<n->Bl w W->Ce W g (j*2) (.string m)/\Ce W g (j*2+1) (Sv [])):=fun j W b d=>⟨(d.cell (by exact h)).trans (c j b).1,(d.cell (by exact h)).trans (c j b).2⟩;go_enter func54,ntmps54;go_wp21;go_loopw [5] (fun i wr=>∃q:Nat,q<=n/\i=Iv q/\Bl w wr) (fun i _=>n-(intOf i).toNat)
 case atStart=>exact⟨0,aR _,rfl,ai _ _⟩
 case round=>
  obtain⟨q,p,rfl,a⟩:=hrel;have f:=hI a;by_cases l:q<n
  .obtain⟨t,s⟩:=o q _ l a
   clear a;go_wp2;go_roundw
   case rel=>exact⟨q+1,by omega,by go_num,f⟩
   case measure=>grind[intOf]
  .clear a
   go_wp2;go_ret;exact⟨rfl,f⟩
theorem AP (x:Bs):∀l:List Bs,gP (l++ [x])=if l=[] then x else gP l++38::x
 | []=>rfl
 | [y]=>rfl
 |y::z::l=>by
  have h:=AP x (z::l);rw[ab (by simp)] at h⊢;show y++38::gP (z::l++ [x])=(y++38::gP (z::l))++38::x;rw[h];simp
theorem AQ (a:List (Bs×Bs)) (q:Nat) (p:Bs×Bs) (h:a[q]?=some p):eE (a.take (q+1))=eE (a.take q)++(if 0<q then [38] else [])++aK p.1++ [61]++aK p.2:=by
 have c:=(dN.1 h).1;unfold eE;rw[jf,h,Option.toList_some,kg,List.map_singleton,AP];by_cases b:0<q
 .rw[ab (by grind[List.map_eq_nil_iff,List.take_eq_nil_iff]),ae b]
  simp[piece]
 .grind[piece,gP]
theorem AR (a:List (Bs×Bs)):∀q,q<=a.length->(eE (a.take q)).length<=3*de (a.take q)+2*q
 |0,_=>by simp[eE,gP]
 |q+1,h=>by
  have b:a[q]?=some a[q]:=bY (by omega);have:=AR a q (by omega);have d:=nY a[q].1;have c:=nY a[q].2;rw[AQ a q _ b,ml a q _ b];simp only[cC,List.length_singleton];split<;>simp<;>omega
theorem AS (a:List (Bs×Bs)) (K:Nat) (b:∀p∈a,p.1.length+p.2.length<=K):∀q,de (a.take q)<=q*K
 |0=>by simp[de]
 |q+1=>by
  have e:=AS a K b q;rw[Nat.succ_mul];by_cases c:q<a.length
  .have f:=ml a q _ (bY c)
   have d:=b a[q] (mW c);omega
  .grind[List.take_of_length_le]
def kc (ps:List (Bs×Bs)):Ending:=if 2000<de ps then .returned (.tuple #[.string ⟨#[]⟩,.int .i64 1]) else .returned (.tuple #[.string ⟨(eE ps).toArray⟩,.int .i64 0])
theorem Oi (a:List (Bs×Bs)) (D:Option Go.Addr) (Z:Nat) (w:World) (b:PairAt w D a) (hn:a.length<=2097152) (H:∀p∈a,p.1.length<=2097152/\p.2.length<=2097152):Calls prog 81 #[.slice D a.length Z] w fun e w'=>e=kc a/\Bl w w':=by
 have A:Hid (∀W,Bl w W->PairAt W D a):=fun W G=>b.below G;have P:=hI H;have B:Hid (∀(x:Bs) W,x.length<=2000->CB 136 #[.string ⟨x.toArray⟩] W (.string ⟨(aK x).toArray⟩)):=fun x W h=>NZ ⟨x.toArray⟩ W (by rw[al];omega);have M:Hid (∀q,de (a.take q)<=q*4194304):=AS a _ fun p b=>by have:=H p b;omega
 clear b H;go_enter func81,ntmps81;go_wp2_with fail;go_loopw [4,6] (fun s i wr=>∃q:Nat,q<=a.length/\i=Iv q/\s=Iv (de (a.take q):Nat)/\Bl w wr) (fun _ i _=>a.length-(intOf i).toNat)
 case atStart=>exact⟨0,aR _,rfl,rfl,ai _ _⟩
 case round=>
  obtain⟨q,n,rfl,rfl,j⟩:=hrel;have k:=hI j;by_cases u:q<a.length
  .obtain⟨p,b⟩:∃p,a[q]?=some p:=⟨a[q],bY u⟩
   obtain⟨g,off,C,_,U,R⟩:=A _ j q p b;subst C;have b8:=P p (ef b);have a4:=hI (ml a q p b);have b7:=M q;have l:(⟨p.1.toArray⟩:ByteArray).size=p.1.length:=al _;have m:(⟨p.2.toArray⟩:ByteArray).size=p.2.length:=al _;generalize(⟨p.1.toArray⟩:ByteArray)=x at*;generalize(⟨p.2.toArray⟩:ByteArray)=y at*;generalize de (a.take q)=T at*;clear j b;go_wp2;go_quiet (fail);go_wp2;go_roundw
   case rel=>exact⟨q+1,by omega,by go_num,by rw[a4.out];simp;omega,cr k _⟩
   case measure=>(simp[intOf];try omega)
  .have Y:q=a.length:=by omega
   subst Y;rw[un];clear j u n P M;by_cases v:2000<de a
   .have a8:(2000:Int)<(de a:Nat):=by omega
    have F:Hid (kc a=.returned (.tuple #[.string ⟨#[]⟩,Iv 1])):=hI (by unfold kc;rw[ae v]);generalize de a=T at*;clear v;go_wp2;go_ret2;exact⟨by rw[F.out];rfl,k⟩
   .have a8:¬(2000:Int)<(de a:Nat):=by omega
    have F:Hid (kc a=.returned (.tuple #[.string ⟨(eE a).toArray⟩,Iv 0])):=hI (by unfold kc;rw[ab v]);have L:Hid (∀(q:Nat) (p:Bs×Bs),a[q]?=some p->p.1.length<=2000/\p.2.length<=2000):=(by intro q p b;have h1:=ml a q p b;have z:=pC a (q+1);omega);have N:Hid (∀q,q<=a.length->(eE (a.take q)).length<=6000+2*q):=(by intro q n;have h1:=AR a q n;have z:=pC a q;omega);generalize de a=T at*;clear v;go_wp2_with fail;go_loopw [5,7] (fun o i wr=>∃q:Nat,q<=a.length/\i=Iv q/\o=.string ⟨(eE (a.take q)).toArray⟩/\Bl w wr) (fun _ i _=>a.length-(intOf i).toNat)
    case atStart=>exact⟨0,aR _,rfl,rfl,k⟩
    case round=>
     obtain⟨q,n,rfl,rfl,j⟩:=hrel;have k:=hI j;by_cases u:q<a.length
     .obtain⟨p,b⟩:∃p,a[q]?=some p:=⟨a[q],bY u⟩
      obtain⟨g,off,C,_,U,R⟩:=A _ j q p b;subst C;have a9:Hid (∀W,Bl w W->Ce W g (off+q*2+1) (.string ⟨p.2.toArray⟩)):=by intro W G;obtain⟨g',b6,h,_,_,z⟩:=A W G q p b;injection h with h;injection h with e1 e2;rw[e1,e2];exact z
      obtain⟨Q,S⟩:=L q p b;have b3:Hid _:=fun W=>B p.1 W Q;have a7:Hid _:=fun W=>B p.2 W S;have a6:=N q n;have k1:=nY p.1;have k2:=nY p.2;have a3:(⟨(eE (a.take q)).toArray⟩:ByteArray).size=(eE (a.take q)).length:=al _;have l:(⟨(aK p.1).toArray⟩:ByteArray).size=(aK p.1).length:=al _;have m:(⟨(aK p.2).toArray⟩:ByteArray).size=(aK p.2).length:=al _;have r:Hid ((⟨(eE (a.take q)).toArray⟩:ByteArray)++⟨(if 0<q then [38] else []).toArray⟩++⟨(aK p.1).toArray⟩++⟨#[61]⟩++⟨(aK p.2).toArray⟩=⟨(eE (a.take (q+1))).toArray⟩):=by show _=_;rw[AQ a q p b,show(⟨#[61]⟩:ByteArray)=⟨[61].toArray⟩ from rfl,mm,mm,mm,mm]
      generalize(⟨(eE (a.take q)).toArray⟩:ByteArray)=d at*;generalize(⟨(aK p.1).toArray⟩:ByteArray)=x at*;generalize(⟨(aK p.2).toArray⟩:ByteArray)=y at*;generalize(⟨p.1.toArray⟩:ByteArray)=b1 at*;generalize(⟨p.2.toArray⟩:ByteArray)=b2 at*;have hw:d.size+x.size+y.size<=4300000:=(by omega);clear j b L N B a6 a3 k1 k2 l m Q S;by_cases E:0<q;case' pos=>have g0:∀W:World,(Op.stringOp .add d ⟨#[38]⟩).run prog W=.ok (.string (d++⟨#[38]⟩)) W:=fun W=>bm W _ _ (by show _+1<=_;omega);rw[ae E] at r;have O:(d++⟨#[38]⟩:ByteArray).size=d.size+1:=(by rw[qM];rfl);go_wp2_with fail;clear g0;obtain⟨c,f⟩:=am (d++⟨#[38]⟩:ByteArray);have J:Hid (c++x++⟨#[61]⟩++y=⟨(eE (a.take (q+1))).toArray⟩):=hI (by rw[f];exact r);have I:c.size<=d.size+1:=(by rw[f,O];omega);rw[<-f];clear f O
      case' neg=>
       rw[ab E] at r;go_wp2_with fail;obtain⟨c,f⟩:=am d;have J:Hid (c++x++⟨#[61]⟩++y=⟨(eE (a.take (q+1))).toArray⟩):=by show _=_;rw[f,<-r.out,show d++(⟨([]:Bs).toArray⟩:ByteArray)=d from by apply BV;simp[ByteArray.data_append]]
       have I:c.size<=d.size+1:=(by rw[f];omega);rw[<-f];clear f
      all_goals
       have a5:c.size+x.size+y.size<=4300001:=(by omega);clear r E I hw;refine mR (b3 _) fun w4 V=>?_;have t:=hI (k.out.trans (V.mono k.out.size));have c2:=a9 w4 t;clear V U R;go_wp2_with fail;refine mR (a7 _) fun w5 K=>?_;have b0:=hI (t.out.trans (K.mono t.out.size));have l:(c++x).size=c.size+x.size:=qM ..;have m:(c++x++⟨#[61]⟩:ByteArray).size=c.size+x.size+1:=(by rw[qM,l];rfl);have g1:∀W:World,(Op.stringOp .add c x).run prog W=.ok (.string (c++x)) W:=fun W=>bm W _ _ (by omega);have g2:∀W:World,(Op.stringOp .add (c++x) ⟨#[61]⟩).run prog W=.ok (.string (c++x++⟨#[61]⟩)) W:=fun W=>bm W _ _ (by rw[l];show _+1<=_;omega);have g3:∀W:World,(Op.stringOp .add (c++x++⟨#[61]⟩) y).run prog W=.ok (.string (c++x++⟨#[61]⟩++y)) W:=fun W=>bm W _ _ (by rw[m];omega);clear K l m a5 c2 t;go_wp2;go_roundw
       case rel=>exact⟨q+1,by omega,by go_num,aB Value.string J,b0⟩
       case measure=>(simp[intOf];try omega)
     .have X:Hid (a.take q=a):=cg (by omega)
      rw[X.out];clear j;go_wp2;go_ret2;exact⟨by rw[F.out];rfl,k⟩
theorem GX (a:List (Bs×Bs)) (v:Value) (w:World) (d:PairRow w v a) (l:∀p∈a,p.1.length<=3000/\p.2.length<=3000) (i:a.length<=2097152) (n:de a<=2000) (g:EnvP w):Calls prog 80 #[v] w fun e w'=>e=.returned (.tuple #[.string ⟨(eE a).toArray⟩,.int .i64 0])/\Bl w w':=by
 have j:Hid (CB 134 #[v] w (.bool false)):=by have:=xB a v w d (fun p o=>⟨by grind,by grind⟩);rwa[ee (by omega)] at this
 have m:Hid (∀b,Bl w b->CQ 135 #[v] b (.string ⟨(eE a).toArray⟩) (Below w.hz w)):=by intro b c;refine mR (Hl a v b (d.below c) l i (g.below c)) fun w' f=>?_;exact⟨rfl,c.trans (f.mono c.size)⟩
 generalize(⟨(eE a).toArray⟩:ByteArray)=r at*;go_enter func80,ntmps80;go_wp21;refine mR j.out fun b k=>?_;go_wp21;refine mR (m b k) fun q h=>?_;go_wp21;go_ret2;exact⟨rfl,h⟩
theorem GY (s:ByteArray) (w:World) (h:s.size<=2000):Calls prog 31 #[.string s] w fun e w'=>e=.returned (.bool false)/\w'=w:=by
 have a:¬(2000:Int)<(s.size:Int):=by omega
 go_enter func31,ntmps31;go_wp2;go_ret;first|simp|exact⟨by simp,rfl⟩
def gW (t:Bs):List (Bs×Bs):=if 2000<t.length then [] else iX t
def qw (t:Bs):Int:=if 2000<t.length then 1 else 0
def lz (b:Nat) (t:Bs) (e:Ending) (w':World):Prop:=∃v,e=.returned (.tuple #[v,.int .i64 (qw t)])/\w'.ownsRow b 62 2 v (gW t).length (cQ (gW t))
theorem AT (t:Bs):(gW t).length<=2001:=by grind[gW,iX,iy,lY]
theorem Oj (s:ByteArray) (w:World) (h:2000<s.size):Calls prog 50 #[.string s] w fun e w'=>e=.returned (.tuple #[.slice none 0 0,.int .i64 1])/\w'=w:=by
 have a:(2000:Int)<(s.size:Int):=by omega
 go_enter func50,ntmps50;go_wp2;go_ret2;exact⟨rfl,rfl⟩
theorem Ok (t:Bs) (w:World):Calls prog 50 #[.string ⟨t.toArray⟩] w λe w'=>lz w.heap.size t e w'/\Bl w w':=by
 unfold lz gW qw;by_cases h:2000<t.length
 .simp only[ae h]
  refine m0 (Oj (Bv t) w (by grind[al])) ?_;exact⟨⟨_,rfl,rfl,.inl ⟨rfl,rfl⟩⟩,ai _ _⟩
 .simp only[ab h]
  exact Og t w (by omega)
theorem Ol (t:Bs) (w:World) (c:t.length<=maxLen) (b:EnvP w):Calls prog 49 #[.string ⟨t.toArray⟩] w fun e w'=>lz w.heap.size t e w'/\Bl w w':=by
 unfold lz gW qw;by_cases h:2000<t.length
 .simp only[ae h]
  have d:Hid (∀a,Calls Tryz.prog 31 #[.string ⟨t.toArray⟩] a fun e w'=>e=.returned (.bool true)/\w'=a):=fun a=>mf _ a (by rw[al];exact h) (by rw[al];exact c);generalize(⟨t.toArray⟩:ByteArray)=j at*;clear h c b;go_enter func49,ntmps49;go_wp2_with fail;refine af (d.out w) ?_;rintro e l ⟨rfl,k⟩;obtain rfl:=k.symm;go_wp2_with fail;go_ret2;exact⟨⟨_,rfl,rfl,.inl ⟨rfl,rfl⟩⟩,ai _ _⟩
 .simp only[ab h]
  have d:=hI (GY ⟨t.toArray⟩ w (by grind[al]));have g:=hI (Hh t w (by omega) b);generalize iX t=m at*;generalize(⟨t.toArray⟩:ByteArray)=j at*;clear h c b;go_enter func49,ntmps49;go_wp2_with fail;refine m0 d.out ?_;go_wp2_with fail;refine g.out.mono ?_;rintro e n ⟨⟨v,rfl,(i:Hid _)⟩,f⟩;go_wp2_with fail;go_ret2;exact⟨⟨v,rfl,i⟩,f⟩
theorem Om (a:List (Bs×Bs)) (v:Value) (w:World) (b:PairRow w v a) (i:∀p∈a,p.1.length<=2097152/\p.2.length<=2097152) (f:a.length<=2097152) (d:EnvP w):Calls prog 80 #[v] w fun e w'=>e=kc a/\Bl w w':=by
 unfold kc;by_cases h:2000<de a
 .simp only[ae h]
  have c:=hI (xB a v w b i);rw[dC h] at c;go_enter func80,ntmps80;go_wp21;refine mR c.out fun m g=>?_;go_wp21;go_ret2;exact⟨rfl,g⟩
 .simp only[ab h]
  refine GX a v w b (fun p k=>?_) f (by omega) d;obtain⟨q,j⟩:=List.getElem?_of_mem k;have n:=ml a q p j;have l:=pC a (q+1);omega
def aX (m:ByteArray):Nat->List Value
 |0=>[]
 |n+1=>.string m::.string ⟨#[]⟩::aX m n
theorem fM (m:ByteArray):∀n,(aX m n).length=n*2
 |0=>rfl
 |n+1=>by
  show(aX m n).length+2=_;rw[fM m n];omega
theorem lA (m:ByteArray) (b:Nat):∀a,aX m (a+b)=aX m a++aX m b
 |0=>by rw[fP];rfl
 |a+1=>by
  rw[Nat.succ_add];show _::_::aX m (a+b)=_::_::(aX m a++aX m b);rw[lA m b a]
theorem nZ (m:ByteArray):∀n j,j<n->(aX m n)[j*2]?=some (.string m)/\(aX m n)[j*2+1]?=some (.string ⟨#[]⟩)
 |n+1,0,_=>⟨rfl,rfl⟩
 |n+1,j+1,h=>by
  have:=nZ m n j (by omega);rw[show(j+1)*2=j*2+1+1 by omega];exact this
theorem AV (m:ByteArray):∀n,∀u∈aX m n,u.oneCell'=true
 |n+1,u,h=>by
  rcases cM.1 h with rfl|h
  .rfl
  .rcases cM.1 h with rfl|h
   .rfl
   .exact AV m n u h
def Mk (w:World) (m:ByteArray) (g n:Nat):Prop:=∀j,j<n->w.cell? ⟨g,j*2,none⟩=some (.string m)/\w.cell? ⟨g,j*2+1,none⟩=some (.string ⟨#[]⟩)
theorem Mk.block {w w':World} {m:ByteArray} {g n:Nat} (h:Mk w m g n) (b:w'.heap[g]?=w.heap[g]?):Mk w' m g n:=λj c=>⟨(iH (a:=(Ad g _)) b).trans (h j c).1,(iH (a:=(Ad g _)) b).trans (h j c).2⟩
theorem tU {w:World} {m:ByteArray} {g n:Nat} {a:Array Value} {e:TypeId} {fr:Nat×Nat} (f:w.heap[g]?=some (.cells a e fr)) (h:a.toList.take (n*2)=aX m n):Mk w m g n:=by
 intro j c;have b:∀i u,i<n*2->(aX m n)[i]?=some u->w.cell? ⟨g,i,none⟩=some u:=by intro i u d k;rw[dD w g i a e fr f,<-jK];rwa[<-h,ow,ae d] at k
 exact⟨b _ _ (by omega) (nZ m n j c).1,b _ _ (by omega) (nZ m n j c).2⟩
theorem AW {w:World} {a:Go.Addr} {v:Value} (h:w.cell? a=some v):a.block<w.heap.size:=by grind[World.cell?]
section
variable {P : Program}
def qy (m:ByteArray) (base:Nat) (e:TypeId) (w w':World) (v:Value) (n k g:Nat):Prop:=
 base<=g/\g<w'.heap.size/\Mk w' m g (n+k)/\w.grownBy w' v.ownBlock/\(∀g' n',Mk w m g' n'->Mk w' m g' n')/\w'.ownsRow base e 2 v n (aX m n)/\(v.ownBlock=some g\/g=w.heap.size)
theorem Ow (w:World) (m:ByteArray) (t y:TypeId) (base:Nat) (e:TypeId) (i:TypeInfo) (z:Value) (J:Nat) (A:P.underlying t=some (.slice e)) (D:P.info? e=some i) (hz:i.zero=some z) (F:i.size=2) (a0:i.bytes=J) (v:Value) (n:Nat) (f:w.ownsRow base e 2 v n (aX m n)) (p:Go.Addr) (k c:Nat) (E:∀j u,(aX m k)[j]?=some u->w.cell? (p.add j)=some u) (W:0<k) (I:n+k<=maxLen) (Q:(n+k)*J<=140737488355328) (R:base<=w.heap.size):∃g b w',(Builtin.append_ #[t,t] y #[v,.slice (some p) k c]).run P w=.ok (.slice (some ⟨g,0,none⟩) (n+k) b) w'/\qy m base e w w' v n k g:=by
 subst a0;have B:(aX m k).length=k*i.size:=by rw[fM,F]
 have a3:n+k<=9223372036854775807:=by simp only[maxLen] at I;omega
 have H:∀(C:Array Value) (row:Option Nat),C.toList.take ((n+k)*2)=aX m (n+k)->w.ownsRow base e 2 v n (aX m n)->qy m base e w (w.drew.alloc (.cells C e)) v n k w.hz:=by
  intro C row M f;have G:∀q,q<w.hz->(w.drew.alloc (.cells C e)).heap[q]?=w.heap[q]?:=λq d=>uG w.drew _ d;refine⟨R,by simp,tU (w:=w.drew.alloc (.cells C e)) (g:=w.hz) (fr:=(0,0)) (dO w.drew _) M,⟨rfl,rfl,rfl,by simp,λq d _=>G q d⟩,?_,?_,.inr rfl⟩
  .intro a O h
   intro j s;have U:=AW (h j s).1;exact h.block (G a U) j s
  .exact f.kept (row:=none) ⟨rfl,rfl,rfl,by simp,λq d _=>G q d⟩ (by grind)
 obtain⟨rfl,rfl⟩|⟨g,b,l,rfl,K,x,N,X,Y,a2⟩:=f.2
 .have o:=run_append_nil (P:=P) w t y e i z A D hz p k c (aX m k) B E W (by omega) (by grind)
  rw[fP] at I;refine⟨_,_,_,by rw[fP];exact o,H _ none ?_ f⟩;rw[fP,Ca,<-fM m k];exact ke
 .by_cases a1:n+k<=b
  .have Z:=fM m k
   have T:n*i.size+(aX m k).length<=l.size:=(by rw[F,Z,Y];omega);have o:=run_append_room (P:=P) w t y e i A D g n b l x p k c (aX m k) B E (AV m k) a1 T;rw[F,a2] at o;have r:=bH w g l (aX m n++aX m k++l.toList.drop (n*2+(aX m k).length)).toArray e _ x;refine⟨g,b,_,o,K,?_,tU r ?_,⟨rfl,rfl,rfl,by simp,λq _ d=>BT w g q _ (λe=>d (by grind[Value.ownBlock]))⟩,?_,⟨f.1,.inr ⟨g,b,_,rfl,K,r,N,X,?_,?_⟩⟩,.inl rfl⟩
   .grind
   .rw[<-lA]
    show List.take _ (aX m (n+k)++_)=_;rw[<-fM m (n+k)];exact ke
   .intro a O h
    by_cases L:a=g
    .subst L
     intro j s;have V:=h j s;rw[dD w a _ l e _ x,dD w a _ l e _ x] at V;rw[dD _ a _ _ e _ r,dD _ a _ _ e _ r,<-lA];by_cases a4:j<n+k
     .grind[nZ,List.getElem?_append_left]
     .grind[fM,List.getElem?_append_right]
    .exact h.block (BT w g a _ L)
   .grind
   .grind
  .have S:=f.cells (g:=g) rfl
   have o:=run_append_grow (P:=P) w t y e i z A D hz (Ad g 0) n b (aX m n) (by grind) S p k c (aX m k) B E (by omega) (by omega) (growslice_fits (by omega) Q);refine⟨_,_,_,o,H _ none ?_ f⟩;rw[Ca,Ca];show List.take _ (aX m n++aX m k++_)=_;rw[<-lA,<-fM m (n+k)];exact ke
theorem tV {w:World} {l:Array Oper} {rest:List Oper} {o:Oper} {a:Act} {Q:Exit->Act->World->Prop} (K:o.guard=none) (s x:Operand) (t:TypeId) (y:o.op=.call {callee:=.builtin .append,args:=#[s,x],argTypes:=#[t,t]}) (m:ByteArray) (base:Nat) (e:TypeId) (i:TypeInfo) (z:Value) (d:Nat) (q:P.underlying t=some (.slice e)) (B:P.info? e=some i) (hz:i.zero=some z) (I:i.size=2) (G:i.bytes=d) (v:Value) (n:Nat) (J:a.eval s=v) (L:w.ownsRow base e 2 v n (aX m n)) (f:Go.Addr) (k c:Nat) (M:a.eval x=.slice (some f) k c) (D:∀j u,(aX m k)[j]?=some u->w.cell? (f.add j)=some u) (E:0<k) (C:n+k<=maxLen) (r:(n+k)*d<=140737488355328) (A:base<=w.heap.size) (h:∀g b w',qy m base e w w' v n k g->wpList P l Q rest (a.put o.dst (.slice (some ⟨g,0,none⟩) (n+k) b)) w'):wpList P l Q (o::rest) a w:=
 wpList_plain K λ_ H=>by
  obtain⟨g,b,w',F,p⟩:=Ow (P:=P) w m t o.type base e i z d q B hz I G v n L f k c D E C r A;unfold Oper.wp execOp;simp only[y,resolve,invoke,builtin,jg,uE,uF,List.map_toArray,mM,List.map_nil,J,M,F];exact H _ _ (h g b w' p)
end
structure Ent where
 l:Value
 a:Value
 b:Value
 c:Value
 m:ByteArray
def lB (e:Ent):List Value:=[e.l,e.a,e.b,e.c,.string e.m]
def jd (es:List Ent):List Value:=es.flatMap lB
theorem AX:∀(a:List Ent) (j:Nat) (e:Ent),a[j]?=some e->∀(i:Nat) c,(lB e)[i]?=some c->(jd a)[j*5+i]?=some c
 |x::a,0,e,h,i,c,hc=>by
  simp at h;subst h;show(lB x++jd a)[0*5+i]?=_;have d:=(dN.1 hc).1;rw[qW,fP,qF d];exact hc
 |x::a,j+1,e,h,i,c,hc=>by
  show(lB x++jd a)[(j+1)*5+i]?=_;have b:(lB x).length=5:=rfl;rw[mX (by omega),b,show(j+1)*5+i- 5=j*5+i by omega];exact AX a j e (by simpa using h) i c hc
def FullV (w:World) (k:Nat) (ob:Option Nat) (m:ByteArray) (v:Value):Prop:=v=.slice none 0 0\/∃g n cap,v=.slice (some ⟨g,0,none⟩) n cap/\k<g/\some g≠ob/\g<w.heap.size/\n<=1000000/\Mk w m g n
def FullE (w:World) (k:Nat) (ob:Option Nat) (e:Ent):Prop:=FullV w k ob e.m e.l/\FullV w k ob e.m e.a/\FullV w k ob e.m e.b/\FullV w k ob e.m e.c
def BookIs (k:Nat) (w:World) (es:List Ent):Prop:=∃bv,w.heap[k]?=some (.cells #[bv] 56 (0,0))/\w.ownsRow (k+1) 93 5 bv es.length (jd es)/\∀e∈es,FullE w k bv.ownBlock e
theorem FullV.keep {w w':World} {k:Nat} {c ob':Option Nat} {m:ByteArray} {v:Value} (h:FullV w k c m v) (f:w.heap.size<=w'.heap.size) (d:∀g,k<g->g<w.heap.size->some g≠c->w'.heap[g]?=w.heap[g]?/\some g≠ob'):FullV w' k ob' m v:=by
 rcases h with h|⟨g,n,l,o,a,e,b,j,i⟩
 .exact .inl h
 .exact .inr ⟨g,n,l,o,a,(d g a b e).2,cq b f,j,i.block (d g a b e).1⟩
theorem FullE.keep {w w':World} {k:Nat} {c ob':Option Nat} {e:Ent} (h:FullE w k c e) (b:w.heap.size<=w'.heap.size) (a:∀g,k<g->g<w.heap.size->some g≠c->w'.heap[g]?=w.heap[g]?/\some g≠ob'):FullE w' k ob' e:=⟨h.1.keep b a,h.2.1.keep b a,h.2.2.1.keep b a,h.2.2.2.keep b a⟩
theorem FullV.form {w:World} {k:Nat} {a:Option Nat} {m:ByteArray} {v:Value} (h:FullV w k a m v):∃s n c,v=.slice s n c:=by
 rcases h with h|⟨g,n,b,d,_⟩
 .grind
 .grind
theorem BookIs.below {k:Nat} {w w':World} {b:List Ent} (h:BookIs k w b) (a:Bl w w'):BookIs k w' b:=by obtain⟨d,c,f,l⟩:=h;have n:=(aT.1 c).1;exact⟨d,(a.block k n).trans c,jU f a,λe i=>(l e i).keep a.size λg _ m j=>⟨a.block g m,j⟩⟩
theorem qz (k:Nat) (a:Option Nat) (m:ByteArray) (v:Value) (w:World) (h:FullV w k a m v):Calls prog 54 #[v,.string m] w fun e w'=>e=.returned (.bool true)/\Bl w w':=by
 rcases h with rfl|⟨g,n,f,rfl,j,o,b,l,d⟩
 .go_enter func54,ntmps54
  go_wp21;go_loopw [5] (fun i wr=>i=Iv 0/\Bl w wr) (fun _ _=>0)
  case atStart=>simp[ai]
  case round=>obtain⟨rfl,(c:Hid _)⟩:=hrel;go_wp2;go_ret;exact⟨rfl,c⟩
 .exact Oh m n f g w d b (by omega)
theorem Ox (k:Nat) (b:List Ent) (w:World) (h:BookIs k w b) (T:b.length<=4194304):Calls prog 30 #[.pointer (some ⟨k,0,none⟩)] w fun e w'=>e=.returned (.bool true)/\Bl w w':=by
 obtain⟨N,O,X,x⟩:=h;have S:=(aT.1 O).1;have HK:Hid (∀W,Bl w W->Ce W k 0 N):=fun W d=>aa ((d.block k S).trans O) 0;have HF:Hid (∀W e v,Bl w W->e∈b->(v=e.l\/v=e.a\/v=e.b\/v=e.c)->CB 54 #[v,.string e.m] W (.bool true)):=by
  intro W e v d f P;have G:=(x e f).keep (w':=W) (ob':=N.ownBlock) d.size fun g _ F T=>⟨d.block g F,T⟩;obtain rfl|rfl|rfl|rfl:=P
  .exact qz k _ _ _ W G.1
  .exact qz k _ _ _ W G.2.1
  .exact qz k _ _ _ W G.2.2.1
  .exact qz k _ _ _ W G.2.2.2
 have Y:Hid (∃L D,N=.slice L b.length D/\∀(q:Nat) e,b[q]?=some e->∃g,L=some (Ad g 0)/\∀W,Bl w W->Ce W g (q*5) e.l/\Ce W g (q*5+1) e.a/\Ce W g (q*5+2) e.b/\Ce W g (q*5+3) e.c/\Ce W g (q*5+4) (.string e.m)):=by
  obtain⟨rfl,h0⟩|⟨g,D,c2,rfl,_,F,_,_,_,b8⟩:=X.2
  .simp_all
  .refine⟨_,D,rfl,fun q e J=>⟨g,rfl,fun W d=>?_⟩⟩
   have c1:=(dN.1 J).1;have z:∀(i:Nat) c,i<5->(lB e)[i]?=some c->W.cell? ⟨g,q*5+i,none⟩=some c:=(by intro i c hi I;rw[(d.cell (p:=⟨g,q*5+i,none⟩) (aT.1 F).1),aa F,<-jK];have:=AX b q e J i c I;rwa[<-b8,ow,ae (by omega)] at this);exact⟨z 0 _ (by omega) rfl,z 1 _ (by omega) rfl,z 2 _ (by omega) rfl,z 3 _ (by omega) rfl,z 4 _ (by omega) rfl⟩
 have b5:Hid (∀e∈b,(∃s n c,e.l=.slice s n c)/\(∃s n c,e.a=.slice s n c)/\(∃s n c,e.b=.slice s n c)/\∃s n c,e.c=.slice s n c):=fun e f=>⟨(x e f).1.form,(x e f).2.1.form,(x e f).2.2.1.form,(x e f).2.2.2.form⟩;clear O X x S;obtain⟨L,D,a9,U⟩:=Y.out;subst a9;have b7:=hI U;have c0:=HK.out w (ai _ _);clear Y U;go_enter func30,ntmps30;go_wp2_with fail;go_loopw [3] (fun i wr=>∃q:Nat,q<=b.length/\i=Iv q/\Bl w wr) (fun i _=>b.length-(intOf i).toNat)
 case atStart=>exact⟨0,aR _,rfl,ai _ _⟩
 case round=>
  obtain⟨q,J,rfl,m⟩:=hrel;have HB:=hI m;have k0:=HK _ m;by_cases b6:q<b.length
  .obtain⟨e,f⟩:∃e,b[q]?=some e:=⟨b[q],bY b6⟩
   have K:=ef f;obtain⟨g,b0,I⟩:=b7 q e f;subst b0;obtain⟨a0,a1,a2,a3,a4⟩:=I _ m;obtain⟨W,d⟩:=am (wr.alloc (.cells #[e.l,e.a,e.b,e.c,.string e.m] 93));have B:Bl w W:=(by rw[d];exact m.alloc m.size _);have hz:W.heap[wr.heap.size]?=some (.cells #[e.l,e.a,e.b,e.c,.string e.m] 93 (0,0)):=(by rw[d];exact dO wr _);have a5:=(aT.1 hz).1;have A:Hid (∀a,Bl W a->Ce a wr.heap.size 0 e.l/\Ce a wr.heap.size 1 e.a/\Ce a wr.heap.size 2 e.b/\Ce a wr.heap.size 3 e.c/\Ce a wr.heap.size 4 (.string e.m)):=(by intro a j;have y:=(j.block wr.heap.size a5).trans hz;exact⟨aa y 0,aa y 1,aa y 2,aa y 3,aa y 4⟩);have b9:Hid (∀a,Bl W a->Bl w a):=fun a j=>B.trans (j.mono B.size);have C:Hid (∀a v,Bl W a->(v=e.l\/v=e.a\/v=e.b\/v=e.c)->CB 54 #[v,.string e.m] a (.bool true)):=fun a v j P=>HF a e v (B.trans (j.mono B.size)) K P;have Q:=hI d;obtain⟨⟨s0,n0,p0,a6⟩,⟨s1,n1,p1,a8⟩,⟨s2,n2,p2,a7⟩,s3,n3,p3,V⟩:=b5 e K;clear m I f K B hz a5 d;obtain⟨el,ea,eb,ec,em⟩:=e;simp only at a0 a1 a2 a3 a4 A C Q a6 a8 a7 V;subst a6 a8 a7 V;go_upto_region 5 with fail;rw[<-Q.out];obtain⟨o,t,u,l,r⟩:=A W (ai _ _);go_wp2_with fail;refine mR (C W _ (ai _ _) (.inl rfl)) fun a j=>?_;have M:=hI j;clear o t u l r;obtain⟨o,t,u,l,r⟩:=A a j;clear j;go_wp2_with fail;refine mR (C a _ M.out (.inr (.inl rfl))) fun w2 Z=>?_;have H:=hI (M.out.trans (Z.mono M.out.size));clear o t u l r Z;obtain⟨o,t,u,l,r⟩:=A w2 H.out;go_wp2_with fail;refine mR (C w2 _ H.out (.inr (.inr (.inl rfl)))) fun R b3=>?_;have E:=hI (H.out.trans (b3.mono H.out.size));clear o t u l r b3;obtain⟨o,t,u,l,r⟩:=A R E.out;go_wp2_with fail;refine mR (C R _ E.out (.inr (.inr (.inr rfl)))) fun w4 b4=>?_;have B4:=hI (b9 w4 (E.out.trans (b4.mono E.out.size)));clear o t u l r b4;go_wp2;go_roundw
   case rel=>exact⟨q+1,by omega,by go_num,B4.out⟩
   case measure=>grind[intOf]
  .clear m
   go_wp2;go_ret;exact⟨rfl,HB⟩
end Go.Proofs
namespace Go.Proofs
open Go.RowKit Go.Moor Go.Proofs.Tryz Go.Moor
theorem tW {w w':World} {row:Option Nat} (h:w.grownBy w' row) (g i:Nat) (v:Value) (c:some g=row\/w.heap.size<=g):w.grownBy (w'.setCell ⟨g,i,none⟩ v) row:=
 ⟨h.os,h.tape,h.output,by simpa[World.setCell] using h.size,λk b a=>(fj w' (Ad g i) k v (by grind)).trans (h.block k b a)⟩
def FullB (base:Nat) (m:ByteArray) (w:World) (u:Value):Prop:=u=.slice none 0 0\/∃g n cap,u=.slice (some ⟨g,0,none⟩) n cap/\base<=g/\g<w.heap.size/\n<=1000000/\Mk w m g n
structure StB (wa:World) (base PB XB n:Nat) (m:ByteArray) (v:Value) (a b c:Value) (w:World):Prop where
 own:w.ownsRow base 62 2 v n (aX m n)
 pb:w.heap[PB]?=some (.cells #[.string m,.string ⟨#[]⟩] 62 (0,0))
 xb:w.heap[XB]?=some (.cells #[v,a,b,c,.string m] 93 (0,0))
 gr:wa.grownBy w v.ownBlock
 fa:FullB base m w a
 fb:FullB base m w b
 fc:FullB base m w c
 lp:wa.heap.size<=PB
 lx:wa.heap.size<=XB
 ne:PB≠XB
 lb:base<=wa.heap.size
 lv:∀g,v.ownBlock=some g->g<wa.heap.size
theorem FullB.keep {base:Nat} {m:ByteArray} {w w':World} {u:Value} (h:FullB base m w u) (i:w.heap.size<=w'.heap.size) (b:∀g n,Mk w m g n->Mk w' m g n):FullB base m w' u:=by
 rcases h with h|⟨g,n,e,f,a,j,c,d⟩
 .exact .inl h
 .exact .inr ⟨g,n,e,f,a,by omega,c,b g n d⟩
theorem OD {w:World} {m:ByteArray} {g n:Nat} (o:Obj) (h:Mk w m g n):Mk (w.alloc o) m g n:=λj a=>h.block (uG w o (AW (h j a).1)) j a
theorem OE {w:World} {m:ByteArray} {X i:Nat} {a:Array Value} {t:TypeId} {fr:Nat×Nat} {u:Value} (d:w.heap[X]?=some (.cells a t fr)) (b:∀(s:ByteArray),a[0]?≠some (.string s)) {g n:Nat} (h:Mk w m g n):Mk (w.setCell ⟨X,i,none⟩ u) m g n:=by
 intro j c;by_cases e:g=X
 .subst e
  have:=(h 0 (by omega)).1;rw[dD w g _ a t fr d] at this;exact absurd this (b m)
 .exact h.block (fj w (Ad X i) g u e) j c
theorem tX (w:World) (m:ByteArray) (t:TypeId) (k:Nat):∀(j:Nat) u,(aX m k)[j]?=some u->(w.alloc (.cells (aX m k).toArray t)).cell? ((⟨w.heap.size,0,none⟩:Go.Addr).add j)=some u:=by simp[ry]
section
variable {wa : World} {base PB XB n : Nat} {m : ByteArray} {v a b c : Value} {w : World}
theorem StB.grow (h:StB wa base PB XB n m v a b c w) {o:Obj} {w':World} {k g:Nat} (z:qy m base 62 (w.alloc o) w' v n k g) (A:n+k<=1000000) (r:Nat):StB wa base PB XB n m v a b c w'/\FullB base m w' (.slice (some ⟨g,0,none⟩) (n+k) r):=by
 obtain⟨u,t,y,f,B,C,_⟩:=z;have j:w.heap.size<=w'.heap.size:=by have:=f.size;simp at this;omega
 have p:=λq d i=>(f.block q (by simp;omega) i).trans (uG w o d)
 have s:∀q,wa.heap.size<=q->some q≠v.ownBlock:=λq d e=>by have:=h.lv q e.symm;omega
 have l:=λg n x=>B g n (OD o x)
 exact⟨⟨C,(p PB (aT.1 h.pb).1 (s PB h.lp)).trans h.pb,(p XB (aT.1 h.xb).1 (s XB h.lx)).trans h.xb,
  ⟨f.os.trans h.gr.os,f.tape.trans h.gr.tape,f.output.trans h.gr.output,bu h.gr.size j,λq d i=>(p q (cq d h.gr.size) i).trans (h.gr.block q d i)⟩,
  h.fa.keep j l,h.fb.keep j l,h.fc.keep j l,h.lp,h.lx,h.ne,h.lb,h.lv⟩,.inr ⟨g,n+k,r,rfl,u,t,A,y⟩⟩
theorem StB.put (h:StB wa base PB XB n m v a b c w) (C:∃o l,v=.slice o n l) (i:Nat) (u f j d:Value) (k:FullB base m w u) (z:#[v,a,b,c,.string m].setIfInBounds i u=#[v,f,j,d,.string m]) (t:f=a\/f=u) (B:j=b\/j=u) (F:d=c\/d=u):StB wa base PB XB n m v f j d (w.setCell ⟨XB,i,none⟩ u):=by
 obtain⟨o,l,rfl⟩:=C;have r:=aD w XB i _ _ u h.xb;rw[z] at r;have A:∀g n,Mk w m g n->Mk (w.setCell (Ad XB i) u) m g n:=λg n D=>OE h.xb (λs=>by simp) D;have p:w.heap.size<=(w.setCell (Ad XB i) u).heap.size:=by simp[World.setCell]
 have keep:∀y,FullB base m w y->FullB base m (w.setCell (Ad XB i) u) y:=λy E=>E.keep p A;refine⟨?_,(fj w (Ad XB i) PB u h.ne).trans h.pb,r,tW h.gr XB i u (.inr h.lx),?_,?_,?_,h.lp,h.lx,h.ne,h.lb,h.lv⟩
 .refine h.own.kept (row:=some XB) ⟨rfl,rfl,rfl,p,λq G x=>fj w (Ad XB i) q u (λe=>x (by rw[e]))⟩ ?_
  right;intro e;have:=h.lv XB e;have:=h.lx;omega
 .obtain rfl|rfl:=t
  .exact keep _ h.fa
  .exact keep _ k
 .obtain rfl|rfl:=B
  .exact keep _ h.fb
  .exact keep _ k
 .obtain rfl|rfl:=F
  .exact keep _ h.fc
  .exact keep _ k
theorem OF (h:w.ownsRow base 62 2 v n (aX m n)) (c:n<=1000000):FullB base m w v:=by
 obtain⟨rfl,rfl⟩|⟨g,d,f,rfl,e,a,i,k,j,b⟩:=h.2
 .exact .inl rfl
 .exact .inr ⟨g,n,d,rfl,e,(aT.1 a).1,c,tU a b⟩
theorem FullB.fullV {u:Value} {w':World} {k g:Nat} (h:FullB base m w u) (l:k<base) (j:w.heap.size<=w'.heap.size) (f:∀q,base<=q->q<w.heap.size->w'.heap[q]?=w.heap[q]?/\q≠g):FullV w' k (some g) m u:=by
 rcases h with h|⟨q,n,d,i,a,e,b,c⟩
 .exact .inl h
 .exact .inr ⟨q,n,d,i,by omega,by grind,by omega,b,c.block (f q a e).1⟩
theorem OG (a:List Ent) (e:Ent):jd (a++ [e])=jd a++lB e:=by simp[jd]
theorem StB.close (h:StB wa base PB XB n m v a b c w) (L:n<=1000000) {k:Nat} {d:List Ent} {j:Value} {w0:World} (K:k<base) (I:w.heap[k]?=some (.cells #[j] 56 (0,0))) (y:∀q,j.ownBlock=some q->k<q/\q<base) (H:∀e∈d,FullE w0 k j.ownBlock e) (Q:w0.heap.size=base) (E:∀q,q<base->w.heap[q]?=w0.heap[q]?) {o:Obj} {g i:Nat} {w':World} (B:w'.ownsRow (k+1) 93 5 (.slice (some ⟨g,0,none⟩) (d.length+1) i) (d.length+1) (jd d++ [v,a,b,c,.string m])) (G:(w.alloc o).grownBy w' j.ownBlock) (D:j.ownBlock=some g\/g=w.heap.size+1):w'.heap[k]?=some (.cells #[j] 56 (0,0))/\BookIs k (w'.setCell ⟨k,0,none⟩ (.slice (some ⟨g,0,none⟩) (d.length+1) i)) (d++ [⟨v,a,b,c,m⟩])/\∀q,q<base->q≠k->some q≠j.ownBlock->(w'.setCell ⟨k,0,none⟩ (.slice (some ⟨g,0,none⟩) (d.length+1) i)).heap[q]?=w0.heap[q]?:=by
 have P:=bu h.lb h.gr.size;have F:w.heap.size<=w'.heap.size:=by have:=G.size;simp at this;omega
 have s:=λq l f=>(G.block q (by simp;omega) f).trans (uG w o l);have A:=(s k (by omega) (λe=>by have:=y k e.symm;omega)).trans I;have N:=aD w' k 0 _ _ (.slice (some (Ad g 0)) (d.length+1) i) A;have r:∀q,q≠k->(w'.setCell (Ad k 0) (.slice (some (Ad g 0)) (d.length+1) i)).heap[q]?=w'.heap[q]?:=λq l=>fj w' (Ad k 0) q _ l;have z:w'.heap.size<=(w'.setCell (Ad k 0) (.slice (some (Ad g 0)) (d.length+1) i)).heap.size:=by simp[World.setCell]
 have O:k<g:=by have:=(B.lt g rfl).1;omega
 have far:∀q,base<=q->q<w.heap.size->(w'.setCell (Ad k 0) (.slice (some (Ad g 0)) (d.length+1) i)).heap[q]?=w.heap[q]?/\q≠g:=by
  intro q l hz;refine⟨(r q (by omega)).trans (s q hz (λe=>by have:=y q e.symm;omega)),?_⟩;rintro rfl;obtain e|e:=D
  .have:=y q e;omega
  .omega
 have t:∀u,FullB base m w u->FullV _ k (some g) m u:=λu J=>J.fullV K (bu F z) far;refine⟨A,⟨.slice (some (Ad g 0)) (d.length+1) i,N,?_,?_⟩,?_⟩
 .rw[OG,cC]
  refine B.kept (row:=some k) ⟨rfl,rfl,rfl,z,λq _ f=>r q (λe=>f (by rw[e]))⟩ (.inr ?_);intro e;have:g=k:=by simpa[Value.ownBlock] using e
  omega
 .intro e p
  obtain p|p:=fm.1 p
  .refine(H e p).keep (bu (by omega) (bu F z)) λq l hz f=>⟨(r q (by omega)).trans ((s q (by omega) f).trans (E q (by omega))),?_⟩
   show some q≠some g;intro x;injection x with x;obtain C|C:=D
   .exact f (by rw[C,x])
   .omega
  .obtain rfl:=kZ.1 p
   exact⟨t _ (OF h.own L),t _ h.fa,t _ h.fb,t _ h.fc⟩
 .intro q l f M
  exact(r q f).trans ((s q (by omega) M).trans (E q l))
end
theorem AZ:∀n,aX ⟨#[]⟩ n=List.replicate (n*2) (.string ⟨#[]⟩)
 |0=>rfl
 |n+1=>by
  rw[show(n+1)*2=n*2+1+1 by omega,uu,uu,<-AZ n];rfl
theorem OH (n:Nat):madeCells #[.string ⟨#[]⟩,.string ⟨#[]⟩] (n*2)=(aX ⟨#[]⟩ n).toArray:=by
 apply qT;rw[AZ];refine List.ext_getElem (by simp[madeCells]) λi b a=>?_;simp only[madeCells,Array.toList_map,List.getElem_map,List.getElem_replicate];have:∀k:Nat,(#[Value.string ⟨#[]⟩,Sv []]:Array Value)[k%2]! =Sv []:=by
  intro k;have:k%2=0\/k%2=1:=by omega
  rcases this with h|h<;>rw[h]<;>rfl
 exact this _
section
variable {P : Program}
theorem OI (w:World) {g:Array Oper} {rest:List Oper} {o:Oper} {a:Act} {Q:Exit->Act->World->Prop} (u:o.guard=none) (l c:Operand) (t:TypeId) (p:o.op=Op.makeSlice t l c) (e:TypeId) (i:TypeInfo) (j:P.underlying t=some (.slice e)) (q:P.info? e=some i) (hz:i.zero=some (.agg #[.string ⟨#[]⟩,.string ⟨#[]⟩])) (s:i.size=2) (f d:IntKind) (n:Nat) (k:a.eval l=.int f (n:Int)) (m:a.eval c=.int d (n:Int)) (y:i.bytes*n<=281474976710656) (z:n<=9223372036854775807) (r:wpList P g Q rest (a.put o.dst (.slice (some ⟨w.heap.size,0,none⟩) n n)) (w.alloc (.cells (aX ⟨#[]⟩ n).toArray e))):wpList P g Q (o::rest) a w:=by
 refine wpList_plain u λK v=>?_;have x:(i.bytes:Int)*(n:Int)<=281474976710656:=by
  have h:((i.bytes*n:Nat):Int)<=281474976710656:=by omega
  rwa[Int.natCast_mul] at h
 have b:=run_make (P:=P) w t e i _ j q hz f d n n (by omega) (Int.le_refl _) x (by omega);simp only[kV,s] at b;rw[show(Value.agg #[Sv [],Sv []]).cells=#[Sv [],Sv []] from rfl,OH] at b;unfold Oper.wp;simp only[execOp,p,k,m,jg,b,uF,uE];exact v _ _ r
theorem OJ (w:World) (x B J k:TypeId) (g q z:Nat) (m:Option Go.Addr) (b H:Nat) (d:List Value) (t:TypeId) (a:List Value) (p:P.underlying x=some (.slice k)) (s:(P.info? k).map (·.size)=some 2) (u:w.heap[g]?=some (.cells d.toArray t (0,0))) (y:b<=q) (r:a.length=b*2) (F:∀(j:Nat) v,a[j]?=some v->∃f,m=some f/\w.cell? (f.add j)=some v) (C:a.length<=d.length) (A:∀v∈a,v.oneCell'=true):(Builtin.copy_ #[x,B] J #[.slice (some ⟨g,0,none⟩) q z,.slice m b H]).run P w=.ok (goInt b) (w.setRow g (a++d.drop a.length).toArray):=by
 have G:=BY y;have o:=run_storeCells_at P g 0 t a 0 d.toArray w u (by simpa using C) A;simp only[mS,fP,oA,gn] at o;cases e:P.info? k with
 |none=>simp[e] at s
 |some i=>
  have D:i.size=2:=by simpa[e] using s
  cases m with
  |none=>
   have E:a=[]:=by
    cases a with
    |nil=>rfl
    |cons c l=>obtain⟨_,h,_⟩:=F 0 c rfl;cases h
   subst E;have hz:b=0:=(by simp at r;omega);subst hz;have I:=setRow_self w g _ t _ u;simp[Builtin.copy_,qY p,Builtin.lenOf,Builtin.firstCells,sizeOf,typeInfo,e,storeCells,I]
  |some f=>
   have n:=run_loadCells_list (P:=P) w f a (λj v K=>by
    grind)
   rw[r] at n;simp[Builtin.copy_,qY p,Builtin.lenOf,Builtin.firstCells,sizeOf,typeInfo,e,D,G,n,o]
end
theorem On (a:List (Bs×Bs)):∃(r:ByteArray) (e:Int),kc a=.returned (.tuple #[.string r,.int .i64 e]):=by
 unfold kc;split
 .simp
 .simp
theorem Oo (b:List (Bs×Bs)):∀u∈cQ b,u.oneCell'=true:=by
 intro u c;obtain⟨p,_,a⟩:=List.mem_flatMap.1 c;obtain rfl|a:=cM.1 a
 .rfl
 .obtain rfl:=kZ.1 a
  rfl
theorem Oq {w:World} {b:Option Go.Addr} {a:List (Bs×Bs)} (h:PairAt w b a):∀(j:Nat) v,(cQ a)[j]?=some v->∃c,b=some c/\w.cell? (c.add j)=some v:=by
 intro j v i;have f:=(dN.1 i).1;rw[mh] at f;obtain⟨p,d⟩:∃p,a[j/2]?=some p:=⟨a[j/2]'(by omega),bY (by omega)⟩;obtain⟨g,off,l,_,n,m⟩:=h _ p d;have o:=pz a _ p d;refine⟨_,l,?_⟩;have k:((Ad g off):Go.Addr).add j=(Ad g (off+j)):=by unfold Go.Addr.add;split<;>simp_all
 rw[k];have:j=j/2*2\/j=j/2*2+1:=by omega
 obtain e|e:=this
 .grind
 .grind
theorem tT {w:World} {X:Nat} {a:List (Bs×Bs)} {R:List Value} {t:TypeId} {fr:Nat×Nat} (h:w.heap[X]?=some (.cells (cQ a++R).toArray t fr)):PairAt w (some ⟨X,0,none⟩) a:=by
 intro j p c;have b:=pz a j p c;have d:=(dN.1 c).1;have hz:=mh a;refine⟨X,0,rfl,(aT.1 h).1,?_,?_⟩
 .rw[fP,dD w X _ _ t fr h,kW,qF (by omega)]
  exact b.1
 .rw[fP,dD w X _ _ t fr h,kW,qF (by omega)]
  exact b.2
theorem PairAt.row {w:World} {X:Nat} {a:List (Bs×Bs)} (h:PairAt w (some ⟨X,0,none⟩) a) (c:Nat) (k:a.length<=c) (f:c<=maxLen):PairRow w (.slice (some ⟨X,0,none⟩) a.length c) a:=by refine⟨_,c,rfl,k,f,λj p i=>?_⟩;obtain⟨g,off,e,hz,d,b⟩:=h j p i;injection e with e;injection e with e1 e2;subst e1 e2;rw[fP] at d b;exact⟨_,rfl,hz,d,b⟩
def notYours:ByteArray:=⟨#[110,111,116,32,121,111,117,114,115]⟩
def qx:ByteArray:=⟨#[119,114,105,116,116,101,110,32,111,118,101,114]⟩
def fi (ps:List (Bs×Bs)) (q:Nat):List Value:=cQ ps++(aX notYours q++aX ⟨#[]⟩ (8- q))
theorem AU (a:List (Bs×Bs)) (q:Nat) (h:q<=8):(fi a q).length=(a.length+8)*2:=by grind[fi,mh,fM]
theorem Ot (a:List (Bs×Bs)) (q:Nat) (h:q<8):(fi a q).toArray.setIfInBounds ((a.length+q)*2) (.string notYours)=(fi a (q+1)).toArray:=by rw[qZ];congr 1;unfold fi;have c:=mh a;have b:=fM notYours q;rw[kh _ _ (by omega),c,kh _ _ (by omega),b,show(a.length+q)*2- a.length*2- q*2=0 by omega,show 8- q=(8-(q+1))+1 by omega];show _++(_++(.string notYours::Sv []::aX ⟨#[]⟩ (8-(q+1))))=_;rw[lA notYours 1 q];simp[aX]
theorem Ou (a:List (Bs×Bs)) (i:Nat) (h:i<8):(fi a 8)[(a.length+i)*2]?=some (.string notYours)/\(fi a 8)[(a.length+i)*2+1]?=some (.string ⟨#[]⟩):=by
 have d:=mh a;have b:=nZ notYours 8 i h;have c:=fM notYours 8;unfold fi;refine⟨?_,?_⟩
 .grind
 .grind
theorem Ov (a:List (Bs×Bs)) (f:Option Go.Addr) (h:Nat) (w:World) (u:PairAt w f a) (Q:∀p∈a,p.1.length<=2097152/\p.2.length<=2097152) (V:a.length<=2097152) (b9:EnvP w):Calls prog 53 #[.slice f a.length h] w fun e w'=>e=.returned (.bool true)/\Bl w w':=by
 obtain⟨i0,hi,a8,Z,a3⟩:=fA pB;obtain⟨r,U,O⟩:=On a;obtain⟨n,t⟩:=am (w.alloc (.cells (aX ⟨#[]⟩ (a.length+8)).toArray 62));have J:Bl w n:=by rw[t];exact(ai _ _).alloc .refl _
 have K:n.heap[w.heap.size]?=some (.cells (aX ⟨#[]⟩ (a.length+8)).toArray 62 (0,0)):=by rw[t];exact dO w _
 have b8:=hI (Oq (u.below J));have B:=mh a;obtain⟨W2,z⟩:=am (n.setRow w.heap.size (cQ a++(aX ⟨#[]⟩ (a.length+8)).drop (cQ a).length).toArray);have a5:Bl w W2:=by rw[z];exact aZ J .refl _
 have X:W2.heap[w.heap.size]?=some (.cells (fi a 0).toArray 62 (0,0)):=by rw[z,bH n w.heap.size _ _ _ _ K,B,lA ⟨#[]⟩ 8 a.length,<-fM ⟨#[]⟩ a.length,qX];rfl
 have a1:Hid (∀W,Below w.heap.size w W->W.heap[w.heap.size]?=some (.cells (fi a 8).toArray 62 (0,0))->Calls Tryz.prog 80 #[.slice (some ⟨w.heap.size,0,none⟩) a.length (a.length+8)] W fun e w'=>e=.returned (.tuple #[.string r,.int .i64 U])/\Below W.heap.size W w'):=by intro W s M;rw[<-O];exact Om a _ W ((tT M).row _ (by omega) (by unfold maxLen;omega)) Q V (b9.below s)
 have c2:Hid (∀W,Below w.heap.size w W->Calls Tryz.prog 81 #[.slice f a.length h] W fun e w'=>e=.returned (.tuple #[.string r,.int .i64 U])/\Below W.heap.size W w'):=by intro W s;rw[<-O];exact Oi a f h W (u.below s) V Q
 have b1:Hid (∀W,Bl w W->W.heap[w.heap.size]?=some (.cells (fi a 8).toArray 62 (0,0))->CB 51 #[.slice (some (Ad w.heap.size 0)) a.length (a.length+8),.slice f a.length h] W (.bool true)):=fun W s M=>AO a _ f (a.length+8) h W (tT M) (u.below s) (by omega);have a4:=hI t;have a7:=hI z;have a9:=hI a5;have Y:=hI K;have a6:=hI X;have c5:=hI (Oo a);have b0:Hid ((cQ a).length<=(aX ⟨#[]⟩ (a.length+8)).length):=by show _<=_;rw[B,fM];omega
 have b6:=hI B;clear u Q b9 O t z J a5 K X B;go_enter func53,ntmps53;go_wp2_with(refine OI _ rfl _ _ 58 rfl 62 i0 underlying58 hi a8 Z _ _ (a.length+8) (by first|rfl|(simp;rfl)) (by first|rfl|(simp;rfl)) (by rw[a3];omega) (by omega) ?_);rw[<-a4.out];have b2:=OJ (P:=prog) n 58 58 3 62 w.heap.size (a.length+8) (a.length+8) f a.length h (aX ⟨#[]⟩ (a.length+8)) 62 (cQ a) underlying58 xt Y (by omega) b6 b8 b0 c5;rw[<-a7.out] at b2;rw[b2];clear a4 a7 Y b8 b0 c5 b6 hi a8 Z a3;go_wp2_with fail;go_loopw [5] (fun i wr=>∃q:Nat,q<=8/\i=Iv ((a.length+q:Nat):Int)/\wr.heap[w.heap.size]?=some (.cells (fi a q).toArray 62 (0,0))/\Bl w wr) (fun i _=>a.length+8-(intOf i).toNat)
 case atStart=>exact⟨0,aR _,rfl,a6,a9⟩
 case round=>
  obtain⟨q,T,rfl,b,d⟩:=hrel;have l:=hI d;have R:=hI b;by_cases b7:q<8
  .have L:=AU a q T
   obtain⟨m,g⟩:∃c,(fi a q)[(a.length+q)*2]?=some c:=⟨_,bY (by omega)⟩;have y0:wr.cell? ⟨w.heap.size,(a.length+q)*2,none⟩=some m:=(by rw[aa b,kW];exact g);have f0:=aj b ((a.length+q)*2);have v:Hid ((wr.setCell (Ad w.heap.size ((a.length+q)*2)) (.string notYours)).heap[w.heap.size]?=some (.cells (fi a (q+1)).toArray 62 (0,0))):=by show _=_;rw[aD wr w.heap.size _ _ _ _ b,Ot a q b7]
   have E:Hid (Bl w (wr.setCell (Ad w.heap.size ((a.length+q)*2)) (.string notYours))):=d.trans ⟨rfl,rfl,rfl,by simp[World.setCell],fun k hk=>fj wr _ k _ (by show k≠w.heap.size;omega)⟩;clear d b g L;go_wp2;go_roundw
   case rel=>exact⟨q+1,by omega,by go_num,v,E⟩
   case measure=>(simp[intOf];try omega)
  .obtain rfl:q=8:=by omega
   have a2:=(aT.1 b).1;have I:=hI a2;clear d b a2 a6 a9;go_wp2_with fail;refine mR (a1 _ l R) fun w3 F=>?_;have C:=hI (l.out.trans (F.mono l.out.size));have a0:Hid _:=(F.block w.heap.size I).trans R;have N:=hI (cq I F.size);clear F l R I a1;go_wp2_with fail;refine mR (c2 _ C) fun w4 G=>?_;have D:=hI (C.out.trans (G.mono C.out.size));have S:Hid _:=(G.block w.heap.size N).trans a0;have c3:=hI (cq N G.size);clear G C a0 N c2;go_wp2_with fail;refine mR (b1 _ D S) fun w5 H=>?_;have c7:=hI (D.out.trans (H.mono D.out.size));have c8:=hI ((H.block w.heap.size c3).trans S);clear H D S c3 b1;have e1:(notYours.toList==[110,111,116,32,121,111,117,114,115])=true:=(by decide+kernel);go_wp2_with fail;go_loopw [10,11] (fun ok i wr=>∃(q:Nat) (A:List Value),q<=a.length+8/\i=Iv q/\ok=.bool true/\A.length=q*2/\wr.heap[w.heap.size]?=some (.cells (A++(fi a 8).drop (q*2)).toArray 62 (0,0))/\Bl w wr) (fun _ i _=>a.length+8-(intOf i).toNat)
   case atStart=>exact⟨0,[],aR _,rfl,rfl,rfl,c8,c7⟩
   case round=>
    obtain⟨q,A,T,rfl,rfl,j,b,d⟩:=hrel;have l:=hI d;by_cases b7:q<a.length+8
    .have L:=AU a 8 .refl
     obtain⟨m,g⟩:∃c,(fi a 8)[q*2]?=some c:=⟨_,bY (by omega)⟩;obtain⟨o,x⟩:∃c,(fi a 8)[q*2+1]?=some c:=⟨_,bY (by omega)⟩;have c4:(fi a 8).drop (q*2)=m::o::(fi a 8).drop ((q+1)*2):=by rw[ch (by omega),ch (by omega),(dN.1 g).2,(dN.1 x).2];rw[show(q+1)*2=q*2+1+1 by omega]
     rw[c4] at b;have y0:wr.cell? ⟨w.heap.size,q*2,none⟩=some m:=(by rw[aa b,kW,mX (by omega),j,lI];rfl);have y1:wr.cell? ⟨w.heap.size,q*2+1,none⟩=some o:=(by rw[aa b,kW,mX (by omega),j,show q*2+1- q*2=1 by omega];rfl);have f0:=aj b (q*2);have v:Hid ((wr.setCell (Ad w.heap.size (q*2)) (.string qx)).heap[w.heap.size]?=some (.cells ((A++ [.string qx,o])++(fi a 8).drop ((q+1)*2)).toArray 62 (0,0))):=by show _=_;rw[aD wr w.heap.size _ _ _ _ b,qZ,kh _ _ (by omega),j,lI];simp
     have E:Hid (Bl w (wr.setCell (Ad w.heap.size (q*2)) (.string qx))):=d.trans ⟨rfl,rfl,rfl,by simp[World.setCell],fun k hk=>fj wr _ k _ (by show k≠w.heap.size;omega)⟩;have c6:Hid ((A++ [.string qx,o]).length=(q+1)*2):=hI (by rw[cC,j];show _+2=_;omega);clear d b c4 L j;by_cases d0:q<a.length
     .have c9:(q:Int)<(a.length:Int):=by omega
      clear g x;go_wp2;go_roundw
      case rel=>exact⟨q+1,_,by omega,by go_num,rfl,c6,v,E⟩
      case measure=>(simp[intOf];try omega)
     .have c9:¬(q:Int)<(a.length:Int):=by omega
      have y:=Ou a (q- a.length) (by omega);rw[show a.length+(q- a.length)=q by omega,g,x] at y;have h0:m=.string notYours:=(by simpa using y.1);have h1:o=Sv []:=(by simpa using y.2);subst h0 h1;clear g x y;go_wp2;go_roundw
      case rel=>exact⟨q+1,_,by omega,by go_num,rfl,c6,v,E⟩
      case measure=>(simp[intOf];try omega)
    .clear d b j
     go_wp2;go_ret;exact⟨rfl,l⟩
theorem Oy (a b c:Int) (w:World) (g:0<=a/\a<256) (f:0<=b/\b<256) (h:0<=c/\c<256):∃m,(convert 47 9 (.slice (some ⟨w.heap.size,0,none⟩) 3 3)).run prog (w.alloc (.cells #[.int .u8 a,.int .u8 b,.int .u8 c] 5)).drew=.ok (.string m) (w.alloc (.cells #[.int .u8 a,.int .u8 b,.int .u8 c] 5)).drew:=by
 have d:∀x:Int,0<=x/\x<256->(x.toNat.toUInt8.toNat:Int)=x:=by intro x k;have:x.toNat.toUInt8.toNat=x.toNat%256:=rfl;omega
 refine⟨⟨#[a.toNat.toUInt8,b.toNat.toUInt8,c.toNat.toUInt8]⟩,oo _ 47 9 5 (Ad w.hz 0) 3 [a.toNat.toUInt8,b.toNat.toUInt8,c.toNat.toUInt8] underlying47 underlying5 underlying9 (λi j=>?_)⟩;have e:=pI w (.int .u8 a) (.int .u8 b) (.int .u8 c) 5;match i,j with
 |0,_=>exact(e 0).trans (aB (λx=>some (Value.int .u8 x)) (d a g).symm)
 |1,_=>exact(e 1).trans (aB (λx=>some (Value.int .u8 x)) (d b f).symm)
 |2,_=>exact(e 2).trans (aB (λx=>some (Value.int .u8 x)) (d c h).symm)
theorem AY (x:Int):0<=IntKind.u8.wrap x/\IntKind.u8.wrap x<256:=by have:IntKind.u8.wrap x=x%256:=rfl;omega
theorem Oz:(prog.info? 93).map (λi=>(i.zero,i.size,i.bytes))=some (some (.agg #[.slice none 0 0,.slice none 0 0,.slice none 0 0,.slice none 0 0,.string ⟨#[]⟩]),5,112):=by kernel_rfl
theorem OA (m:ByteArray) (q:Nat) (a:List Value) (h:q*2+1<a.length):(((aX m q++a.drop (q*2)).toArray.setIfInBounds (q*2) (.string m)).setIfInBounds (q*2+1) (.string ⟨#[]⟩))=(aX m (q+1)++a.drop ((q+1)*2)).toArray:=by have b:=fM m q;rw[qZ,qZ];congr 1;rw[ch (show q*2<a.length by omega),ch (show q*2+1<a.length by omega),show q+1=q+1 from rfl,lA m 1 q,show(q+1)*2=q*2+1+1 by omega];rw[kh _ _ (by omega),b,lI,List.set_cons_zero,kh _ _ (by omega),b,show q*2+1- q*2=1 by omega];show _++(_::_::_)=_;simp[aX]
theorem OB (w:World) (g i:Nat) (c:Array Value) (t:TypeId) (a b:Value) (h:w.heap[g]?=some (.cells c t (0,0))):((w.setCell ⟨g,i,none⟩ a).setCell ⟨g,i+1,none⟩ b).heap[g]?=some (.cells ((c.setIfInBounds i a).setIfInBounds (i+1) b) t (0,0)):=aD _ g _ _ t _ (aD w g i c t a h)
theorem OC (k:Nat) (es:List Ent) (ps:List (Bs×Bs)) (v:Value) (w0 w:World) (h:BookIs k w0 es) (hn:es.length<=4194303) (h01:Bl w0 w) (hv:w.ownsRow w0.heap.size 62 2 v ps.length (cQ ps)) (hp:ps.length<=2001):Calls prog 52 #[.pointer (some ⟨k,0,none⟩),v] w λe w'=>e=.returned (.tuple #[])/\(∃en,BookIs k w' (es++ [en]))/\Below k w w':=by
 have hz01:=h01.size;obtain⟨bv,h1,h2,h3⟩:=h;obtain⟨bsp,bcap,rfl⟩:=pA h2;have hk0:k<w0.heap.size:=(aT.1 h1).1;have HOB:Hid (∀q,(Value.slice bsp es.length bcap).ownBlock=some q->k<q/\q<w0.heap.size):=λq hq=>by have:=h2.lt q hq;omega
 have HVB:Hid (∀q,v.ownBlock=some q->w0.heap.size<=q):=λq hq=>(hv.lt q hq).1;have y0:w.cell? ⟨k,0,none⟩=some (.slice bsp es.length bcap):=aa ((h01.block k hk0).trans h1) 0;have H01:=hI h01;obtain⟨m,hcv⟩:=Oy 35 (IntKind.u8.wrap es.length) (IntKind.u8.wrap (IntKind.i64.wrap ((es.length:Int)/256))) w (by omega) (AY _) (AY _);have HH1:=hI h1;have HH2:=hI h2;have HH3:=hI h3;have HV:=hI hv;clear h01 h1 h2 h3 hv;go_enter Tryz.func52,Tryz.ntmps52;go_upto_region 0 with fail;go_cut [4] (λx wx=>x=.string m/\Below w.heap.size w wx)
 case first=>
  as_aux_lemma=>
   go_region_law (fail);all_goals(go_wp2_with fail;go_meet)
   all_goals exact⟨rfl,((ai _ _).alloc (aG _) _).drew⟩
 case rest=>
 obtain⟨rfl,bc⟩:=hcut;obtain⟨wa,rfl⟩:∃wa,wa=wc:=⟨_,rfl⟩;clear hcv;obtain⟨sp,cap,rfl⟩:=pA HV.out;have hVC:wa.ownsRow w0.heap.size 62 2 (.slice sp ps.length cap) ps.length (cQ ps):=mj HV.out bc;obtain⟨W1,hW1⟩:=am (wa.alloc (.cells #[.string m,.string ⟨#[]⟩] 62));have hb1:Below wa.heap.size wa W1:=by rw[hW1];exact(ai _ _).alloc (aG _) _
 have hp1:W1.heap[wa.heap.size]?=some (.cells #[.string m,.string ⟨#[]⟩] 62 (0,0)):=by rw[hW1];exact dO wa _
 have hs1:W1.heap.size=wa.heap.size+1:=by rw[hW1];simp
 have HW1:=hI hW1;have HBC:=hI bc;clear hW1 bc HV;go_upto_region 2 with fail;rw[<-HW1.out];go_upto_block 0 with fail;go_cut [] (λwx=>wx.ownsRow w0.heap.size 62 2 (.slice sp ps.length cap) ps.length (aX m ps.length)/\W1.grownBy wx (Value.slice sp ps.length cap).ownBlock)
 case first=>
  as_aux_lemma=>
   rcases hVC.2 with⟨hv0,hn0⟩|⟨g,cap2,cur,hvg,hbg,hg,hnc,hcm,hcs,htk⟩
   .injection hv0 with e1 e2 e3
    subst e1 e3;have hz:¬(0:Int)<(ps.length:Int):=(by omega);have HN0:=hI hn0;clear HH1 HH2 HH3 hVC e2 HBC hb1 hp1 hs1 HW1 hn0;go_wp2_with fail;go_loopw [6] (λi wr=>i=.int .i64 0/\wr=W1) (λ_ _=>0)
    case atStart=>exact⟨rfl,rfl⟩
    case round=>obtain⟨rfl,hwr⟩:=hrel;obtain rfl:=hwr.symm;go_wp2;go_meet;exact⟨⟨fM m _,Or.inl ⟨by rw[HN0.out],HN0.out⟩⟩,⟨rfl,rfl,rfl,aG _,λ_ _ _=>rfl⟩⟩
   .injection hvg with e1 e2 e3
    subst e1 e3;have hgz:g<wa.heap.size:=(aT.1 hg).1;have hgp:wa.heap.size≠g:=(by omega);obtain⟨cl,hcl⟩:=am cur.toList;have hcl2:cl.length=cap*2:=(by rw[hcl,bT,hcs]);have hg1:W1.heap[g]?=some (.cells cl.toArray 62 (0,0)):=(by rw[hb1.block g hgz,hg,hcl]);have HG1:=hI hg1;have HP1:=hI hp1;have HPZ:Hid (wa.heap.size<W1.heap.size):=(by show _<_;omega);have HGZ:Hid (g<W1.heap.size):=(by show _<_;omega);have HBG:=hI hbg;have HML:=hI (fM m ps.length);unfold maxLen at hcm;clear HH1 HH2 HH3 hVC e2 HBC hb1 hp1 hs1 HW1 hg hcs htk hg1 hcl hgz hbg;go_wp2_with fail;go_loopw [6] (λi wr=>∃q:Nat,q<=ps.length/\i=.int .i64 q/\wr.heap[g]?=some (.cells (aX m q++cl.drop (q*2)).toArray 62 (0,0))/\W1.grownBy wr (some g)) (λi _=>ps.length-(intOf i).toNat)
    case atStart=>exact⟨0,aR _,rfl,HG1.out,⟨rfl,rfl,rfl,aG _,λ_ _ _=>rfl⟩⟩
    case round=>
     obtain⟨q,hq,rfl,hgr,hgb⟩:=hrel;by_cases hlt:q<ps.length
     .have hpr:wr.heap[wa.heap.size]?=some (.cells #[.string m,.string ⟨#[]⟩] 62 (0,0)):=(hgb.block wa.heap.size HPZ.out (λh=>hgp (by simpa using h))).trans HP1.out
      have x0:wr.cell? ⟨wa.heap.size,0,none⟩=some (.string m):=aa hpr 0;have x1:wr.cell? ⟨wa.heap.size,1,none⟩=some (.string ⟨#[]⟩):=aa hpr 1;have hml:=fM m q;have hll:(aX m q++cl.drop (q*2)).length=cap*2:=(by rw[cC,hml,cm,hcl2];omega);obtain⟨c0,hc0⟩:∃c,(aX m q++cl.drop (q*2))[q*2]?=some c:=⟨_,bY (by omega)⟩;obtain⟨c1,hc1⟩:∃c,(aX m q++cl.drop (q*2))[q*2+1]?=some c:=⟨_,bY (by omega)⟩;have y0:wr.cell? ⟨g,q*2,none⟩=some c0:=(by rw[aa hgr,kW];exact hc0);have y1:wr.cell? ⟨g,q*2+1,none⟩=some c1:=(by rw[aa hgr,kW];exact hc1);have f0:=aj hgr (q*2);have f1:=aj hgr (q*2+1);have HN:Hid (((wr.setCell ⟨g,q*2,none⟩ (.string m)).setCell ⟨g,q*2+1,none⟩ (.string ⟨#[]⟩)).heap[g]?=some (.cells (aX m (q+1)++cl.drop ((q+1)*2)).toArray 62 (0,0))):=(by show _=_;rw[OB wr g (q*2) _ _ _ _ hgr,OA m q cl (by omega)]);have HGB:=hI hgb;clear hpr hml hll hc0 hc1 hgr hgb;go_wp2;go_roundw
      case rel=>exact⟨q+1,by omega,by go_num,HN.out,tW (tW HGB.out g _ _ (Or.inl rfl)) g _ _ (Or.inl rfl)⟩
      case measure=>(simp[intOf];try omega)
     .obtain rfl:q=ps.length:=by omega
      have HGR:=hI hgr;have HGB:=hI hgb;clear hgr hgb;go_wp2;go_meet;refine⟨⟨HML.out,Or.inr ⟨g,cap,_,rfl,HBG.out,HGR.out,by omega,by unfold maxLen;omega,?_,?_⟩⟩,HGB.out⟩
      .simp only[List.size_toArray,cC,cm,fM,hcl2]
       omega
      .show List.take _ (aX m ps.length++_)=_
       rw[<-fM m ps.length];exact ke
 case rest=>
 obtain⟨hown,hgr⟩:=hcut;obtain⟨wb,rfl⟩:∃wb,wb=wc:=⟨_,rfl⟩;obtain⟨i0,hi,hz0,hz1,hz2⟩:=fA pB;have hlv:∀g,(Value.slice sp ps.length cap).ownBlock=some g->g<wa.heap.size:=λg hg=>(hVC.lt g hg).2;have hpb:wb.heap[wa.heap.size]?=some (.cells #[.string m,.string ⟨#[]⟩] 62 (0,0)):=(hgr.block wa.heap.size (by omega) (λe=>by have:=hlv _ e.symm;omega)).trans hp1;have hwab:wa.grownBy wb (Value.slice sp ps.length cap).ownBlock:=⟨hgr.os.trans hb1.os,hgr.tape.trans hb1.tape,hgr.output.trans hb1.output,by have:=hgr.size;omega,λq hq hne=>(hgr.block q (by omega) hne).trans (hb1.block q hq)⟩;have hwb:wa.heap.size<wb.heap.size:=(aT.1 hpb).1;obtain⟨W3,hW3⟩:=am (wb.alloc (.cells #[.slice sp ps.length cap,.slice none 0 0,.slice none 0 0,.slice none 0 0,.string m] 93));have hS3:StB wa w0.heap.size wa.heap.size wb.heap.size ps.length m (.slice sp ps.length cap) (.slice none 0 0) (.slice none 0 0) (.slice none 0 0) W3:=by
  have hbb:Below wb.heap.size wb W3:=by rw[hW3];exact(ai _ _).alloc (aG _) _
  refine⟨mj hown hbb,(hbb.block _ hwb).trans hpb,by rw[hW3];exact dO wb _,⟨hbb.os.trans hwab.os,hbb.tape.trans hwab.tape,hbb.output.trans hwab.output,by have:=hbb.size;omega,λq hq hne=>(hbb.block q (by omega)).trans (hwab.block q hq hne)⟩,Or.inl rfl,Or.inl rfl,Or.inl rfl,aG _,by omega,by omega,by have:=HBC.out.size;omega,hlv⟩
 have HW3:=hI hW3;have HS3:=hI hS3;have x0:wb.cell? ⟨wa.heap.size,0,none⟩=some (.string m):=aa hpb 0;clear hVC hb1 hp1 hs1 hown hgr hlv hpb hwab hwb hW3 hS3 HW1;go_upto_region 7 with fail;rw[<-HW3.out];have q0:W3.cell? ⟨wa.heap.size,0,none⟩=some (.string m):=aa HS3.out.pb 0;have q1:W3.cell? ⟨wa.heap.size,1,none⟩=some (.string ⟨#[]⟩):=aa HS3.out.pb 1;have HO:Hid _:=HS3.out.own.alloc (.cells #[.string m,.string ⟨#[]⟩] 62);go_wp2_with(at_builtin;refine tV rfl _ _ 58 rfl m w0.heap.size 62 i0 (.agg #[.string ⟨#[]⟩,.string ⟨#[]⟩]) 32 Tryz.underlying58 hi hz0 hz1 hz2 _ ps.length rfl HO.out ⟨W3.heap.size,0,none⟩ 1 1 rfl (tX W3 m 62 1) (by decide) ?c3 ?c4 ?c5 ?_)
 case c3=>unfold maxLen;omega
 case c4=>omega
 case c5=>have:=HS3.out.lb;have:=HS3.out.gr.size;simp;omega
 intro g1 cap1 V1 hM;obtain⟨hS,hF⟩:=HS3.out.grow hM (by omega) cap1;have z1:V1.cell? ⟨wb.heap.size,1,none⟩=some (.slice none 0 0):=aa hS.xb 1;have z2:=aj hS.xb 1;obtain⟨W6,hW6⟩:=am (V1.setCell ⟨wb.heap.size,1,none⟩ (.slice (some ⟨g1,0,none⟩) (ps.length+1) cap1));have HS6:Hid (StB wa w0.heap.size wa.heap.size wb.heap.size ps.length m (.slice sp ps.length cap) (.slice (some ⟨g1,0,none⟩) (ps.length+1) cap1) (.slice none 0 0) (.slice none 0 0) W6):=by rw[hW6];exact hS.put ⟨_,_,rfl⟩ 1 _ _ _ _ hF rfl (Or.inr rfl) (Or.inl rfl) (Or.inl rfl)
 have HX:Hid _:=hW6;clear q0 q1 HO hM hS hF hW6 HS3;go_upto_region 8 with fail;rw[<-HX.out];clear z1 z2 HX;have q0:W6.cell? ⟨wa.heap.size,0,none⟩=some (.string m):=aa HS6.out.pb 0;have q1:W6.cell? ⟨wa.heap.size,1,none⟩=some (.string ⟨#[]⟩):=aa HS6.out.pb 1;have HO:Hid _:=HS6.out.own.alloc (.cells #[.string m,.string ⟨#[]⟩,.string m,.string ⟨#[]⟩] 62);go_wp2_with(at_builtin;refine tV rfl _ _ 58 rfl m w0.heap.size 62 i0 (.agg #[.string ⟨#[]⟩,.string ⟨#[]⟩]) 32 Tryz.underlying58 hi hz0 hz1 hz2 _ ps.length rfl HO.out ⟨W6.heap.size,0,none⟩ 2 2 rfl (tX W6 m 62 2) (by decide) ?c3 ?c4 ?c5 ?_)
 case c3=>unfold maxLen;omega
 case c4=>omega
 case c5=>have:=HS6.out.lb;have:=HS6.out.gr.size;simp;omega
 intro g2 cap2 V2 hM;obtain⟨hS,hF⟩:=HS6.out.grow hM (by omega) cap2;have z1:V2.cell? ⟨wb.heap.size,2,none⟩=some (.slice none 0 0):=aa hS.xb 2;have z2:=aj hS.xb 2;obtain⟨W9,hW9⟩:=am (V2.setCell ⟨wb.heap.size,2,none⟩ (.slice (some ⟨g2,0,none⟩) (ps.length+2) cap2));have HS9:Hid (StB wa w0.heap.size wa.heap.size wb.heap.size ps.length m (.slice sp ps.length cap) (.slice (some ⟨g1,0,none⟩) (ps.length+1) cap1) (.slice (some ⟨g2,0,none⟩) (ps.length+2) cap2) (.slice none 0 0) W9):=by rw[hW9];exact hS.put ⟨_,_,rfl⟩ 2 _ _ _ _ hF rfl (Or.inl rfl) (Or.inr rfl) (Or.inl rfl)
 have HX:Hid _:=hW9;clear q0 q1 HO hM hS hF hW9 HS6;go_upto_region 9 with fail;rw[<-HX.out];clear z1 z2 HX;have q0:W9.cell? ⟨wa.heap.size,0,none⟩=some (.string m):=aa HS9.out.pb 0;have q1:W9.cell? ⟨wa.heap.size,1,none⟩=some (.string ⟨#[]⟩):=aa HS9.out.pb 1;have HO:Hid _:=HS9.out.own.alloc (.cells #[.string m,.string ⟨#[]⟩,.string m,.string ⟨#[]⟩,.string m,.string ⟨#[]⟩] 62);go_wp2_with(at_builtin;refine tV rfl _ _ 58 rfl m w0.heap.size 62 i0 (.agg #[.string ⟨#[]⟩,.string ⟨#[]⟩]) 32 Tryz.underlying58 hi hz0 hz1 hz2 _ ps.length rfl HO.out ⟨W9.heap.size,0,none⟩ 3 3 rfl (tX W9 m 62 3) (by decide) ?c3 ?c4 ?c5 ?_)
 case c3=>unfold maxLen;omega
 case c4=>omega
 case c5=>have:=HS9.out.lb;have:=HS9.out.gr.size;simp;omega
 intro g3 cap3 V3 hM;obtain⟨hS,hF⟩:=HS9.out.grow hM (by omega) cap3;have z1:V3.cell? ⟨wb.heap.size,3,none⟩=some (.slice none 0 0):=aa hS.xb 3;have z2:=aj hS.xb 3;obtain⟨WC,hWC⟩:=am (V3.setCell ⟨wb.heap.size,3,none⟩ (.slice (some ⟨g3,0,none⟩) (ps.length+3) cap3));have HSC:Hid (StB wa w0.heap.size wa.heap.size wb.heap.size ps.length m (.slice sp ps.length cap) (.slice (some ⟨g1,0,none⟩) (ps.length+1) cap1) (.slice (some ⟨g2,0,none⟩) (ps.length+2) cap2) (.slice (some ⟨g3,0,none⟩) (ps.length+3) cap3) WC):=by rw[hWC];exact hS.put ⟨_,_,rfl⟩ 3 _ _ _ _ hF rfl (Or.inl rfl) (Or.inl rfl) (Or.inr rfl)
 have HX:Hid _:=hWC;clear q0 q1 HO hM hS hF hWC HS9;go_upto_region 10 with fail;rw[<-HX.out];clear z1 z2 HX;obtain⟨j0,hj,hj0,hj1,hj2⟩:=fA Oz;have hkeep:∀q,q<w0.heap.size->WC.heap[q]?=w0.heap[q]?:=λq hq=>(HSC.out.gr.block q (by have:=HBC.out.size;omega) (λe=>by have:=HVB.out q e.symm;omega)).trans ((HBC.out.block q (by omega)).trans (H01.out.block q hq));have hgr0:w0.grownBy WC none:=⟨HSC.out.gr.os.trans (HBC.out.os.trans H01.out.os),HSC.out.gr.tape.trans (HBC.out.tape.trans H01.out.tape),HSC.out.gr.output.trans (HBC.out.output.trans H01.out.output),by have:=HSC.out.gr.size;have:=HBC.out.size;omega,λq hq _=>hkeep q hq⟩;have hbk:WC.heap[k]?=some (.cells #[.slice bsp es.length bcap] 56 (0,0)):=(hkeep k hk0).trans HH1.out;have hbo:WC.ownsRow (k+1) 93 5 (.slice bsp es.length bcap) es.length (jd es):=HH2.out.kept hgr0 (by cases(Value.slice bsp es.length bcap).ownBlock<;>simp);have HOW:Hid _:=hbo.alloc (.cells #[.slice sp ps.length cap,.slice (some ⟨g1,0,none⟩) (ps.length+1) cap1,.slice (some ⟨g2,0,none⟩) (ps.length+2) cap2,.slice (some ⟨g3,0,none⟩) (ps.length+3) cap3,.string m] 93);have HNW:Hid _:=World.news_of_block (w:=WC.alloc (.cells #[.slice sp ps.length cap,.slice (some ⟨g1,0,none⟩) (ps.length+1) cap1,.slice (some ⟨g2,0,none⟩) (ps.length+2) cap2,.slice (some ⟨g3,0,none⟩) (ps.length+3) cap3,.string m] 93)) (B:=WC.heap.size) (dO WC _);have H63:Hid (es.length+1<=maxLen):=by unfold maxLen;show _<=_;omega
 have HBY:Hid ((es.length+1)*112<=140737488355328):=by show _<=_;omega
 have HBS:Hid (k+1<=(WC.alloc (.cells #[.slice sp ps.length cap,.slice (some ⟨g1,0,none⟩) (ps.length+1) cap1,.slice (some ⟨g2,0,none⟩) (ps.length+2) cap2,.slice (some ⟨g3,0,none⟩) (ps.length+3) cap3,.string m] 93)).heap.size):=by show _<=_;have:=hgr0.size;simp;omega
 have HEND:Hid (∀o g cp w',w'.ownsRow (k+1) 93 5 (.slice (some ⟨g,0,none⟩) (es.length+1) cp) (es.length+1) (jd es++ [.slice sp ps.length cap,.slice (some ⟨g1,0,none⟩) (ps.length+1) cap1,.slice (some ⟨g2,0,none⟩) (ps.length+2) cap2,.slice (some ⟨g3,0,none⟩) (ps.length+3) cap3,.string m])->(WC.alloc o).grownBy w' (Value.slice bsp es.length bcap).ownBlock->((Value.slice bsp es.length bcap).ownBlock=some g\/g=WC.heap.size+1)->w'.cell? ⟨k,0,none⟩=some (.slice bsp es.length bcap)/\w'.frozen? ⟨k,0,none⟩=false/\(∃en,BookIs k (w'.setCell ⟨k,0,none⟩ (.slice (some ⟨g,0,none⟩) (es.length+1) cp)) (es++ [en]))/\Below k w (w'.setCell ⟨k,0,none⟩ (.slice (some ⟨g,0,none⟩) (es.length+1) cp))):=by
  intro o g cp w' h1 h2 h3;obtain⟨e1,e2,e3⟩:=HSC.out.close (by omega) hk0 hbk HOB.out HH3.out rfl hkeep h1 h2 h3;refine⟨aa e1 0,aj e1 0,⟨_,e2⟩,?_⟩;have hq:∀q,q<k->some q≠(Value.slice bsp es.length bcap).ownBlock:=λq hq e=>by have:=HOB.out q e.symm;omega
  refine⟨h2.os.trans (hgr0.os.trans H01.out.os.symm),h2.tape.trans (hgr0.tape.trans H01.out.tape.symm),h2.output.trans (hgr0.output.trans H01.out.output.symm),?_,λq hlt=>(e3 q (by omega) (by omega) (hq q hlt)).trans (H01.out.block q (by omega)).symm⟩;have z1:=h2.size;have z2:=HSC.out.gr.size;have z3:=HBC.out.size;simp at z1;simp[World.setCell];omega
 have k0:WC.cell? ⟨k,0,none⟩=some (.slice bsp es.length bcap):=aa hbk 0;have k1:(WC.alloc (.cells #[.slice sp ps.length cap,.slice (some ⟨g1,0,none⟩) (ps.length+1) cap1,.slice (some ⟨g2,0,none⟩) (ps.length+2) cap2,.slice (some ⟨g3,0,none⟩) (ps.length+3) cap3,.string m] 93)).cell? ⟨k,0,none⟩=some (.slice bsp es.length bcap):=by rw[fk _ _ ⟨k,0,none⟩ (aT.1 hbk).1];exact k0
 have x0:WC.cell? ⟨wb.heap.size,0,none⟩=some (.slice sp ps.length cap):=aa HSC.out.xb 0;have x1:WC.cell? ⟨wb.heap.size,1,none⟩=some (.slice (some ⟨g1,0,none⟩) (ps.length+1) cap1):=aa HSC.out.xb 1;have x2:WC.cell? ⟨wb.heap.size,2,none⟩=some (.slice (some ⟨g2,0,none⟩) (ps.length+2) cap2):=aa HSC.out.xb 2;have x3:WC.cell? ⟨wb.heap.size,3,none⟩=some (.slice (some ⟨g3,0,none⟩) (ps.length+3) cap3):=aa HSC.out.xb 3;have x4:WC.cell? ⟨wb.heap.size,4,none⟩=some (.string m):=aa HSC.out.xb 4;clear hkeep hgr0 hbk hbo HH1 HH2 HH3 HOB HVB H01 HBC HSC HW3 y0 hk0 hz01;go_region_law ((refine step_append_lies _ rfl (.tmp 60) (.tmp 62) 54 rfl (k+1) 93 j0 (.agg #[.slice none 0 0,.slice none 0 0,.slice none 0 0,.slice none 0 0,.string ⟨#[]⟩]) 5 112 Tryz.underlying54 hj hj0 hj1 hj2 rfl (by decide) _ es.length (jd es) (by simp[Act.eval]) HOW.out ⟨WC.heap.size,0,none⟩ 1 1 [.slice sp ps.length cap,.slice (some ⟨g1,0,none⟩) (ps.length+1) cap1,.slice (some ⟨g2,0,none⟩) (ps.length+2) cap2,.slice (some ⟨g3,0,none⟩) (ps.length+3) cap3,.string m] (by simp[Act.eval]) rfl HNW.out (by intro u hu;simp at hu;rcases hu with rfl|rfl|rfl|rfl|rfl<;>rfl) (by decide) H63.out HBY.out HBS.out (WC.heap.size+1) (by simp) ?_;intro g cp w' hown5 hgrow5 hat5 hlt5;obtain⟨z0,z1,HF⟩:=HEND.out _ g cp w' hown5 ⟨hgrow5.os,hgrow5.tape,hgrow5.output,hgrow5.size,hgrow5.block⟩ hat5;clear hown5 hgrow5 hat5 hlt5));all_goals go_wp2_with fail
 all_goals exact bS (v:=.tuple #[]) (bf rfl _ _ _) rfl ⟨rfl,HF⟩
theorem ud {w:World} {v:Value} {c:List (Bs×Bs)} (h:PairRow w v c):∃a b,v=.slice a c.length b/\PairAt w a c:=by obtain⟨a,b,d,_,_,k⟩:=h;refine⟨a,b,d,λj p f=>?_⟩;obtain⟨g,e,i,m,l⟩:=k j p f;exact⟨g,0,e,i,by grind,by grind⟩
theorem Px (k:Nat) (l:List Ent) (d n:Int) (E:Bool) (S T:ByteArray) (o:Option Go.Addr) (u:Nat) (h:List (Bs×Bs)) (w:World) (m:d<=9) (L: -9223372036854775808<=n/\n<=9223372036854775807) (hS:S.size<=2097152) (hT:T.size<=2097152) (x:BookIs k w l) (a4:l.length<=4194303) (hp:PairAt w o h) (Y:h.length<=2097152) (Z:∀p∈h,p.1.length<=2097152/\p.2.length<=2097152) (U:Env3 w) (J:EnvP w):Calls prog 29 #[.pointer (some ⟨k,0,none⟩),.agg #[.int .i64 d,.int .i64 n,.bool E,.string S,.string T,.slice o h.length u]] w fun e w'=>e=.returned (.bool true)/\(∃g,BookIs k w' g/\g.length<=l.length+1)/\Below k w w':=by
 have I:k<=w.heap.size:=by obtain⟨_,R,_⟩:=x;exact jF (aT.1 R).1
 by_cases a0:d<=6
 .refine mR (Nf _ d n E S T _ w a0 hS hT U.env2) fun w' b=>?_
  exact⟨rfl,⟨l,x.below b,by omega⟩,b.mono I⟩
 obtain⟨W,H⟩:=am (w.alloc (.cells #[Iv d,Iv n,.bool E,.string S,.string T,.slice o h.length u] 60));have f:Bl w W:=by rw[H];exact(ai _ _).alloc .refl _
 have Q:Hid (∀a,Bl W a->Below k w a):=fun a c=>(f.trans (c.mono f.size)).mono I;have a9:Hid (∀a,Bl W a->∃g,BookIs k a g/\g.length<=l.length+1):=fun a c=>⟨l,(x.below f).below c,by omega⟩;have hz:W.heap[w.heap.size]?=some (.cells #[Iv d,Iv n,.bool E,.string S,.string T,.slice o h.length u] 60 (0,0)):=by rw[H];exact dO w _
 have a3:=(aT.1 hz).1;have P:Hid (∀a,Below W.heap.size W a->a.cell? ⟨w.heap.size,0,none⟩=some (.int .i64 d)/\a.cell? ⟨w.heap.size,1,none⟩=some (.int .i64 n)/\a.cell? ⟨w.heap.size,3,none⟩=some (.string S)/\a.cell? ⟨w.heap.size,4,none⟩=some (.string T)/\a.cell? ⟨w.heap.size,5,none⟩=some (.slice o h.length u)):=by intro a c;have q:=(c.block w.heap.size a3).trans hz;unfold World.cell?;simp[q]
 have X:=hI H;have F:S.data.toList.length<=maxLen:=by
  unfold maxLen;have:S.data.toList.length=S.size:=by rw[bT];rfl
  omega
 have a6:T.data.toList.length<=maxLen:=by
  unfold maxLen;have:T.data.toList.length=T.size:=by rw[bT];rfl
  omega
 have B:=hI (Ex S.data.toList T.data.toList n W F a6 L.1 L.2 (U.below f));have D:=hI fun a=>Pw S.data.toList T.data.toList n a F;obtain⟨px,pm,a2⟩:=Al (gv hostTell S.data.toList n T.data.toList);rw[a2] at B D;have c9:(px.toList==px.toList)=true:=by simp
 have A:Hid (Calls Tryz.prog 49 #[.string S] W fun e w'=>lz W.heap.size S.data.toList e w'/\Below W.heap.size W w'):=Ol S.data.toList W F (J.below f);have z:Hid (∀a,Calls Tryz.prog 50 #[.string S] a fun e w'=>lz a.heap.size S.data.toList e w'/\Below a.heap.size a w'):=fun a=>Ok S.data.toList a;have C:Hid (∀v a,Below W.heap.size W a->a.ownsRow W.heap.size 62 2 v (gW S.data.toList).length (cQ (gW S.data.toList))->Calls Tryz.prog 52 #[.pointer (some ⟨k,0,none⟩),v] a fun e w'=>e=.returned (.tuple #[])/\(∃g,BookIs k w' g/\g.length<=l.length+1)/\Below k w w'):=by intro v a c ho;refine(OC k l (gW S.data.toList) v W a (x.below f) a4 c ho (AT _)).mono ?_;rintro e w' ⟨rfl,⟨en,hb⟩,j⟩;exact⟨rfl,⟨_,hb,by simp⟩,(Q.out a c).trans j⟩
 have O:=hI (Ov h o u W (hp.below f) Z Y (J.below f));have G:Hid (∀s t r N a,PairAt a s (gW S.data.toList)->PairAt a t (gW S.data.toList)->CB 51 #[.slice s (gW S.data.toList).length r,.slice t (gW S.data.toList).length N] a (.bool true)):=fun s t r N a R h2=>AO _ s t r N a R h2 (by grind[AT]);have b5:Hid (Bl W W):=ai _ _;obtain⟨c0,r,c3,c4,c5⟩:=P W b5.out;clear f hz a3 U J hS hT F a6 a2 L x a4 hp Y Z I H;unfold lz at A z;generalize qw S.data.toList=pn at*;generalize gW S.data.toList=qs at*;have b0:d=7\/d=8\/d=9:=by omega
 clear m a0;obtain m|m|m:=b0
 .subst m
  clear A z C O G;go_enter func29,ntmps29;go_upto_region 1 with fail;rw[<-X.out];go_wp2_with fail;refine mR B fun a c=>?_;have i:=hI c;obtain⟨d0,d1,d3,d4,d5⟩:=P a c;clear c c0 r c3 c4 c5;go_wp2_with fail;refine mR (D a) fun w2 j=>?_;have y:=hI (i.out.trans (j.mono i.out.size));clear j;go_wp2;go_ret;exact⟨rfl,a9 _ y,Q _ y⟩
 .subst m
  clear B D O;go_enter func29,ntmps29;go_upto_region 1 with fail;rw[<-X.out];go_wp2_with fail;refine af A ?_;rintro e a ⟨⟨v1,rfl,M⟩,c⟩;have i:=hI c;have b6:=hI M;obtain⟨s,b9,rfl,_⟩:=ud (rW M);obtain⟨d0,d1,d3,d4,d5⟩:=P a c;clear c c0 r c3 c4 c5 M;go_wp2_with fail;refine af (z a) ?_;rintro e w2 ⟨⟨v2,rfl,a7⟩,j⟩;have y:=hI (i.out.trans (j.mono i.out.size));have a5:=hI (jU b6 j);obtain⟨t,c6,rfl,a8⟩:=ud (rW a7);have c7:Hid _:=G s t b9 c6 w2 (by
   obtain⟨d2,d6,K,b7⟩:=ud (rW a5);injection K with K;rw[K];exact b7) a8
  clear j a7 a8 G A z d0 d1 d3 d4 d5;go_wp2_with fail;refine mR c7 fun w3 V=>?_;have b8:=hI (y.out.trans (V.mono y.out.size));have c8:Hid _:=C _ w3 b8 (jU a5 V);clear V C;go_wp2_with fail;refine mR c8 ?_;rintro w4 ⟨a1,b4⟩;have HF:=hI (And.intro a1 b4);clear a1 b4;go_wp2;go_ret;exact⟨rfl,HF⟩
 .subst m
  clear A z C B D G c9;go_enter func29,ntmps29;go_upto_region 1 with fail;rw[<-X.out];go_wp2_with fail;refine mH O fun a i=>?_;go_wp2;go_ret;exact⟨rfl,a9 _ i,Q _ i⟩
def qC (w:World) (o:OpV):Prop:=(-9223372036854775808<=o.n/\o.n<=9223372036854775807)/\o.S.size<=2097152/\o.T.size<=2097152/\∃sp cap,∃ps:List (Bs×Bs),o.lv=.slice sp ps.length cap/\PairAt w sp ps/\ps.length<=2097152/\∀p∈ps,p.1.length<=2097152/\p.2.length<=2097152
def BookB (w:World) (m:Nat) (w1:World):Prop:=Below w.heap.size w w1/\∃es,BookIs w.heap.size w1 es/\es.length<=m
theorem BookB.more {w b c:World} {m:Nat} (h:BookB w m b) (a:Bl b c):BookB w m c:=by obtain⟨d,f,e,g⟩:=h;exact⟨d.trans (a.mono d.size),f,e.below a,g⟩
theorem Py (h:Option Go.Addr) (l:Nat) (f:List OpV) (w:World) (hr:OpRow w h f) (hl:f.length<=2097152) (y:∀o∈f,qC w o) (b5:Env3 w) (Q:EnvP w):Calls prog 13 #[.slice h f.length l,.int .i64 9] w fun e w'=>e=.returned (.bool true)/\Bl w w':=by
 obtain⟨W,K⟩:=am (w.alloc (.cells #[.slice none 0 0] 56));have a3:Hid (BookB w 0 W):=by refine⟨by rw[K];exact(ai _ _).alloc .refl _,[],⟨.slice none 0 0,by grind[heap_alloc_new],?_,fun e he=>by cases he⟩,.refl⟩;exact⟨rfl,.inl ⟨rfl,rfl⟩⟩
 have F:Hid (∀(m:Nat) (c n:Int) (k:Bool) (S T:ByteArray) (h:Option Go.Addr) (l:Nat) (d:List (Bs×Bs)) a,m<=4194303->c<=9->(-9223372036854775808<=n/\n<=9223372036854775807)->S.size<=2097152->T.size<=2097152->BookB w m a->PairAt a h d->d.length<=2097152->(∀p∈d,p.1.length<=2097152/\p.2.length<=2097152)->CQ 29 #[Pt w.hz,.agg #[Iv c,Iv n,.bool k,.string S,.string T,.slice h d.length l]] a (.bool true) (BookB w (m+1))):=by intro m c n k S T h l d a D u s y I ⟨b,t,hbk,hes⟩ G A B;refine mR (Px w.hz t c n k S T h l d a u s y I hbk (by omega) G A B (b5.below b) (Q.below b)) ?_;rintro w' ⟨⟨X,b6,d1⟩,E⟩;exact⟨rfl,b.trans E,X,b6,by omega⟩
 have r:Hid (∀(m:Nat) (c n:Int) (k:Bool) (S T:ByteArray) a,m<=4194303->c<=9->(-9223372036854775808<=n/\n<=9223372036854775807)->S.size<=2097152->T.size<=2097152->BookB w m a->CQ 29 #[Pt w.hz,.agg #[Iv c,Iv n,.bool k,.string S,.string T,.slice none 0 0]] a (.bool true) (BookB w (m+1))):=fun m c n k S T a D u s y I b=>F m c n k S T none 0 [] a D u s y I b (fun j p hj=>by simp at hj) (by simp) (fun p G=>by cases G);have a6:Hid (∀m a,m<=4194304->BookB w m a->CQ 30 #[Pt w.hz] a (.bool true) (BookB w m)):=by intro m a D b;obtain⟨x,t,v,C⟩:=b;refine mR (Ox w.hz t a v (by omega)) fun w' E=>?_;exact⟨rfl,BookB.more ⟨x,t,v,C⟩ E⟩
 have b4:Hid (∀m a,BookB w m a->OpRow a h f):=fun m a J=>hr.below J.1;have a9:Hid (∀m a,BookB w m a->∀o∈f,qC a o):=by intro m a J o z;obtain⟨x,v,C,h,l,d,h4,h5,h6⟩:=y o z;exact⟨x,v,C,h,l,d,h4,h5.below J.1,h6⟩
 have HZ:=hI K;clear K;go_enter func13,ntmps13;go_upto_region 2 with fail;rw[<-HZ.out];go_wp21;refine mH (r 0 3 0 true ⟨#[48,120,55,70,46,49]⟩ ⟨#[]⟩ W (by omega) (by omega) (by decide) (by decide) (by decide) a3) fun a a5=>?_;go_wp21;refine mH (r 1 1 1 false ⟨#[97,32,98]⟩ ⟨#[]⟩ a (by omega) (by omega) (by decide) (by decide) (by decide) a5) fun w2 a8=>?_;go_wp21;refine mH (r 2 _ _ _ _ _ w2 (by omega) (by decide) (by decide) (by decide) (by decide) a8) fun V b8=>?_;go_wp21;refine mH (r 3 _ _ _ _ _ V (by omega) (by decide) (by decide) (by decide) (by decide) b8) fun w4 c6=>?_;go_wp21;refine mH (r 4 _ _ _ _ _ w4 (by omega) (by decide) (by decide) (by decide) (by decide) c6) fun w5 a2=>?_;go_wp21;refine mH (r 5 _ _ _ _ _ w5 (by omega) (by decide) (by decide) (by decide) (by decide) a2) fun w6 c9=>?_;go_wp21;refine mR (r 6 _ _ _ _ _ w6 (by omega) (by decide) (by decide) (by decide) (by decide) c9) fun H Z=>?_;have b2:=hI (Z.more ((ai _ _).alloc .refl (.cells #[.string ⟨#[97]⟩,.string ⟨#[98,32,99]⟩] 62)));have a7:Hid (PairAt (H.alloc (.cells #[.string ⟨#[97]⟩,.string ⟨#[98,32,99]⟩] 62)) (some (Ad H.hz 0)) [([97],[98,32,99])]):=by have hz:=dO H (.cells #[.string ⟨#[97]⟩,.string ⟨#[98,32,99]⟩] 62);exact tT (R:=[]) hz
 go_wp21;refine mH (F 7 _ _ _ _ _ _ _ [([97],[98,32,99])] _ (by omega) (by decide) (by decide) (by decide) (by decide) b2 a7 (by decide) (by decide)) fun w8 d0=>?_;go_wp21;go_loopw [8,9] (fun o i wr=>∃q:Nat,q<=f.length/\i=Iv (q:Nat)/\o=.bool true/\BookB w (8+q) wr) (fun _ i _=>f.length-(intOf i).toNat)
 case atStart=>exact⟨0,aR _,rfl,rfl,d0⟩
 case round=>
  obtain⟨q,hq,rfl,rfl,b⟩:=hrel;have HB:=hI b;by_cases b3:q<f.length
  .obtain⟨o,z⟩:∃o,f[q]?=some o:=⟨f[q],bY b3⟩
   obtain⟨g,off,b0,hg,Y,c1,c2,c3,c4,c5⟩:=b4 _ wr b q o z;subst b0;obtain⟨s,O,P,c7,c8,d,M,U,A,B⟩:=a9 _ wr b o (ef z);obtain⟨c,n,k,S,T,lv⟩:=o;simp only at Y c1 c2 c3 c4 c5 O P s M;subst M;by_cases u:c<=9
   .have a0:¬(9:Int)<c:=by omega
    have a1:Hid _:=F (8+q) c n k S T c7 c8 d wr (by omega) u s O P b U A B;generalize d.length=pl at*;go_wp21;refine mR a1 fun w9 N=>?_;have a4:=hI N;clear N;go_wp21;refine mH (a6 _ w9 (by omega) a4) fun wa L=>?_;go_wp2;go_roundw
    case rel=>exact⟨q+1,by omega,by go_num,rfl,L⟩
    case measure=>grind[intOf]
   .have a0:(9:Int)<c:=by omega
    have L:Hid (BookB w (8+(q+1)) wr):=⟨b.1,by obtain⟨t,x,v⟩:=b.2;exact⟨t,x,by omega⟩⟩;go_wp2;go_roundw
    case rel=>exact⟨q+1,by omega,by go_num,rfl,L⟩
    case measure=>(simp[intOf];try omega)
  .clear b
   go_wp2;go_ret;exact⟨rfl,HB.out.1⟩
theorem Pz (b:Option Go.Addr) (c:Nat) (a:List OpV) (w:World) (i:OpRow w b a) (h:a.length<=2097152) (j:∀o∈a,qC w o) (d:Env3 w) (g:EnvP w):Calls prog 11 #[.slice b a.length c] w fun e w'=>e=.returned (.bool true)/\Bl w w':=by have H:Hid _:=Py b c a w i h j d g;go_enter func11,ntmps11;go_wp21;refine mH H fun k f=>?_;go_wp2;go_ret;exact⟨rfl,f⟩
end Go.Proofs
namespace Go.Proofs.YtkcnageeamappaaGreatDoor
open Go.Moor Go.Proofs.Tryz Go.ChangeShapes Go.WideShapes Go.ChangeAt Go.RowKit Go.Moor
theorem Bk:prog.globalNamed "moor/escape.pairSet" =some 17:=by kernel_rfl
theorem PA:(prog.globals[17]?).map (·.type)=some 153:=by kernel_rfl
theorem PC:(Rows.laid_moor_escape_pairSet:DataW Unit)=Lib.tabData .u64 pairWs:=by kernel_rfl
theorem PD {W:World} (e:Env3 W) (h:Lib.VarReads prog W "moor/escape.pairSet" Rows.laid_moor_escape_pairSet):EnvP W:=by
 have a:=e.env2.env;refine⟨a.sets,?_,a.maxLen,a.size⟩;obtain⟨n,l,j,fuel,p,c,i,d,b⟩:=h;obtain rfl:=eh (Bk.symm.trans c);obtain rfl:=eh (PA.symm.trans i);rw[PC] at b;have f:=qS underlying153 underlying151 rR rQ b;intro k m;rw[lH Bk d k,<-jK,f];have g:k=0\/k=1\/k=2\/k=3:=by omega
 rcases g with rfl|rfl|rfl|rfl<;>rfl
theorem Bm:prog.cellsOf 62=2:=by kernel_rfl
set_option maxRecDepth 100000 in
theorem PE {H:Type} {a:TypeId×Value->H} {W:World} {n:Nat} {b:List Value} {d:DataW H} {o:List MemPlace} (h:DataW.trod a prog W 0 (λ_=>true) true n 62 b=some (d,o)):∃x y:ByteArray,b=[.string x,.string y]/\d=.agg [.lit (.string x.data.toList),.lit (.string y.data.toList)]:=by
 obtain⟨i,m,_,r,g,e,j⟩:=DataW.trod_struct underlying62 h;rw[Bm] at g;have e:i.length=2:=e;match b,g,i,e with
 | [c0,c1],_,[y0,y1],_=>
  have q:DataW.trod a prog W 0 (λ_=>true) true m 9 [c0]=some y0:=by have this:DataW.trod a prog W 0 (λ_=>true) true m 9 (([c0,c1].drop 0).take (prog.cellsOf 9))=some y0:=j 0 _ rfl;rwa[pM] at this
  have p:DataW.trod a prog W 0 (λ_=>true) true m 9 [c1]=some y1:=by have this:DataW.trod a prog W 0 (λ_=>true) true m 9 (([c0,c1].drop 1).take (prog.cellsOf 9))=some y1:=j 1 _ rfl;rwa[pM] at this
  obtain⟨S,f,k,_⟩:=ux underlying9 q;obtain⟨T,c,l,_⟩:=ux underlying9 p;injection f with f _;injection c with c _;subst f c k l;exact⟨S,T,rfl,by grind⟩
set_option maxRecDepth 100000 in
theorem PF {H:Type} {S:TypeId×Value->H} {W:World} {m0:Nat} {v:Value} {d:DataW H} {p:List MemPlace} (V:DataW.trod S prog W 0 (λ_=>true) true m0 58 [v]=some (d,p)) (O:Rows.uptoBulk d<=1048576):∃F r,∃l:List (Bs×Bs),v=.slice F l.length r/\PairAt W F l/\l.length<=2097152/\∀q∈l,q.1.length<=2097152/\q.2.length<=2097152:=by
 obtain⟨e,G⟩|⟨a,b,r,m,n,D,Pl,e,_,Y,Z,R,G,X⟩:=Go.Deep.open_slice underlying58 V
 .injection e with e _
  exact⟨none,0,[],e,λj o f=>by simp at f,by simp,λo s=>by cases s⟩
 .injection e with e _
  subst e;simp only[eV] at R;have P:∀i,i<b->∃q:ByteArray×ByteArray,(∀(k:Nat) c,[Value.string q.1,.string q.2][k]?=some c->W.cell? ((a.add (i*2)).add k)=some c)/\D i=.agg [.lit (.string q.1.data.toList),.lit (.string q.2.data.toList)]:=by
   intro i u;obtain⟨a1,A,J⟩:=X i (by omega);rw[Bm] at A;obtain⟨_,a0,t⟩:=World.cells?_some A;obtain⟨x,y,rfl,w⟩:=PE J;refine⟨(x,y),λk c C=>?_,w⟩;have M:k<2:=by have:=(dN.1 C).1;simpa using this
   rw[t k M,C]
  obtain⟨Q,z⟩:=Go.Deep.choose_lt (α:=ByteArray×ByteArray) P;have w:d=.slice ((List.range b).map D) ((List.range (m- b)).map λj=>D (b+j)):=aB Prod.fst G;rw[w,Rows.uptoBulk] at O;have U:=sA ((List.range b).map D);rw[gX,List.length_range] at U;refine⟨some a,r,(List.range b).map λi=>((Q i).1.data.toList,(Q i).2.data.toList),by simp,?_,by simp;omega,?_⟩
  .intro j o f
   have E:j<b:=(by have:=(dN.1 f).1;simpa using this);rw[fy,BP E] at f;simp only[kd,kU] at f;subst f;have t:=(z j E).1;have I:=(z 0 (by omega)).1 0 _ rfl;have h:=yn I;have hz:((a.add (0*2)).add 0)=a:=(by rw[qW];rfl);rw[hz] at h;have K:a=(Ad a.block a.off):=by
    cases a
    simp at h;rw[h.1]
   have T:=h.2;clear hz I h;generalize a.block=g at*;generalize a.off=off at*;subst K;refine⟨g,off,rfl,T,?_,?_⟩
   .have:=t 0 _ rfl;rwa[gA,gA] at this
   .simp_all[gA]
  .intro o s
   obtain⟨i,u,rfl⟩:=jJ.1 s;have L:=BO.1 u;obtain⟨_,N⟩:=z i L;have B:=sz (jJ.2 ⟨i,u,rfl⟩:D i∈(List.range b).map D);rw[N] at B;simp only[Rows.uptoBulk,Rows.uptoBulkAll] at B;exact⟨by grind,by grind⟩
theorem PG {H:Type} {f:TypeId×Value->H} {W:World} {o:OpV} (h:o.S.size<=2097152/\o.T.size<=2097152/\∃(a:DataW H) (c:List MemPlace) (m:Nat),DataW.trod f prog W 0 (λ_=>true) true m 58 [o.lv]=some (a,c)/\Rows.uptoBulk a<=1048576/\(Lit.int .i64 o.n).wf=true):qC W o:=by obtain⟨i,e,a,c,m,g,d,b⟩:=h;refine⟨?_,i,e,PF g d⟩;have b:(decide (IntKind.i64.min<=o.n)&&decide (o.n<=IntKind.i64.max))=true:=b;rwa[fx,oD,oD] at b
end Go.Proofs.YtkcnageeamappaaGreatDoor
