import Derived.Test.YtkcnageeamappaaGreatDoorXAAuth2
set_option maxHeartbeats 32000000
set_option maxRecDepth 8000
set_option linter.unusedSimpArgs false
namespace Go.Proofs
open Go.RowKit Go.Moor Go.Proofs.Tryz Go.Moor
theorem Cj (l c:Bs) (w:World) (hs:l.length<4294967281) (a2:Env2 w):Calls prog 282 #[.string ⟨l.toArray⟩,.string ⟨c.toArray⟩] w fun e w'=>uR (gq hostTell l c) e/\Bl w w':=by
 obtain⟨W,f⟩:=am (w.alloc (.cells eI 71));have a8:Hid (Bl w W):=by rw[f];exact(ai _ _).alloc .refl _
 have b8:W.heap.size=w.heap.size+1:=by rw[f];simp
 have o:Hid (∀a,Bl W a->a.heap[w.heap.size]?=some (.cells eI 71 (0,0))/\Bl w a/\Env2 a):=by intro a b;have i:=a8.out.trans (b.mono (by omega));refine⟨(b.block w.heap.size (by omega)).trans ?_,i,a2.below i⟩;rw[f];exact cj w _ _
 have T:Hid (gq hostTell l c=match eX hostTell (cy (bB l).2).1 l c with|none=>.error 4|some h=>match cV (cy (bB l).2).2 c with|none=>.error 5|some p=>.ok ⟨ah 5 (ay 58 (bB l).1).1,ah 5 ((ay 58 (bB l).1).2.getD []),true,h,p⟩):=rfl;have a3:=cutLogin_len l;have R:Hid (∀a,Bl W a->CQ 304 #[Sv l] a (.tuple #[.string ⟨(bB l).1.toArray⟩,.string ⟨(bB l).2.toArray⟩]) (Below W.heap.size W)):=by intro a b;refine mR (Cg l a hs) ?_;rintro w' ⟨n,rfl⟩;exact⟨rfl,nv b n⟩
 generalize(bB l).1=d at*;generalize(bB l).2=z at*;have a7:=cutOpt_len 58 d;have N:Hid (∀a,Bl W a->CQ 112 #[Sv d,.string ⟨#[58]⟩] a (.tuple #[.string ⟨(ay 58 d).1.toArray⟩,Sv ((ay 58 d).2.getD []),.bool (ay 58 d).2.isSome]) (Below W.heap.size W)):=by intro a b;obtain⟨m,hm⟩:=(o a b).2.2.env.maxLen;refine mR (nt (Bv d) 58 m a (by rw[al];omega) hm) ?_;rintro w' ⟨n,rfl⟩;exact⟨rfl,nv b n⟩
 generalize(ay 58 d).2.isSome=bo at*;generalize(ay 58 d).1=L at*;generalize(ay 58 d).2.getD []=K at*;have b0:=cutPort_len z;have O:Hid (∀a,Bl W a->CQ 305 #[Sv z] a (.tuple #[.string ⟨(cy z).1.toArray⟩,.string ⟨(cy z).2.toArray⟩]) (Below W.heap.size W)):=by intro a b;refine mR (Dw z a (by omega) (o a b).2.2.env) ?_;rintro w' ⟨n,rfl⟩;exact⟨rfl,nv b n⟩
 generalize(cy z).1=J at*;generalize(cy z).2=I at*;have M:Hid (∀a,Bl W a->Calls prog 306 #[Sv J,Sv l,Sv c] a fun e w'=>lN 4 (eX hostTell J l c) e/\Bl W w'):=by intro a b;refine(Ch J l c a (by omega) (o a b).2.2).mono ?_;rintro e w' ⟨Q,i⟩;exact⟨Q,b.trans (i.mono b.size)⟩
 have a1:Hid (∀a,Bl W a->Calls prog 210 #[Sv I,Sv c] a fun e w'=>uN (cV I c) e/\Bl W w'):=by intro a b;refine(uP I c a (by omega) (o a b).2.2).mono ?_;rintro e w' ⟨Q,i⟩;exact⟨Q,b.trans (i.mono b.size)⟩
 have a0:Hid (∀t:Bs,t.length<=l.length->∀a,Bl W a->CQ 62 #[Sv t,Iv 5] a (Sv (ah 5 t)) (Below W.heap.size W)):=by intro t ht a b;have Z:=(o a b).2.2.env;refine mR (lu (Bv t) 5 a (by rw[al];omega) Z.sets (by have:=Z.size;omega)) fun w' i=>?_;exact⟨rfl,b.trans (i.mono b.size)⟩
 have a9:L.length<=l.length:=by omega
 have a6:K.length<=l.length:=by omega
 generalize eX hostTell J l c=oh at*;generalize cV I c=op at*;clear a2 a3 a7 b0 hs;cases oh with
 |none=>
  go_enter func282,ntmps282;go_wp2_with fail;refine mR (R _ (by rw[f];exact ai _ _)) fun a k=>?_;go_wp2_with fail;refine mR (N a k) fun G q=>?_;go_wp2_with fail;refine mR (O G q) fun H r=>?_;go_wp2_with fail;refine(M H r).mono ?_;rintro e B ⟨⟨x,y,V,U,rfl⟩,u⟩;obtain⟨j,g,_⟩:=o B u;have s:=hI j;have D:=hI g;clear j g k q r u f;go_wp2_with(refine aY rfl 71 _ _ rfl w.heap.size eI rfl rfl 71 eI s lO rfl uQ ?_);(try simp only[Exit.inBlock,Exit.then]);have C:=bQ (P:=prog) (B.setRow w.heap.size eI) w.heap.size 71 71 eI (0,0) _ (bH B w.heap.size eI eI 71 (0,0) s) underlying71 rfl lO;refine aO (v:=.tuple #[.agg eI,.iface 96 (.agg #[Iv 4,.string x,.string y,.iface V U])]) ?_ rfl ⟨?_,aZ D .refl _⟩
  .rw[bR rfl]
   simp[asAddr,Result.andThen,C]
  .rw[T.out]
   exact⟨_,_,_,_,rfl⟩
 |some h=>
  cases op with
  |none=>
   go_enter func282,ntmps282;go_wp2_with fail;refine mR (R _ (by rw[f];exact ai _ _)) fun a k=>?_;go_wp2_with fail;refine mR (N a k) fun G q=>?_;go_wp2_with fail;refine mR (O G q) fun H r=>?_;go_wp2_with fail;refine mR (M H r) fun B u=>?_;go_wp2_with fail;refine(a1 B u).mono ?_;rintro e F ⟨⟨x,y,V,U,rfl⟩,E⟩;obtain⟨j,g,_⟩:=o F E;have s:=hI j;have D:=hI g;clear j g k q r u E f;go_wp2_with(refine aY rfl 71 _ _ rfl w.heap.size eI rfl rfl 71 eI s lO rfl uQ ?_);(try simp only[Exit.inBlock,Exit.then]);have C:=bQ (P:=prog) (F.setRow w.heap.size eI) w.heap.size 71 71 eI (0,0) _ (bH F w.heap.size eI eI 71 (0,0) s) underlying71 rfl lO;refine aO (v:=.tuple #[.agg eI,.iface 96 (.agg #[Iv 5,.string x,.string y,.iface V U])]) ?_ rfl ⟨?_,aZ D .refl _⟩
   .rw[bR rfl]
    simp[asAddr,Result.andThen,C]
   .rw[T.out]
    exact⟨_,_,_,_,rfl⟩
  |some p=>
   go_enter func282,ntmps282;go_wp2_with fail;refine mR (R _ (by rw[f];exact ai _ _)) fun a k=>?_;go_wp2_with fail;refine mR (N a k) fun G q=>?_;go_wp2_with fail;refine mR (O G q) fun H r=>?_;go_wp2_with fail;refine mR (M H r) fun B u=>?_;go_wp2_with fail;refine mR (a1 B u) fun F E=>?_;go_wp2_with fail;refine mR (a0 L a9 F E) fun w6 Y=>?_;go_wp2_with fail;refine mR (a0 K a6 w6 Y) fun S b7=>?_;obtain⟨j,g,_⟩:=o S b7;have s:=hI j;have D:=hI g;clear j g k q r u E Y b7 f;obtain⟨A,X⟩:=am (⟨ah 5 L,ah 5 K,true,h,p⟩:Auth);have a5:Hid ((#[Sv (ah 5 L),Sv (ah 5 K),.bool true,Sv h,Iv p]:Array Value)=dP A):=(by rw[X];rfl);have a4:=hI X;clear X;go_wp2_with(refine aY rfl 71 _ _ rfl w.heap.size (dP A) rfl (aB Value.agg a5) 71 eI s lO rfl (Ci A) ?_);(try simp only[Exit.inBlock,Exit.then]);have C:=bQ (P:=prog) (S.setRow w.heap.size (dP A)) w.heap.size 71 71 (dP A) (0,0) _ (bH S w.heap.size eI (dP A) 71 (0,0) s) underlying71 rfl lO;refine aO (v:=.tuple #[.agg (dP A),.nilIface]) ?_ rfl ⟨?_,aZ D .refl _⟩
   .rw[bR rfl]
    simp[asAddr,Result.andThen,C]
   .rw[T.out,a4.out]
    rfl
theorem vy (b:Bs) (o:Option Go.Addr) (g:Nat) (segs:List Bs) (w:World) (k:segs.length<=g) (u:g<=9223372036854775807) (l:∀x∈segs,x.length<4294967281) (d:∀(j:Nat) x,segs[j]?=some x->∃a:Go.Addr,o=some a/\w.cell? (a.add j)=some (.string ⟨x.toArray⟩)):Calls prog 253 #[.string ⟨b.toArray⟩,.slice o segs.length g] w fun e w'=>e=.returned (.slice o (aI b segs).length g)/\w'=w:=by
 match segs,k,l,d with
 | [],k,_,_=>have c:Hid ((aI b []).length=0):=hI (by unfold aI;rw[ab (by simp)];rfl);go_enter func253,ntmps253;go_wp2;go_ret;rw[c.out];exact⟨rfl,rfl⟩
 | [x],k,l,d=>
  obtain⟨a,rfl,t⟩:=d 0 x rfl;have v:w.cell? a=some (Sv x):=t;have m:=hI (vh x w (l x (by simp)));have c:Hid ((aI b [x]).length=if b=sFile/\ek x=true then 1 else 0):=by
   show _=_;unfold aI;by_cases h:b=sFile/\ek x=true
   .grind
   .grind
  clear l d;by_cases n:b=sFile
  .subst n
   cases f:ek x with
   |true=>have i:Hid ((aI sFile [x]).length=1):=hI (by rw[c.out,ae ⟨rfl,f⟩]);rw[f] at m;clear f c;go_enter func253,ntmps253;go_wp2_with fail;refine m0 m.out ?_;go_wp2;go_ret;rw[i.out];exact⟨rfl,rfl⟩
   |false=>have i:Hid ((aI sFile [x]).length=0):=hI (by rw[c.out,ab (by simp[f])]);rw[f] at m;clear f c;go_enter func253,ntmps253;go_wp2_with fail;refine m0 m.out ?_;go_wp2;go_ret;rw[i.out];exact⟨rfl,rfl⟩
  .have p:=dV b _ n
   have i:Hid ((aI b [x]).length=0):=hI (by rw[c.out,ab (fun y=>n y.1)]);obtain⟨s,q⟩:∃s:ByteArray,s=⟨b.toArray⟩:=⟨_,rfl⟩;rw[<-q] at p⊢;unfold sFile at p;clear n q c;go_enter func253,ntmps253;go_wp2;go_ret;rw[i.out];exact⟨rfl,rfl⟩
 |x::y::r,k,_,d=>
  obtain⟨a,rfl,_⟩:=d 0 x rfl;have c:Hid ((aI b (x::y::r)).length=r.length+1):=by show _=_;unfold aI;rw[ab (by simp),lF];rfl
  have z:r.length+2<=g:=k;clear d;show Calls prog 253 #[Sv b,.slice (some a) (r.length+2) g] w _;go_enter func253,ntmps253;go_wp2;go_ret;rw[c.out];exact⟨rfl,rfl⟩
def aW (l:List Bs):List Value:=l.map λx=>.string ⟨x.toArray⟩
theorem DQ (l:List Bs):(aW l).length=l.length:=by simp[aW]
theorem kn (a b:List Bs):aW (a++b)=aW a++aW b:=by simp[aW]
theorem DR {w:World} {base:Nat} {e:TypeId} {v:Value} {n:Nat} {b:List Value} (h:w.ownsRow base e 1 v n b):∀g,v.ownBlock=some g->g<w.heap.size:=λg a=>(h.lt g a).2
theorem DS (d:Option Go.Addr) (b:Nat) (segs:List Bs) (w:World) (l:segs.length<=4294967283) (i:segs≠[]->∃g,d=some ⟨g,0,none⟩/\∀(j:Nat) x,segs[j]?=some x->Ce w g j (.string ⟨x.toArray⟩)):Calls prog 250 #[.slice d segs.length b] w λe w'=>(∃v,e=.returned v/\w'.ownsRow w.heap.size 9 1 v segs.length (aW segs))/\Bl w w':=by
 by_cases h:segs=[]
 .subst h
  cases d with
  |none=>refine m0 (slices_Clone_string_nil 0 b w) ?_;exact⟨⟨_,rfl,mP _ _ _ _⟩,ai _ _⟩
  |some a=>refine(slices_Clone_string_zero a b w).mono ?_;rintro e w' ⟨v,rfl,f,_,c⟩;exact⟨⟨v,rfl,f⟩,c⟩
 .obtain⟨g,rfl,m⟩:=i h
  have k:(segs.map λx=>(Bv x)).length=segs.length:=by simp
  have:=slices_Clone_string g 0 segs.length b (segs.map λx=>(Bv x)) w (by omega) (by omega) (by
   grind)
  refine this.mono ?_;rintro e w' ⟨v,rfl,f,_,c⟩;refine⟨⟨v,rfl,?_⟩,c⟩;rwa[cg (by omega),qK] at f
theorem vP {w:World} {base:Nat} {e:TypeId} {c:Option Go.Addr} {f:Nat} {segs:List Bs} (b:Bs) (h:w.ownsRow base e 1 (.slice c segs.length f) segs.length (aW segs)):w.ownsRow base e 1 (.slice c (aI b segs).length f) (aI b segs).length (aW (aI b segs)):=by
 unfold aI;split
 .exact h
 .by_cases a:segs=[]
  .grind
  .obtain⟨g,k,d,_⟩:=h.form (iK.2 a)
   simp only[ul] at d;obtain⟨rfl,_,rfl⟩:=d;have j:segs.length=segs.dropLast.length+1:=by rw[lF];have:=iK.2 a;omega
   have i:aW segs=aW segs.dropLast++aW [segs.getLast a]:=(by rw[<-kn,BA a]);rw[j,i] at h;exact ownsRow_pop (by simp[DQ]) h
theorem dF {w:World} {base:Nat} {e:TypeId} {v:Value} {n:Nat} {c:List Value} (h:w.ownsRow base e 1 v n c):∃b a,v=.slice b n a/\n<=a/\a<=maxLen/\(0<n->∃g,b=some ⟨g,0,none⟩/\∀j u,c[j]?=some u->Ce w g j u):=by
 obtain⟨rfl,rfl⟩|⟨g,a,f,rfl,i,o,k,m,l,d⟩:=h.2
 .grind
 .grind[pV]
theorem iT (s:Int) (l:Bs):(ah s l).length<=3*l.length:=by grind[xG,xH]
theorem vQ (a p:Bs) (f:Bool):(fR a p f).length<=3*p.length+2:=by grind[fR,iT]
theorem vR (a:Bs) (segs:List Bs) (p:Bs) (l:List Bs) (h:bG p=0):bU a segs (p::l)=bU a (segs++ [fR a p segs.isEmpty]) l:=by simp_all[bU]
theorem rv (a:Bs) (segs:List Bs) (p:Bs) (l:List Bs) (h:bG p=1):bU a segs (p::l)=bU a (segs++(if l.isEmpty then [[]] else [])) l:=by simp_all[bU]
theorem vS (a:Bs) (segs:List Bs) (p:Bs) (l:List Bs) (h:bG p=2):bU a segs (p::l)=bU a (aI a segs++(if l.isEmpty then [[]] else [])) l:=by simp_all[bU]
theorem rx (a:Bs) (segs:List Bs):(aI a segs).length<=segs.length/\∀x∈aI a segs,x∈segs:=by
 unfold aI;split
 .simp
 .grind[List.dropLast_subset]
theorem vT (p:Bs):bG p=0\/bG p=1\/bG p=2:=by grind[bG]
theorem lY (c:UInt8):∀l:Bs,(ar c l).length<=l.length+1
 | []=>by simp[ar]
 |b::l=>by
  have a:=lY c l;unfold ar;split
  .simp;omega
  .split
   .rename_i x d h
    rw[h] at a;simp at a⊢;omega
   .simp
theorem DT {b:Option Go.Addr} {n m c:Nat} {o:Option Nat} (h:(Value.slice b n c).ownBlock≠o):(Value.slice b m c).ownBlock≠o:=by
 cases b with
 |none=>exact h
 |some a=>exact h
theorem ry (g j:Nat):(⟨g,0,none⟩:Go.Addr).add j=⟨g,j,none⟩:=by grind[Go.Addr.add]
theorem DU (sc t:Bs) (sp:Option Go.Addr) (cap:Nat) (begun:List Bs) (w:World) (ht:t.length<=100000) (hbl:begun.length<=1000000) (hbx:∀x∈begun,x.length<=1000000) (hform:begun≠[]->∃g,sp=some ⟨g,0,none⟩/\∀(j:Nat) x,begun[j]?=some x->Ce w g j (.string ⟨x.toArray⟩)) (henv:Env2 w):Calls prog 212 #[.string ⟨sc.toArray⟩,.slice sp begun.length cap,.string ⟨t.toArray⟩] w λe w'=>(∃v,e=.returned v/\w'.ownsRow w.heap.size 9 1 v (bO sc begun t).length (aW (bO sc begun t)))/\Bl w w':=by
 have HV:Hid (Tryz.Env2 w):=henv;have HCL:Hid (Calls Tryz.prog 250 #[.slice sp begun.length cap] w λe w'=>(∃v,e=.returned v/\w'.ownsRow w.heap.size 9 1 v begun.length (aW begun))/\Below w.heap.size w w'):=DS sp cap begun w (by omega) hform;have HSP:Hid (∀W,Calls Tryz.prog 126 #[.string ⟨sc.toArray⟩] W λe w'=>e=.returned (.bool (ao sc))/\w'=W):=λW=>iw ⟨sc.toArray⟩ W;obtain⟨i0,hi,hz0,hz1,hz2⟩:=fA tk;clear henv hform;by_cases hnone:t=[]/\ao sc=false
 .obtain⟨rfl,hsf⟩:=hnone
  have HE:Hid (bO sc begun []=begun):=by show _=_;unfold bO;rw[ae ⟨rfl,hsf⟩]
  have e1:=nc;rw[hsf] at HSP;clear hsf;go_enter Tryz.func212,Tryz.ntmps212;go_wp2_with fail;refine HCL.out.mono ?_;rintro e w1 ⟨⟨v,rfl,ho⟩,b1⟩;have HO:Hid (w1.ownsRow w.heap.size 9 1 v begun.length (aW begun)):=ho;clear ho;go_wp2_with fail;refine(HSP.out w1).mono ?_;rintro e w2 ⟨rfl,hw0⟩;have hw0:=hw0.symm;subst hw0;go_wp2;go_ret;rw[HE.out];exact⟨⟨_,rfl,HO.out⟩,b1⟩
 .have HE:Hid (bO sc begun t=bU sc begun (ar 47 (bI t))):=by show _=_;unfold bO;rw[ab hnone]
  generalize bO sc begun t=goal at*;have HTP:Hid (∀W,Calls Tryz.prog 165 #[.string ⟨t.toArray⟩,.string ⟨#[47]⟩] W λe w'=>e=.returned (.string ⟨(bI t).toArray⟩)/\w'=W):=by
   intro W;refine(Tryz.strings_TrimPrefix ⟨t.toArray⟩ ⟨#[47]⟩ W).mono ?_;rintro e w' ⟨rfl,rfl⟩;refine⟨?_,rfl⟩;have:Lib.trimPrefix (⟨t.toArray⟩:ByteArray).data.toList (⟨#[47]⟩:ByteArray).data.toList=bI t:=by
    show Lib.trimPrefix t [47]=_;unfold Lib.trimPrefix Lib.hasPrefix bI;cases t with
    |nil=>rfl
    |cons c r=>
     by_cases h:c=47
     .subst h;simp[List.isPrefixOf]
     .have h2:¬(47:UInt8)=c:=λe=>h e.symm
      simp[List.isPrefixOf,h,h2]
   rw[this]
  have htl:(bI t).length<=t.length:=by unfold bI;split<;>simp
  have HSPL:Hid (∀W,Tryz.Env W->Calls Tryz.prog 132 #[.string ⟨(bI t).toArray⟩,.string ⟨#[47]⟩] W λe w'=>e=.returned (.slice (some ⟨W.heap.size,0,none⟩) (ar 47 (bI t)).length (ar 47 (bI t)).length)/\Below W.heap.size W w'/\W.heap.size<w'.heap.size/\∀(j:Nat) x,(ar 47 (bI t))[j]?=some x->w'.cell? ⟨W.heap.size,j,none⟩=some (.string ⟨x.toArray⟩)):=by intro W hv;obtain⟨m,hm⟩:=hv.maxLen;refine(pu (Bv (bI t)) 47 m W (by rw[al];omega) hm).mono ?_;rintro e w' ⟨xs,hxs,rfl,rfl⟩;have hxs':=hxs;have hl:xs.length=(ar 47 (bI t)).length:=(by rw[<-hxs',gX]);refine⟨by rw[hl],(ai _ _).alloc .refl _,by simp,?_⟩;intro j x hx;rw[<-hxs',fy,um] at hx;obtain⟨y,hy,rfl⟩:=hx;rw[ew];simp only[kW,fy,hy,kd]
  have HPL:Hid (∀x∈ar 47 (bI t),x.length<=100000):=λx hx=>by
   have:=hR 47 _ x hx;omega
  have hpn:(ar 47 (bI t)).length<=100001:=by have:=lY 47 (bI t);omega
  generalize ar 47 (bI t)=parts at*;generalize bI t=tt at*;clear htl;by_cases hte:t=[];case' pos=>
   have hsf:ao sc=true:=by
    cases h:ao sc with
    |true=>rfl
    |false=>exact absurd ⟨hte,h⟩ hnone
   subst hte;have e0:=nc;rw[hsf] at HSP;clear hsf hnone;go_enter Tryz.func212,Tryz.ntmps212;go_wp2_with fail;refine HCL.out.mono ?_;rintro e w1 ⟨⟨v,rfl,ho⟩,b1⟩;have HO:Hid (w1.ownsRow w.heap.size 9 1 v begun.length (aW begun)):=ho;have HV1:Hid (Tryz.Env2 w1):=HV.out.below b1;clear ho;go_wp2_with fail;refine(HSP.out w1).mono ?_;rintro e w2 ⟨rfl,hw0⟩;have hw0:=hw0.symm;subst hw0
  case' neg=>have e0:=io t hte;obtain⟨s,hsd⟩:∃s:ByteArray,s=⟨t.toArray⟩:=⟨_,rfl⟩;rw[<-hsd] at e0 HTP⊢;clear hsd hnone hte HSP;go_enter Tryz.func212,Tryz.ntmps212;go_wp2_with fail;refine HCL.out.mono ?_;rintro e w1 ⟨⟨v,rfl,ho⟩,b1⟩;have HO:Hid (w1.ownsRow w.heap.size 9 1 v begun.length (aW begun)):=ho;have HV1:Hid (Tryz.Env2 w1):=HV.out.below b1;clear ho
  all_goals
   go_wp2_with fail;refine(HTP.out w1).mono ?_;rintro e w2 ⟨rfl,hw0⟩;have hw0:=hw0.symm;subst hw0;go_wp2_with fail;refine(HSPL.out w1 HV1.out.env).mono ?_;rintro e w2 ⟨rfl,b2,hzp,hcp⟩;have HO2:Hid (w2.ownsRow w.heap.size 9 1 v begun.length (aW begun)):=jU HO.out b2;have HPB:Hid (v.ownBlock≠some w1.heap.size):=λh=>by
    have:=DR HO.out _ h;omega
   have HCP:Hid (∀(j:Nat) x,parts[j]?=some x->w2.cell? ⟨w1.heap.size,j,none⟩=some (.string ⟨x.toArray⟩)):=hcp;have HB2:Hid (Below w.heap.size w w2):=b1.trans (b2.mono b1.size);have hw1z:=b1.size;clear hcp b1 b2 HO;go_wp2_with fail;go_loopw [7,27] (λs i wr=>∃(q:Nat) (segs:List Bs),q<=parts.length/\i=.int .i64 q/\wr.ownsRow w.heap.size 9 1 s segs.length (aW segs)/\s.ownBlock≠some w1.heap.size/\(∀(j:Nat) x,parts[j]?=some x->wr.cell? ⟨w1.heap.size,j,none⟩=some (.string ⟨x.toArray⟩))/\bU sc segs (parts.drop q)=goal/\segs.length<=1000000+q/\(∀x∈segs,x.length<=1000000)/\Below w.heap.size w wr/\w1.heap.size<wr.heap.size) (λ_ i _=>parts.length-(intOf i).toNat)
   case atStart=>exact⟨0,begun,aR _,rfl,HO2.out,HPB.out,HCP.out,HE.out.symm,by omega,hbx,HB2.out,hzp⟩
   case round=>
    obtain⟨q,segs,hq,rfl,hown,hpb,hcp,hrest,hsl,hsx,hbw,hwz⟩:=hrel;obtain⟨sp2,cap2,hvf,hnc,hcm,hf2⟩:=dF hown;subst hvf;have HO3:Hid (wr.ownsRow w.heap.size 9 1 (.slice sp2 segs.length cap2) segs.length (aW segs)):=hown;have HP3:Hid ((Value.slice sp2 segs.length cap2).ownBlock≠some w1.heap.size):=hpb;have HC3:Hid (∀(j:Nat) x,parts[j]?=some x->wr.cell? ⟨w1.heap.size,j,none⟩=some (.string ⟨x.toArray⟩)):=hcp;have HR3:Hid (bU sc segs (parts.drop q)=goal):=hrest;have HX3:Hid (∀x∈segs,x.length<=1000000):=hsx;have HB3:Hid (Below w.heap.size w wr):=hbw;have HV3:Hid (Tryz.Env2 wr):=HV.out.below hbw;have hbz:=hbw.size;unfold maxLen at hcm;clear hown hpb hcp hrest hsx hbw hf2;by_cases hlt:q<parts.length
    .obtain⟨p,hp⟩:∃p,parts[q]?=some p:=⟨parts[q]'hlt,bY hlt⟩
     have hcq:=HC3.out q p hp;have hpl:=HPL.out p (ef hp);have HDR:Hid (parts.drop q=p::parts.drop (q+1)):=(by obtain⟨h1,h2⟩:=dN.1 hp;show _=_;rw[ch h1,h2]);have HLE:Hid ((parts.drop (q+1)).isEmpty=decide (q+1=parts.length)):=by
      show _=_;by_cases h:q+1=parts.length
      .rw[eW (by omega),dC h]
       rfl
      .rw[ee h]
       cases hd:parts.drop (q+1) with
       |nil=>have:=aB List.length hd;rw[cm] at this;simp at this;omega
       |cons a b=>rfl
     clear hp;have HDO:Hid (Calls Tryz.prog 251 #[.string ⟨p.toArray⟩] wr λe w'=>e=.returned (.string ⟨(iN p).toArray⟩)/\Below wr.heap.size wr w'):=DO p wr (by omega) HV3.out.env;have KEEP:Hid (∀w3,Below wr.heap.size wr w3->w3.ownsRow w.heap.size 9 1 (.slice sp2 segs.length cap2) segs.length (aW segs)/\(∀(j:Nat) x,parts[j]?=some x->w3.cell? ⟨w1.heap.size,j,none⟩=some (.string ⟨x.toArray⟩))/\Below w.heap.size w w3/\w1.heap.size<w3.heap.size/\Tryz.Env2 w3):=by intro w3 h3;have hb:=HB3.out.trans (h3.mono hbz);refine⟨jU HO3.out h3,λj x hx=>?_,hb,cq hwz h3.size,HV.out.below hb⟩;rw[h3.cell (p:=⟨w1.heap.size,j,none⟩) hwz];exact HC3.out j x hx
     rcases vT p with hd|hd|hd
     .have HD:Hid (iN p=[]):=by show _=_;unfold iN;rw[ab (by omega),ab (by omega)]
      have HST:Hid (bU sc (segs++ [fR sc p segs.isEmpty]) (parts.drop (q+1))=goal):=(by show _=_;rw[<-HR3.out,HDR.out,vR sc segs p _ hd]);have htsl:=vQ sc p segs.isEmpty;have HTS:Hid (∀w3,Below wr.heap.size wr w3->Calls Tryz.prog 252 #[.string ⟨sc.toArray⟩,.string ⟨p.toArray⟩,.bool segs.isEmpty] w3 λe w'=>e=.returned (.string ⟨(fR sc p segs.isEmpty).toArray⟩)/\Below wr.heap.size wr w'):=(by intro w3 h3;refine(DP sc p segs.isEmpty w3 (by omega) (KEEP.out w3 h3).2.2.2.2.env).mono ?_;rintro e w' ⟨rfl,hb⟩;exact⟨rfl,h3.trans (hb.mono h3.size)⟩);have hfb:((segs.length:Int)==0)=segs.isEmpty:=by
       cases segs with
       |nil=>rfl
       |cons a b=>simp;omega
      rw[HD.out] at HDO;generalize fR sc p segs.isEmpty=ts at*;generalize segs.isEmpty=fl at*;have e1:=nc;clear hd HD;go_wp2_with fail;refine HDO.out.mono ?_;rintro e w3 ⟨rfl,b3⟩;go_wp2_with fail;refine(HTS.out w3 b3).mono ?_;rintro e w4 ⟨rfl,b4⟩;obtain⟨k1,k2,k3,k4,k5⟩:=KEEP.out w4 b4;have HK2:Hid (∀(j:Nat) x,parts[j]?=some x->w4.cell? ⟨w1.heap.size,j,none⟩=some (.string ⟨x.toArray⟩)):=k2;have HK3:Hid (Below w.heap.size w w4):=k3;have hk3:=k3.size;have HO4:=k1.alloc (.cells #[.string ⟨ts.toArray⟩] 9);clear k1 k2 k3 k5;go_wp2_with(at_builtin;refine kf _ rfl _ _ 28 rfl w.heap.size 9 i0 (.string ⟨#[]⟩) 1 16 jI hi hz0 hz1 hz2 rfl (by decide) _ _ _ rfl HO4 ⟨w4.heap.size,0,none⟩ 1 1 [.string ⟨ts.toArray⟩] rfl rfl ?c1 ?c2 (by decide) ?c3 ?c4 ?c5 _ rfl ?_)
      case c1=>
       intro j u hj;match j,hj with
       |0,hj=>simp at hj;subst hj;exact ew w4 #[.string ⟨ts.toArray⟩] 9 0
      case c2=>intro u hu;simp at hu;subst hu;rfl
      case c3=>unfold maxLen;omega
      case c4=>omega
      case c5=>simp;omega
      intro g cap3 w5 hown' hgrow hat hglt;have HOW:Hid (w5.ownsRow w.heap.size 9 1 (.slice (some ⟨g,0,none⟩) (segs.length+1) cap3) (segs.length+1) (aW segs++ [.string ⟨ts.toArray⟩])):=hown';have HPN:Hid ((Value.slice (some ⟨g,0,none⟩) (segs.length+1) cap3).ownBlock≠some w1.heap.size):=by
       intro h;have hg:g=w1.heap.size:=(by simpa[Value.ownBlock] using h);rcases hat with h1|h1
       .exact HP3.out (by rw[h1,hg])
       .first|omega|(simp at h1;omega)
      have HCN:Hid (∀(j:Nat) x,parts[j]?=some x->w5.cell? ⟨w1.heap.size,j,none⟩=some (.string ⟨x.toArray⟩)):=(by intro j x hx;refine hgrow.cell ?_ (λh=>HP3.out h.symm);rw[fk _ _ ⟨w1.heap.size,j,none⟩ k4];exact HK2.out j x hx);have HBN:Hid (Below w.heap.size w w5):=(HK3.out.alloc hk3 _).grown hgrow (by simp;omega) (λk hk=>(HO4.lt k hk).1);have hzn:w1.heap.size<w5.heap.size:=(by have:=hgrow.size;simp at this;omega);clear hown' hgrow HO4 hat;go_wp2;go_roundw
      case rel=>
       refine⟨q+1,segs++ [ts],by omega,by go_num,?_,?_,HCN.out,HST.out,by simp;omega,?_,HBN.out,hzn⟩
       .rw[cC,kn]
        exact HOW.out
       .exact HPN.out
       .intro x hx
        rcases fm.1 hx with hx|hx
        .exact HX3.out x hx
        .simp at hx;subst hx;omega
      case measure=>(simp[intOf];try omega)
     .have HD:Hid (iN p=[46]):=by show _=_;unfold iN;rw[ae hd]
      rw[HD.out] at HDO;have HX4:=hI HX3;have HP4:=hI HP3;by_cases hla:q+1=parts.length
      .have HST:Hid (bU sc (segs++ [[]]) (parts.drop (q+1))=goal):=by
        show _=_;rw[<-HR3.out,HDR.out,rv sc segs p _ hd,HLE.out,dC hla];rfl
       have hlb:((q:Int)==(parts.length:Int)- 1)=true:=(by rw[dM];omega);clear hd HD HDR HLE;go_wp2_with fail;refine mR HDO.out λw4 b4=>?_;obtain⟨k1,k2,k3,k4,k5⟩:=KEEP.out w4 b4;have HK2:=hI k2;have HK3:=hI k3;have hk3:=k3.size;have HO4:=k1.alloc (.cells #[Sv []] 9);clear k1 k2 k3 k5;go_wp2_with(at_builtin;refine kf _ rfl _ _ 28 rfl w.heap.size 9 i0 (Sv []) 1 16 underlying28 hi hz0 hz1 hz2 rfl (by decide) _ _ _ rfl HO4 (Ad w4.heap.size 0) 1 1 [Sv []] rfl rfl ?c1 ?c2 (by decide) ?c3 ?c4 ?c5 _ rfl ?_)
       case c1=>
        intro j u hj;match j,hj with
        |0,hj=>simp at hj;subst hj;exact ew w4 #[Sv []] 9 0
       case c2=>intro u hu;simp at hu;subst hu;rfl
       case c3=>unfold maxLen;omega
       case c4=>omega
       case c5=>simp;omega
       intro g cap3 w5 hown' hgrow hat hglt;have HOW:=hI hown';have HPN:Hid ((Value.slice (some (Ad g 0)) (segs.length+1) cap3).ownBlock≠some w1.heap.size):=by
        intro h;have hg:g=w1.heap.size:=(by simpa[Value.ownBlock] using h);obtain h1|h1:=hat
        .exact HP4 (by rw[h1,hg])
        .first|omega|(simp at h1;omega)
       have HCN:Hid (∀(j:Nat) x,parts[j]?=some x->Ce w5 w1.heap.size j (Sv x)):=(by intro j x hx;refine hgrow.cell ?_ (λh=>HP4 h.symm);rw[fk _ _ (Ad w1.heap.size j) k4];exact HK2 j x hx);have HBN:=hI ((HK3.out.alloc hk3 _).grown hgrow (by simp;omega) (λk hk=>(HO4.lt k hk).1));have hzn:w1.heap.size<w5.heap.size:=(by have:=hgrow.size;simp at this;omega);clear hown' hgrow HO4 hat;go_wp2;go_roundw
       case rel=>
        refine⟨q+1,segs++ [[]],by omega,by go_num,?_,?_,HCN,HST,by simp;omega,?_,HBN,hzn⟩
        .rw[cC,kn]
         exact HOW
        .exact HPN
        .intro x hx
         obtain hx|hx:=fm.1 hx
         .exact HX4 x hx
         .simp at hx;subst hx;simp
       case measure=>(simp[intOf];try omega)
      .have HST:Hid (bU sc segs (parts.drop (q+1))=goal):=by
        show _=_;rw[<-HR3.out,HDR.out,rv sc segs p _ hd,HLE.out,ee hla];simp
       have hlb:((q:Int)==(parts.length:Int)- 1)=false:=aL.2 (by omega);clear hd HD HDR HLE;go_wp2_with fail;refine mR HDO.out λw4 b4=>?_;obtain⟨k1,k2,k3,k4,k5⟩:=KEEP.out w4 b4;have HK1:=hI k1;have HK2:=hI k2;have HK3:=hI k3;clear k1 k2 k3 k5;go_wp2;go_roundw
       case rel=>exact⟨q+1,segs,by omega,by go_num,HK1,HP3,HK2,HST,by omega,HX3,HK3,k4⟩
       case measure=>(simp[intOf];try omega)
     .have HD:Hid (iN p=[46,46]):=hI (by unfold iN;rw[ab (by omega),ae hd])
      rw[HD.out] at HDO;obtain⟨hwl,hwm⟩:=rx sc segs;have HWL:Hid (∀w3,Bl wr w3->C0 253 #[Sv sc,.slice sp2 segs.length cap2] w3 (.slice sp2 (aI sc segs).length cap2)):=by intro w3 h3;obtain⟨k1,_⟩:=KEEP.out w3 h3;refine vy sc sp2 cap2 segs w3 hnc hcm (λx hx=>by have:=HX3 x hx;omega) ?_;intro j x hx;obtain⟨sp4,cap4,hv4,_,_,hf4⟩:=dF k1;simp only[ul] at hv4;obtain⟨rfl,_,rfl⟩:=hv4;obtain⟨g,rfl,hg⟩:=hf4 (by have:=(dN.1 hx).1;omega);refine⟨_,rfl,?_⟩;rw[ry];exact hg j _ (by unfold aW;rw[fy,hx];rfl)
      have HOL:=hI λw3 h3=>vP sc (KEEP.out w3 h3).1;have HX4:=hI λx hx=>HX3 x (hwm x hx);have HP4:Hid ((Value.slice sp2 (aI sc segs).length cap2).ownBlock≠some w1.heap.size):=DT (HP3.out);have HT2:Hid (bU sc (aI sc segs++(if(parts.drop (q+1)).isEmpty then [[]] else [])) (parts.drop (q+1))=goal):=(by show _=_;rw[<-HR3.out,HDR.out,vS sc segs p _ hd]);clear hd HD HDR hwm;generalize aI sc segs=less at*;by_cases hla:q+1=parts.length
      .have HST:Hid (bU sc (less++ [[]]) (parts.drop (q+1))=goal):=by
        have:=HT2.out;rw[HLE.out,dC hla] at this;exact this
       have hlb:((q:Int)==(parts.length:Int)- 1)=true:=(by rw[dM];omega);clear HLE HT2;go_wp2_with fail;refine HDO.out.mono ?_;rintro e w4 ⟨rfl,b4⟩;go_wp2_with fail;refine(HWL.out w4 b4).mono ?_;rintro e w6 ⟨rfl,hw6⟩;have hw6:=hw6.symm;subst hw6;obtain⟨_,k2,k3,k4,k5⟩:=KEEP.out w4 b4;have k1:=HOL.out w4 b4;have HK2:Hid (∀(j:Nat) x,parts[j]?=some x->w4.cell? ⟨w1.heap.size,j,none⟩=some (.string ⟨x.toArray⟩)):=k2;have HK3:Hid (Below w.heap.size w w4):=k3;have hk3:=k3.size;have HO4:=k1.alloc (.cells #[.string ⟨#[]⟩] 9);clear k1 k2 k3 k5;go_wp2_with(at_builtin;refine kf _ rfl _ _ 28 rfl w.heap.size 9 i0 (.string ⟨#[]⟩) 1 16 jI hi hz0 hz1 hz2 rfl (by decide) _ _ _ rfl HO4 ⟨w4.heap.size,0,none⟩ 1 1 [.string ⟨#[]⟩] rfl rfl ?c1 ?c2 (by decide) ?c3 ?c4 ?c5 _ rfl ?_)
       case c1=>
        intro j u hj;match j,hj with
        |0,hj=>simp at hj;subst hj;exact ew w4 #[.string ⟨#[]⟩] 9 0
       case c2=>intro u hu;simp at hu;subst hu;rfl
       case c3=>unfold maxLen;omega
       case c4=>omega
       case c5=>simp;omega
       intro g cap3 w5 hown' hgrow hat hglt;have HOW:Hid (w5.ownsRow w.heap.size 9 1 (.slice (some ⟨g,0,none⟩) (less.length+1) cap3) (less.length+1) (aW less++ [.string ⟨#[]⟩])):=hown';have HPN:Hid ((Value.slice (some ⟨g,0,none⟩) (less.length+1) cap3).ownBlock≠some w1.heap.size):=by
        intro h;have hg:g=w1.heap.size:=(by simpa[Value.ownBlock] using h);rcases hat with h1|h1
        .exact HP4.out (by rw[h1,hg])
        .first|omega|(simp at h1;omega)
       have HCN:Hid (∀(j:Nat) x,parts[j]?=some x->w5.cell? ⟨w1.heap.size,j,none⟩=some (.string ⟨x.toArray⟩)):=(by intro j x hx;refine hgrow.cell ?_ (λh=>HP4.out h.symm);rw[fk _ _ ⟨w1.heap.size,j,none⟩ k4];exact HK2.out j x hx);have HBN:Hid (Below w.heap.size w w5):=(HK3.out.alloc hk3 _).grown hgrow (by simp;omega) (λk hk=>(HO4.lt k hk).1);have hzn:w1.heap.size<w5.heap.size:=(by have:=hgrow.size;simp at this;omega);clear hown' hgrow HO4 hat;go_wp2;go_roundw
       case rel=>
        refine⟨q+1,less++ [[]],by omega,by go_num,?_,?_,HCN.out,HST.out,by simp;omega,?_,HBN.out,hzn⟩
        .rw[cC,kn]
         exact HOW.out
        .exact HPN.out
        .intro x hx
         rcases fm.1 hx with hx|hx
         .exact HX4.out x hx
         .simp at hx;subst hx;simp
       case measure=>(simp[intOf];try omega)
      .have HST:Hid (bU sc less (parts.drop (q+1))=goal):=by
        have:=HT2.out;rw[HLE.out,ee hla] at this;show _=_;simpa using this
       have hlb:((q:Int)==(parts.length:Int)- 1)=false:=aL.2 (by omega);clear HLE HT2;go_wp2_with fail;refine HDO.out.mono ?_;rintro e w4 ⟨rfl,b4⟩;go_wp2_with fail;refine(HWL.out w4 b4).mono ?_;rintro e w6 ⟨rfl,hw6⟩;have hw6:=hw6.symm;subst hw6;obtain⟨_,k2,k3,k4,k5⟩:=KEEP.out w4 b4;have HK1:Hid (w4.ownsRow w.heap.size 9 1 (.slice sp2 less.length cap2) less.length (aW less)):=HOL.out w4 b4;have HK2:Hid (∀(j:Nat) x,parts[j]?=some x->w4.cell? ⟨w1.heap.size,j,none⟩=some (.string ⟨x.toArray⟩)):=k2;have HK3:Hid (Below w.heap.size w w4):=k3;clear k2 k3 k5;go_wp2;go_roundw
       case rel=>exact⟨q+1,less,by omega,by go_num,HK1.out,HP4.out,HK2.out,HST.out,by omega,HX4.out,HK3.out,k4⟩
       case measure=>(simp[intOf];try omega)
    .have HG:Hid (segs=goal):=by
      show _=_;rw[<-HR3.out,eW (by omega)];rfl
     go_wp2;go_ret;rw[<-HG.out];exact⟨⟨_,rfl,HO3.out⟩,HB3.out⟩
end Go.Proofs
