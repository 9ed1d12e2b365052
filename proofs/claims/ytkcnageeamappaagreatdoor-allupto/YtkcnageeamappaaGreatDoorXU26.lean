import Derived.Test.YtkcnageeamappaaGreatDoorXAParts
set_option maxHeartbeats 32000000
set_option maxRecDepth 8000
set_option linter.unusedSimpArgs false
namespace Go.Proofs
open Go.RowKit Go.Moor Go.Proofs.Tryz Go.Moor
theorem DV (a:Adr):(jm a).all (·.oneCell')=true:=by simp[jm,Value.oneCell']
theorem rA (t:Bs) (a:Adr) (h:da t=.ok a):Small 1000000 1000000 a:=by
 unfold da at h;split at h
 .cases h
 .have b:=kj t none 20000 0 a (by omega) (by simp) h
  exact⟨by have:=b.s;omega,by have:=b.e;omega,by have:=b.d;omega,by have:=b.h;omega,b.p,by have:=b.text;omega,by have:=b.count;omega,λx c=>by have:=b.g x c;omega,by have:=b.q;omega,by have:=b.f;omega⟩
theorem DW (t:Bs) (a:Adr) (w:World) (h:da t=.ok a) (x:t.length<=maxLen) (E:Env2 w):Calls prog 22 #[.string ⟨t.toArray⟩] w fun e w'=>e=.returned (.tuple #[.agg (jm a),.int .i64 0])/\Bl w w':=by
 obtain⟨W,c⟩:=am (w.alloc (.cells bi 40));have j:Bl w W:=by rw[c];exact(ai _ _).alloc .refl _
 have S:=hI j;have Y:W.heap.size=w.heap.size+1:=by rw[c];simp
 have G:W.heap[w.heap.size]?=some (.cells bi 40 (0,0)):=by rw[c];exact cj w _ _
 have T:Hid (∀o,Bl W o->o.heap[w.heap.size]?=some (.cells bi 40 (0,0))):=fun o M=>(M.block w.heap.size (by omega)).trans G;have L:Hid (Calls prog 36 #[Sv t] W fun e w'=>(∃v,e=.returned (.tuple #[.agg (av a v),Iv 0])/\bh w' v a.w.g)/\Bl W w'):=by have:=na t W x (E.below j);rwa[h] at this
 have K:=hI (rA t a h);clear x E j G h;go_enter func22,ntmps22;go_upto_region 1 with fail;unfold bi at c;rw[<-c];clear c;go_wp2_with fail;refine af L ?_;rintro e b ⟨⟨v,rfl,g⟩,n⟩;have q:(av a v).all (·.oneCell')=true:=by obtain⟨⟨X,U,rfl,_⟩,_⟩:=g;exact iP _ _ rfl
 obtain⟨V,d⟩:=am ((b.alloc (.cells ag 77)).setRow b.heap.size (av a v));have H:Hid ((b.alloc (.cells ag 77)).heap[b.heap.size]?=some (.cells ag 77 (0,0))):=cj b _ _;have r:V.heap[b.heap.size]?=some (.cells (av a v) 77 (0,0)):=by rw[d];exact iM H _
 have k:Bl b V:=by rw[d];exact aZ ((ai _ _).alloc .refl _) .refl _
 have y:=hI (n.trans (k.mono n.size));have p:=hI (Dt a v V (ei g k) K);have D:Hid ((prog.info? 77).map (·.size)=some (av a v).size):=cD;have N:=hI q;have I:Hid (ag.size=(av a v).size):=(rfl:ag.size=(av a v).size);have R:Hid (((b.alloc (.cells ag 77)).setRow b.heap.size (av a v)).heap[b.heap.size]?=some (.cells (av a v) 77 (0,0))):=hI (by rw[<-d];exact r);have A:=hI d;have l:Hid ((prog.info? 40).map (·.size)=some (jm a).size):=kl;have z:=hI (DV a);have C:Hid (bi.size=(jm a).size):=(rfl:bi.size=(jm a).size);clear g n r k q d;generalize av a v=B at*;obtain⟨f,i⟩:=am (jm a);rw[<-i] at p l z C;have Q:=hI i;clear i;go_wp2_with(first|refine aY rfl 77 _ _ rfl b.heap.size B rfl rfl 77 ag H D I N ?_|refine cb rfl 77 _ rfl b.heap.size rfl 77 B (0,0) _ R underlying77 rfl D ?_);have m:=A;unfold ag at m;rw[<-m];clear m A;refine mR p fun O F=>?_;have s:=hI (y.out.trans (F.mono y.out.size));have u:=hI (T O s);clear F;go_wp2_with(refine aY rfl 40 _ _ rfl w.heap.size f rfl rfl 40 bi u l C z ?_);have J:=bQ (P:=prog) _ w.heap.size 40 40 f (0,0) _ (iM u f) underlying40 rfl l;refine aO (v:=.tuple #[.agg f,Iv 0]) ?_ rfl ⟨by rw[Q.out],aZ (S.out.trans (s.out.mono (by omega))) .refl _⟩;rw[bR rfl];simp[asAddr,Result.andThen,J]
theorem tF (b:Adr) (h:(none:Option Adr)=some b):eJ b:=by cases h
theorem Af (t:Bs) (u:Adr) (h:bL hostTell t none=.ok u):eJ u:=wN hostTell t none tF u h
theorem Ag:∀l:List Bs,(∀x∈l,x.length<=20000)->(bZ l).length<=20001*l.length
 | [],_=>by simp[bZ]
 |x::l,h=>by
  have c:=Ag l (λy a=>h y (by simp[a]));have b:=h x (by simp);have e:bZ (x::l)=(47::x)++bZ l:=rfl;rw[e,cC,dL,dL];omega
theorem Ah (u:Adr) (a:Small 20000 4100 u):(dU u.w).length<=100000000:=by
 unfold dU;split
 .have:=a.text;omega
 .have b:=Ag u.w.g a.g
  have c:=a.count;omega
theorem MM (b:Bool) (u:Adr) (a:Small 20000 4100 u):(iE b u).length<=200000000:=by
 have j:=a.s;have i:=a.e;have e:=a.d;have d:=a.h;have f:(fK b u.t).length<=50000:=by
  unfold fK dw;split
  .grind
  .simp
 have g:(dT u.t).length<=20020:=by
  unfold dT;split
  .omega
  .rename_i c
   rcases a.p with h|h
   .omega
   .grind[eY,nu]
 unfold iE;split
 .simp
  omega
 .simp
  omega
theorem Ai (j:Nat) (u:Adr) (b:Value) (w:World) (d:UAt w j u b) (a:Small 20000 4100 u) (c:eJ u):Calls prog 69 #[.pointer (some ⟨j,0,none⟩)] w λe w'=>e=.returned (.string ⟨(gf u).toArray⟩)/\Bl w w':=
 MI j u b w d a.p (λh=>(c.2.2.1 h).2) (by have:=a.s;have:=a.e;have:=a.d;have:=a.h;omega) (Ah u a) (by have:=a.count;omega) (by have:=a.q;have:=a.f;omega) (MM true u a)
theorem MN (t:Bs):eC hostTell t []=bL hostTell t none:=by rfl
theorem MO (t b:Bs) (a:b≠[]) (n:Int) (h:bL hostTell b none=.error n):eC hostTell t b=.error 2:=by simp_all[eC]
theorem MP (t b:Bs) (a:b≠[]) (x:Adr) (h:bL hostTell b none=.ok x):eC hostTell t b=bL hostTell t (some x):=by simp_all[eC]
theorem Aj {M:Nat} {x:Adr} (h:Small 20000 M x) (a:M<=4100):Small 20000 4100 x:=⟨h.s,h.e,h.d,h.h,h.p,h.text,bu h.count a,h.g,h.q,h.f⟩
theorem MQ (t b:Bs) (w:World) (V:t.length<=maxLen) (Y:b.length<=maxLen):Calls prog 44 #[.string ⟨t.toArray⟩,.string ⟨b.toArray⟩] w fun e w'=>e=jk (iR hostTell t b)/\Bl w w':=by
 have a2:=al t;have a3:=al b;unfold maxLen at V Y;by_cases O:2000<t.length\/2000<b.length
 .have l:Hid (iR hostTell t b=.error 1):=by show _=_;unfold iR;rw[ae (by omega)]
  rw[l.out];generalize(⟨t.toArray⟩:ByteArray)=tb at*;generalize(⟨b.toArray⟩:ByteArray)=M at*;by_cases z:2000<t.length
  .clear O l
   go_enter func44,ntmps44;go_wp2;go_ret2;exact⟨rfl,ai _ _⟩
  .have a7:(2000:Int)<(M.size:Int):=by omega
   clear O l;go_enter func44,ntmps44;go_wp2;go_ret2;exact⟨rfl,ai _ _⟩
 .have z:t.length<=2000:=by omega
  have K:b.length<=2000:=by omega
  have l:=hI (vw t b z K);have I:Hid (∀(base:Option Adr) H W,iY W.heap.size W H base->(∀x,base=some x->eJ x/\Small 20000 2001 x)->Calls prog 68 #[.string ⟨t.toArray⟩,H] W fun e w'=>tA W (bL hostTell t base) e w'):=by
   intro base H W E r;exact tC t H base W E (fun x g=>(r x g).1) (by
    cases base with
    |none=>exact aR _
    |some x=>have:=(r x rfl).2.count;show x.w.g.length<=_;omega) z
  have m:=hI fun W=>tC b (.pointer none) none W rfl tF (aR _) K;have J:Hid (∀(base:Option Adr) u j d W,(∀x,base=some x->eJ x/\Small 20000 2001 x)->bL hostTell t base=.ok u->UAt W j u d->CB 69 #[Pt j] W (.string ⟨(gf u).toArray⟩)):=by intro base u j d W E r h5;refine Ai j u d W h5 ?_ (wN hostTell t base (fun x g=>(E x g).1) u r);exact Aj (kj t base 20000 2001 u (by omega) (fun x g=>(E x g).2) r) (by omega)
  have q:Hid (∀x,bL hostTell b none=.ok x->eJ x/\Small 20000 2001 x):=by intro x g;have f:=kj b none 20000 0 x (by omega) (by simp) g;exact⟨Af b x g,⟨f.s,f.e,f.d,f.h,f.p,f.text,by have:=f.count;omega,f.g,f.q,f.f⟩⟩
  have a8:¬(2000:Int)<((⟨t.toArray⟩:ByteArray).size:Int):=by omega
  have a7:¬(2000:Int)<((⟨b.toArray⟩:ByteArray).size:Int):=by omega
  have U:Hid _:=ir b;rw[l.out];generalize(⟨t.toArray⟩:ByteArray)=tb at*;generalize(⟨b.toArray⟩:ByteArray)=M at*;clear O l a2 a3 V Y z K;obtain⟨N,a6⟩:∃N,M.toList.isEmpty=N:=⟨_,rfl⟩;have o:=hI (a6.symm.trans U);clear U;go_enter func44,ntmps44;go_upto_if 20 with fail
  go_cut [6] from 19 to 28 (fun v Q=>∃base:Option Adr,iY Q.heap.size Q v base/\Bl w Q/\eC hostTell t b=bL hostTell t base/\∀x,base=some x->eJ x/\Small 20000 2001 x)
  case first=>
   clear I J;cases N with
   |true=>
    have k:=ol.1 o.out.symm;have p:Hid (eC hostTell t b=bL hostTell t none):=(by rw[k];exact MN t);clear k o m q;go_wp2;go_meet
    case rel=>exact⟨none,rfl,ai _ _,p,fun x g=>by cases g⟩
   |false=>
    have k:b≠[]:=(by rintro rfl;exact absurd o.out (by decide));cases a:bL hostTell b none with
    |error n=>have p:=hI (MO t b k n a);rw[a] at m;clear k o a q;go_wp2_with fail;refine af (m _) ?_;rintro e F ⟨c,rfl,s⟩;have i:Hid _:=c;have a1:(n==0)=false:=(by rw[aL];exact s);clear c s;go_wp2;go_ret2;exact⟨by rw[p.out];rfl,i⟩
    |ok x=>
     have p:=hI (MP t b k x a);have HX:Hid _:=q x a;rw[a] at m;clear k o a q;go_wp2_with fail;refine af (m _) ?_;rintro e F ⟨c,d,rfl,A,C⟩;have i:Hid _:=c;have a0:Hid _:=A;clear c A C;go_wp2;go_meet
     case rel=>exact⟨some x,⟨_,_,rfl,a0⟩,i,p,fun y hy=>by cases hy;exact HX⟩
  case rest=>
  obtain⟨base,X,R,T,L⟩:=hcut;have G:=hI R;have B:Hid _:=T;have D:Hid _:=I base _ wc X L;have P:Hid _:=fun u j d W=>J base u j d W L;clear X R T L I J m q o;cases a:bL hostTell t base with
  |error n=>rw[a] at D B;clear a P;go_wp2_with fail;refine af D ?_;rintro e F ⟨c,rfl,s⟩;have i:=hI (G.out.trans (c.mono G.out.size));have a1:(n==0)=false:=(by rw[aL];exact s);clear c s;go_wp2;go_ret2;exact⟨by rw[B.out];rfl,i⟩
  |ok u=>rw[a] at D B;have Z:Hid _:=fun j d W h=>P u j d W a h;clear a P;go_wp2_with fail;refine af D ?_;rintro e F ⟨c,d,rfl,A,C⟩;have i:=hI (G.out.trans (c.mono G.out.size));have a5:Hid _:=Z _ d F C;clear c A C Z;go_wp2_with fail;refine af a5 ?_;rintro e w2 ⟨rfl,S⟩;have a4:=hI (i.out.trans (S.mono i.out.size));clear S;go_wp2;go_ret2;exact⟨by rw[B.out];rfl,a4⟩
def MR (w:World) (res:Except Int Adr) (e:Ending) (w':World):Prop:=
 Below w.heap.size w w'/\match res with
 | .ok u=>∃j pv,e=.returned (.tuple #[.pointer (some ⟨j,0,none⟩),.int .i64 0])/\Tryz.UAt w' j u pv/\Small 20000 4100 u/\eJ u/\w.heap.size<=j
 | .error er=>e=.returned (.tuple #[.pointer none,.int .i64 er])/\er≠0
theorem tG (t:Bs) (w:World) (o:t.length<=maxLen):Calls prog 72 #[.string ⟨t.toArray⟩] w fun e w'=>MR w (da t) e w':=by
 have y:=al t;unfold maxLen at o;by_cases i:2000<t.length
 .have f:Hid (da t=.error 1):=hI (by unfold da;rw[ae i])
  rw[f.out];generalize(⟨t.toArray⟩:ByteArray)=g at*;have p:(2000:Int)<(g.size:Int):=by omega
  go_enter func72,ntmps72;go_wp2;go_ret2;exact⟨ai _ _,rfl,by decide⟩
 .have f:Hid (da t=bL hostTell t none):=hI (by unfold da;rw[ab i])
  have b:=hI fun W=>tC t (.pointer none) none W rfl tF (aR _) (by omega);have j:Hid (∀x,bL hostTell t none=.ok x->eJ x/\Small 20000 4100 x):=by intro x m;have s:=kj t none 20000 0 x (by omega) (by simp) m;exact⟨Af t x m,Aj s (by omega)⟩
  rw[f.out];generalize(⟨t.toArray⟩:ByteArray)=g at*;have p:¬(2000:Int)<(g.size:Int):=by omega
  cases h:bL hostTell t none with
  |error n=>rw[h] at b;go_enter func72,ntmps72;go_wp21;refine af (b _) ?_;rintro e c ⟨d,rfl,q⟩;have a:Hid (Bl w c/\n≠0):=⟨d,q⟩;go_wp2;go_ret2;exact⟨a.out.1,rfl,a.out.2⟩
  |ok u=>have l:Hid _:=j u h;rw[h] at b;clear j;go_enter func72,ntmps72;go_wp21;refine af (b _) ?_;rintro e c ⟨d,k,rfl,v,r⟩;have a:Hid (Bl w c/\UAt c w.hz u k):=⟨d,r⟩;go_wp2;go_ret2;exact⟨a.out.1,_,k,rfl,a.out.2,l.out.2,l.out.1,.refl⟩
theorem cutScheme_len (t:Bs):(aU t).1.length<=t.length:=by
 unfold aU;cases h:aN 58 t with
 |none=>simp
 |some p=>
  obtain⟨a,b⟩:=p;have:=cutB_parts 58 t a b h;simp only;split
  .grind[lower_len]
  .simp
theorem FF (p:Int) (s:Bs) (h:p= -1\/(0<=p/\p<=65535)):eZ p s= -1\/(0<=eZ p s/\eZ p s<=65535):=by grind[eZ]
theorem wP (c:UInt8) (v:Bs):(cX c v).length<=v.length:=by
 cases v with
 |nil=>simp[cX]
 |cons b l=>show List.length (if b=c then l else b::l)<=_;split<;>simp
theorem wQ (c:UInt8) (s:Int) (v:Bs):((eD c s v).getD []).length<=3*v.length:=by
 unfold eD;split
 .simp
 .have:=ng s (some (cX c v))
  have a:=wP c v;simp only[kd,BC] at this⊢;omega
theorem wR {a b:Adr} {p:Int} {v:Bs} {N M:Nat} (c:Small N M a) (j:v.length<=2000) (h:dn hostTell a p v=.ok b) (k:20000<=N:=by omega) (l:4100<=M:=by omega):Small N M b:=by
 have g:∀s:Int,(ah s v).length<=6000:=λs=>by
  have:=ng s (some v);simp only[kd,BC] at this;omega
 unfold dn at h;split at h
 .unfold ix at h
  simp only at h;split at h
  .cases h
  .split at h
   .cases h
   .injection h with h
    subst h;have:=cutScheme_len (v++ [58]);simp only[cC,dL,gK] at this;exact⟨bu this (by omega),c.e,c.d,c.h,FF _ _ c.p,c.text,c.count,c.g,c.q,c.f⟩
 .split at h
  .unfold gu at h
   split at h
   .cases h
   .split at h
    .injection h with h
     subst h;exact⟨c.s,bu (g 5) (by omega),c.d,c.h,c.p,c.text,c.count,c.g,c.q,c.f⟩
    .split at h
     .injection h with h
      subst h;exact⟨c.s,c.e,bu (g 5) (by omega),c.h,c.p,c.text,c.count,c.g,c.q,c.f⟩
     .split at h
      .cases h
      .rename_i n i
       injection h with h;subst h;exact⟨c.s,c.e,c.d,c.h,uT _ _ _ i,c.text,c.count,c.g,c.q,c.f⟩
  .split at h
   .unfold gg at h
    split at h
    .cases h
    .split at h
     .cases h
     .split at h
      .cases h
      .rename_i x d
       injection h with h;subst h;have f:x.length<=3*v.length+90:=by
        unfold jQ at d;split at d
        .simp_all[uW]
        .exact rg _ _ _ d
       exact⟨c.s,c.e,c.d,bu f (by omega),c.p,c.text,c.count,c.g,c.q,c.f⟩
   .split at h
    .unfold iU at h
     split at h
     .cases h
     .split at h
      .cases h
      .injection h with h
       subst h;have f:=oH a.s v;have e:=jh a.s [] (aq a.s v) 10000 0 (by omega) (by simp) (by simp);exact⟨c.s,c.e,c.d,c.h,c.p,bu e.text (by omega),bu e.count (by omega),λx d=>bu (e.g x d) (by omega),c.q,c.f⟩
    .split at h
     .injection h with h
      subst h;exact⟨c.s,c.e,c.d,c.h,c.p,c.text,c.count,c.g,bu (wQ _ _ _) (by omega),c.f⟩
     .split at h
      .injection h with h
       subst h;exact⟨c.s,c.e,c.d,c.h,c.p,c.text,c.count,c.g,c.q,bu (wQ _ _ _) (by omega)⟩
      .cases h
def hE (k:Nat) (o:Except Int Adr) (e:Ending) (w':World):Prop:=
 match o with
 | .error n=>CD n e
 | .ok b=>e=.returned .nilIface/\∃u,w'.heap[k]?=some (.cells (av b u) 77 (0,0))/\bh w' u b.w.g
def pa (a:Adr) (t:Bs):Except Int Adr:=
 match cV t a.s with
 |none=>.error 5
 |some p=>.ok {a with t:={a.t with p:=p}}
theorem Ek (k:Nat) (a:Adr) (v:Value) (t:Bs) (w:World) (o:t.length<4294967281) (g:w.heap[k]?=some (.cells (av a v) 77 (0,0))) (l:bh w v a.w.g) (u:Env2 w):Calls prog 160 #[.pointer (some ⟨k,0,none⟩),.string ⟨t.toArray⟩] w fun e w'=>But k w w'/\hE k (pa a t) e w':=by
 have d:=hI (uP t a.s w o u);have n:=(aT.1 g).1;have s:Hid (∀b,Bl w b->b.heap[k]?=some (.cells (av a v) 77 (0,0))):=fun b h=>(h.block k n).trans g;have q:Hid (∀b,But k w b->bh b v a.w.g):=fun b h=>gp l h (iO l.2 g (by decide));have C:Ce w k 0 (Sv a.s):=aa g 0;unfold pa;cases m:cV t a.s with
 |none=>rw[m] at d;go_enter func160,ntmps160;go_wp21;refine d.out.mono ?_;rintro e b ⟨⟨x,y,E,D,rfl⟩,c⟩;go_wp2;go_ret;exact⟨But.of_below c,_,_,_,_,rfl⟩
 |some p=>rw[m] at d;go_enter func160,ntmps160;go_wp21;refine d.out.mono ?_;rintro e b ⟨i,c⟩;have i:e=.returned (.tuple #[Iv p,.nilIface]):=i;subst i;have f:=s b c;have r:=hI f;have z:=hI c;have A:Ce b k 5 (Iv a.t.p):=aa f 5;have B:=aj f 5;clear f c;go_wp2;go_ret;have j:But k w (b.setCell (Ad k 5) (Iv p)):=(But.of_below z).setCell 5 _;exact⟨j,rfl,v,aD b k 5 _ 77 (Iv p) r,q _ j⟩
theorem wd (p:Int) (h: -9223372036854775808<=p) (b:p<=9223372036854775807) (w:World) (a:Env2 w):Calls prog 106 #[.int .i64 p] w λe w'=>(∃x:ByteArray,e=.returned (.string x))/\Bl w w':=by refine mR (strconv_Itoa p (by omega) (by omega) w a.env.pow10) ?_;rintro w' ⟨k,c,rfl⟩;exact⟨⟨_,rfl⟩,below_grow _ _ _⟩
theorem El (k:Nat) (a:Adr) (v:Value) (p:Int) (t:Bs) (w:World) (u:t.length<4294967281) (L:p=2\/p=3\/p=5) (g:w.heap[k]?=some (.cells (av a v) 77 (0,0))) (o:bh w v a.w.g) (l:Env3 w):Calls prog 99 #[.pointer (some ⟨k,0,none⟩),.int .i64 p,.string ⟨t.toArray⟩] w fun e w'=>But k w w'/\hE k (gu a p t) e w':=by
 have N:=(aT.1 g).1;have a1:=l.env2.env.size;have K:Hid (∀c,Bl w c->c.heap[k]?=some (.cells (av a v) 77 (0,0))):=fun c i=>(i.block k N).trans g;have H:Hid (∀c,But k w c->bh c v a.w.g):=fun c i=>gp o i (iO o.2 g (by decide));have h0:Ce w k 0 (.string ⟨a.s.toArray⟩):=aa g 0;have h4:Ce w k 4 (.string ⟨a.t.h.toArray⟩):=aa g 4;by_cases m:a.t.h=[]\/a.s=sFile
 .have V:Hid (∀c,Bl w c->Calls prog 106 #[Iv p] c fun e w'=>(∃x:ByteArray,e=.returned (.string x))/\Bl w w'):=by
   intro c i;refine(wd p (by omega) (by omega) c (l.env2.below i)).mono ?_;rintro e w' ⟨T,d⟩;exact⟨T,i.trans (d.mono i.size)⟩
  have Q:Hid (gu a p t=.error 6):=by show _=_;unfold gu;rw[ae m]
  obtain⟨s,r,X⟩:=l.eBare;have O:Hid (∀(x:ByteArray) W,C0 105 #[.string ⟨#[112,97,114,116]⟩,.string x,.iface s r] W (.iface 96 (.agg #[Iv 6,.string ⟨#[112,97,114,116]⟩,.string x,.iface s r]))):=fun x W=>ni _ x s r W;have R:Hid (∀c,Bl w c->Ce c 9 0 (.iface s r)):=fun c i=>(i.cell (p:=(Ad 9 0)) (show 9<w.heap.size by omega)).trans X;have I:((⟨a.t.h.toArray⟩:ByteArray).toList.isEmpty=true)\/((⟨a.t.h.toArray⟩:ByteArray).toList.isEmpty=false/\((⟨a.s.toArray⟩:ByteArray).toList==[102,105,108,101])=true):=by
   rw[cG,cG];obtain h|h:=m
   .left;simp[h]
   .cases hh:a.t.h with
    |nil=>left;rfl
    |cons=>right;exact⟨rfl,by rw[h];rfl⟩
  have U:Hid _:=I;generalize(⟨a.t.h.toArray⟩:ByteArray)=d at*;generalize(⟨a.s.toArray⟩:ByteArray)=sb at*;generalize(⟨t.toArray⟩:ByteArray)=tb at*;clear m g o l u L I;go_enter func99,ntmps99;rcases U with J|⟨J,S⟩;all_goals
   go_upto_region 2 with fail;go_region_held3 (fun w'=>w'.cell? ⟨9,0,none⟩=some (.iface s r)) (go_keep) (first|(go_at_call 106;refine af (V.out _ (by first|exact ai _ _|exact du rfl rfl rfl rfl)) ?_;rintro e c ⟨⟨x,rfl⟩,f⟩;have M:Hid (Below w.heap.size w c):=f;clear f;have Z:=R.out c M.out)|(go_at_call 105;refine af (O.out _ _) ?_;rintro e W0 ⟨rfl,F⟩;have F:=F.symm;subst F))
   all_goals
    go_wp2;go_ret;rw[Q.out];exact⟨But.of_below M,_,_,_,_,rfl⟩
 .have B:=fun h=>m (.inl h)
  have A:=fun h=>m (.inr h);have J:=io _ B;have S:((⟨a.s.toArray⟩:ByteArray).toList==[102,105,108,101])=false:=gt _ _ A;have E:=hI (lu ⟨t.toArray⟩ 5 w (by grind[al]) l.env2.env.sets (by omega));have C:=hI (Ek k a v t w u g o l.env2);unfold gu;rw[ab m];generalize(⟨a.t.h.toArray⟩:ByteArray)=a0 at*;generalize(⟨a.s.toArray⟩:ByteArray)=Y at*;obtain rfl|rfl|rfl:=L
  .rw[ae rfl]
   clear C m g o l u B A;go_enter func99,ntmps99;go_wp2_with fail;refine mR E.out fun c f=>?_;have j:=K c f;have D:=hI j;have z:=hI f;have d1:Ce c k 1 (.string ⟨a.t.e.toArray⟩):=aa j 1;have f1:=aj j 1;clear j f;go_wp2;go_ret;have d:But k w (c.setCell (Ad k 1) (.string ⟨(ah 5 t).toArray⟩)):=(But.of_below z).setCell 1 _;exact⟨d,rfl,v,aD c k 1 _ 77 _ D,H _ d⟩
  .rw[ab (by decide),ae rfl]
   clear C m g o l u B A;go_enter func99,ntmps99;go_wp2_with fail;refine mR E.out fun c f=>?_;have j:=K c f;have D:=hI j;have z:=hI f;have d2:Ce c k 2 (.string ⟨a.t.d.toArray⟩):=aa j 2;have f2:=aj j 2;clear j f;go_wp2;go_ret;have d:But k w (c.setCell (Ad k 2) (.string ⟨(ah 5 t).toArray⟩)):=(But.of_below z).setCell 2 _;exact⟨d,rfl,v,aD c k 2 _ 77 _ D,H _ d⟩
  .rw[ab (by decide),ab (by decide)]
   show Calls _ _ _ _ fun e w'=>But k w w'/\hE k (pa a t) e w';clear E m g o l u B A;go_enter func99,ntmps99;go_wp2_with fail;refine C.out.mono ?_;rintro e c ⟨d,q⟩;obtain⟨x,rfl⟩:∃x,e=.returned x:=by
    cases G:pa a t with
    |error n=>rw[G] at q;obtain⟨x,y,s,r,rfl⟩:=q;exact⟨_,rfl⟩
    |ok b=>rw[G] at q;exact⟨_,q.1⟩
   have z:=hI d;have P:=hI q;clear d q;go_wp2;go_ret;exact⟨z,P⟩
theorem Em (k:Nat) (a:Adr) (v:Value) (t:Bs) (w:World) (ht:t.length<=100000) (q:w.heap[k]?=some (.cells (av a v) 77 (0,0))) (F:bh w v a.w.g) (m:Env3 w):Calls prog 98 #[.pointer (some ⟨k,0,none⟩),.string ⟨t.toArray⟩] w fun e w'=>But k w w'/\hE k (ix a t) e w':=by
 have a8:=(aT.1 q).1;have c8:=m.env2.env.size;have A:Hid (∀b,Bl w b->b.heap[k]?=some (.cells (av a v) 77 (0,0))):=fun b c=>(c.block k a8).trans q;have HS:Hid (∀b,But k w b->bh b v a.w.g):=fun b c=>gp F c (iO F.2 q (by decide));have K:=hI (aP t [58]);have a3:=al t;have c6:(⟨#[58]⟩:ByteArray).size=1:=rfl;have g0:∀W:World,(Op.stringOp .add ⟨t.toArray⟩ ⟨#[58]⟩).run prog W=.ok (.string ⟨(t++ [58]).toArray⟩) W:=fun W=>by
  rw[<-K.out];exact bm W _ _ (by omega)
 have J:Hid (CB 151 #[.string ⟨(t++ [58]).toArray⟩] w (.tuple #[.string ⟨(aU (t++ [58])).1.toArray⟩,.string ⟨(aU (t++ [58])).2.toArray⟩])):=by have h:=vO (⟨(t++ [58]).toArray⟩:ByteArray) w (by grind[al]) m.env2.env;exact h
 have N:Hid (∀(s:Bs) W,C0 126 #[.string ⟨s.toArray⟩] W (.bool (ao s))):=fun s W=>iw ⟨s.toArray⟩ W;have a1:Hid (∀(s:Bs) W,C0 159 #[Iv a.t.p,.string ⟨s.toArray⟩] W (Iv (eZ a.t.p s))):=fun s W=>uO a.t.p s W;have U:=hI fun x y te ve W=>ni x y te ve W;unfold ix;simp only;generalize a4:(aU (t++ [58])).1=d at*;generalize(⟨(aU (t++ [58])).2.toArray⟩:ByteArray)=c7 at*;obtain⟨b7,a9,I⟩:=m.eScheme;obtain⟨b0,c4,H⟩:=m.eKind;have b4:Hid (∀b,Bl w b->Ce b 7 0 (.iface b7 a9)):=fun b c=>(c.cell (p:=(Ad 7 0)) (show 7<w.heap.size by omega)).trans I;have b9:Hid (∀b,Bl w b->Ce b 8 0 (.iface b0 c4)):=fun b c=>(c.cell (p:=(Ad 8 0)) (show 8<w.heap.size by omega)).trans H;by_cases B:d=[]
 .rw[ae B]
  subst B;generalize(⟨t.toArray⟩:ByteArray)=V at*;generalize(⟨(t++ [58]).toArray⟩:ByteArray)=c5 at*;clear q F m ht I H K a4 a3;go_enter func98,ntmps98;go_wp2_with fail;refine mR J.out fun b o=>?_;have hg:=b4 b o;go_wp2_with(go_at_call 105;refine af (U _ _ _ _ _) ?_;rintro e W0 ⟨rfl,f⟩;have f:=f.symm;subst f);go_wp2;go_ret;exact⟨But.of_below o,_,_,_,_,rfl⟩
 .rw[ab B]
  have c1:=io _ B;have L:Hid (∀x:Bs,((⟨x.toArray⟩:ByteArray).toList==[102,105,108,101])=decide (x=sFile)):=by
   intro x;by_cases h:x=sFile
   .rw[cG,h];rfl
   .rw[gt _ _ h];simp[h]
  have f1:=L d;have f2:=L a.s;generalize c0:decide (d=sFile)=g at*;generalize b5:decide (a.s=sFile)=i at*;have a5:=N d;have a7:=N a.s;generalize c3:ao d=l at*;generalize c2:ao a.s=j at*;have O:=hI a5;have M:=hI a7;have T:=hI (a1 d);have D:Hid (∀b,Bl w b->Ce b k 0 (.string ⟨a.s.toArray⟩)/\Ce b k 5 (Iv a.t.p)/\b.frozen? (Ad k 0)=false/\b.frozen? (Ad k 5)=false):=fun b c=>⟨aa (A b c) 0,aa (A b c) 5,aj (A b c) 0,aj (A b c) 5⟩;obtain⟨sb,a0⟩:=am (⟨a.s.toArray⟩:ByteArray);obtain⟨nb,R⟩:=am (⟨d.toArray⟩:ByteArray);have b8:=hI R;rw[<-a0] at M D f2;rw[<-R] at O T J c1 f1;obtain⟨po,Q⟩:=am (a.t.p:Int);rw[<-Q] at T D;generalize a2:eZ po d=pp at*;rw[Q] at a2;generalize(⟨t.toArray⟩:ByteArray)=V at*;generalize(⟨(t++ [58]).toArray⟩:ByteArray)=c5 at*;clear q F m ht I H K a4 a3 N a5 a7 a1 L c0 b5 c3 c2 a0 Q R;suffices b6:∀C:Except Int Adr,Hid (l≠j\/g≠i->C=Except.error 6)->Hid (¬(l≠j\/g≠i)->C=Except.ok {a with s:=d,t:={a.t with p:=eZ a.t.p d}})->Calls prog 98 #[Pt k,.string V] w fun e w'=>But k w w'/\hE k C e w' from b6 _ (fun h=>ae h) (fun h=>ab h)
  intro C G P;go_enter func98,ntmps98;go_wp2_with fail;refine mR J.out fun b o=>?_;have Y:=hI o;obtain⟨Z,d5,r0,r5⟩:=D b o;clear o;go_upto_region 4 with fail;go_cut [35] (fun x wx=>x=.bool ((l !=j)||(g !=i))/\∃n,wx=b.drewN n)
  case first=>
   as_aux_lemma=>
    cases l<;>cases j<;>cases g<;>cases i
    all_goals
     go_quiet ((first|(go_at_call_of 126 (Value.string nb);exact qH (O _))|(go_at_call_of 126 (Value.string sb);exact qH (M _))));go_wp2_with(first|(go_at_call_of 126 (Value.string nb);refine(O _).mono ?_;rintro e W0 ⟨rfl,f⟩;have f:=f.symm;subst f)|(go_at_call_of 126 (Value.string sb);refine(M _).mono ?_;rintro e W0 ⟨rfl,f⟩;have f:=f.symm;subst f));go_meet;exact⟨rfl,_,rfl⟩
  case rest=>
  obtain⟨E,nq,a6⟩:=hcut;have u:Hid (Bl w wc):=by show Below _ _ _;rw[a6];exact cr Y nq
  have b2:((l≠j\/g≠i)/\((l !=j)||(g !=i))=true)\/(¬(l≠j\/g≠i)/\((l !=j)||(g !=i))=false):=by cases l<;>cases j<;>cases g<;>cases i<;>simp
  clear a6 Z d5 r0 r5 Y;obtain⟨z,r⟩|⟨z,r⟩:=b2
  .rw[r] at E
   subst E;have S:=G z;subst S;have hg:=b9 wc u;clear z r G P;go_wp2_with fail;refine m0 (U _ _ _ _ _) ?_;go_wp2;go_ret;exact⟨But.of_below u,_,_,_,_,rfl⟩
  .rw[r] at E
   subst E;have S:=P z;subst S;obtain⟨Z,d5,r0,r5⟩:=D wc u;have b3:=hI (A wc u);clear z r G P;go_wp2_with fail;refine m0 (T _) ?_;go_wp2;go_ret;rw[b8.out];have X:But k w ((wc.setCell (Ad k 0) (.string ⟨d.toArray⟩)).setCell (Ad k 5) (Iv pp)):=((But.of_below u).setCell 0 _).setCell 5 _;refine⟨X,rfl,v,?_,HS _ X⟩;have:=aD _ k 5 _ 77 (Iv pp) (aD wc k 0 _ 77 (.string ⟨d.toArray⟩) b3);rw[<-a2] at this⊢;exact this
theorem En (t a:Bs) (w:World) (q:t.length<=100000) (g:Env2 w):Calls prog 162 #[.string ⟨t.toArray⟩,.string ⟨a.toArray⟩] w fun e w'=>lN 4 (jQ hostTell t a) e/\Bl w w':=by
 unfold jQ;by_cases d:a=sFile
 .rw[ae d]
  have n:((⟨a.toArray⟩:ByteArray).toList==[102,105,108,101])=true:=by rw[cG,d];rfl
  have f:=hI (vi t w (by omega) g);generalize dQ hostTell t=o at*;generalize(⟨a.toArray⟩:ByteArray)=i at*;generalize(⟨t.toArray⟩:ByteArray)=h at*;go_enter func162,ntmps162;go_wp21;refine f.out.mono ?_;rintro e p ⟨b,c⟩;cases o with
  |none=>obtain⟨x,y,m,k,rfl⟩:=b;go_wp2;go_ret2;exact⟨⟨_,_,_,_,rfl⟩,c⟩
  |some l=>have b:e=.returned (.tuple #[.string ⟨l.toArray⟩,.nilIface]):=b;subst b;go_wp2;go_ret2;exact⟨rfl,c⟩
 .rw[ab d]
  have n:((⟨a.toArray⟩:ByteArray).toList==[102,105,108,101])=false:=gt _ _ d;have j:=hI (iw ⟨a.toArray⟩ w);have f:=hI (rH ⟨t.toArray⟩ (ao a) w (by grind[al]) g.env g.tz);generalize hostTell t (ao a)=o at*;generalize ao a=r at*;generalize(⟨a.toArray⟩:ByteArray)=i at*;generalize(⟨t.toArray⟩:ByteArray)=h at*;go_enter func162,ntmps162;go_wp21;refine m0 j.out ?_;go_wp21;refine f.out.mono ?_;rintro e p ⟨b,c⟩;cases o with
  |none=>obtain⟨m,k,rfl⟩:=b;go_wp2;go_ret2;exact⟨⟨_,_,_,_,rfl⟩,c⟩
  |some l=>have b:e=.returned (.tuple #[.string ⟨l.toArray⟩,.nilIface]):=b;subst b;go_wp2;go_ret2;exact⟨rfl,c⟩
theorem Eo (a:Auth) (w:World):Calls prog 161 #[.agg (dP a)] w fun e w'=>e=.returned (.bool (!a.e.isEmpty||!a.d.isEmpty||decide (a.p≠ -1)))/\Bl w w':=by
 have n:(⟨a.e.toArray⟩:ByteArray).toList.isEmpty=a.e.isEmpty:=ir _;have q:(⟨a.d.toArray⟩:ByteArray).toList.isEmpty=a.d.isEmpty:=ir _;unfold dP;generalize a.e.isEmpty=m at*;generalize a.d.isEmpty=j at*;generalize(⟨a.e.toArray⟩:ByteArray)=i at*;generalize(⟨a.d.toArray⟩:ByteArray)=h at*;generalize(⟨a.h.toArray⟩:ByteArray)=k at*;generalize a.p=c at*;obtain⟨W,g⟩:=am (w.alloc (.cells #[.string i,.string h,.bool a.has,.string k,Iv c] 71));have f:Hid (Bl w W):=by show Below _ _ _;rw[g];exact(ai _ _).alloc .refl _
 have hz:W.heap[w.heap.size]?=some (.cells #[.string i,.string h,.bool a.has,.string k,Iv c] 71 (0,0)):=by rw[g];exact cj w _ _
 have r:Ce W w.heap.size 0 (.string i):=aa hz 0;have p:Ce W w.heap.size 1 (.string h):=aa hz 1;have o:Ce W w.heap.size 4 (Iv c):=aa hz 4;clear hz;go_enter func161,ntmps161;go_upto_region 1 with fail;rw[<-g];clear g;by_cases d:m=true
 .subst d
  by_cases b:j=true
  .subst b
   by_cases l:c= -1
   .subst l
    go_wp2;go_ret;exact⟨rfl,f⟩
   .go_wp2
    go_ret;refine⟨?_,f⟩;simp[l]
  .have b:j=false:=by simpa using b
   subst b;go_wp2;go_ret;exact⟨rfl,f⟩
 .have d:m=false:=by simpa using d
  subst d;go_wp2;go_ret;exact⟨rfl,f⟩
theorem Ep (k:Nat) (a:Adr) (v:Value) (t:Bs) (w:World) (Q:t.length<=100000) (E:w.heap[k]?=some (.cells (av a v) 77 (0,0))) (J:bh w v a.w.g) (A:Env3 w):Calls prog 100 #[.pointer (some ⟨k,0,none⟩),.string ⟨t.toArray⟩] w fun e w'=>But k w w'/\hE k (gg hostTell a t) e w':=by
 have a7:=(aT.1 E).1;have b5:=A.env2.env.size;have i:Hid (∀b,Bl w b->b.heap[k]?=some (.cells (av a v) 77 (0,0))):=fun b c=>(c.block k a7).trans E;have T:Hid (∀b,But k w b->bh b v a.w.g):=fun b c=>gp J c (iO J.2 E (by decide));have HP:=hI fun x y L P W=>ni x y L P W;have I:=hI fun W=>iw ⟨a.s.toArray⟩ W;have N:Hid (∀W,CB 161 #[.agg #[.string ⟨a.t.e.toArray⟩,.string ⟨a.t.d.toArray⟩,.bool a.t.has,.string ⟨a.t.h.toArray⟩,Iv a.t.p]] W (.bool (!a.t.e.isEmpty||!a.t.d.isEmpty||decide (a.t.p≠ -1)))):=fun W=>Eo a.t W;have K:Hid (∀b,Bl w b->Calls prog 162 #[.string ⟨t.toArray⟩,.string ⟨a.s.toArray⟩] b fun e w'=>lN 4 (jQ hostTell t a.s) e/\Bl w w'):=by intro b c;refine(En t a.s b Q (A.env2.below c)).mono ?_;rintro e w' ⟨he,Y⟩;exact⟨he,c.trans (Y.mono c.size)⟩
 have G:Hid (∀b,Bl w b->Ce b k 0 (.string ⟨a.s.toArray⟩)/\Ce b k 1 (.string ⟨a.t.e.toArray⟩)/\Ce b k 2 (.string ⟨a.t.d.toArray⟩)/\Ce b k 3 (.bool a.t.has)/\Ce b k 4 (.string ⟨a.t.h.toArray⟩)/\Ce b k 5 (Iv a.t.p)/\Ce b k 6 (.bool a.w.o)/\b.frozen? (Ad k 3)=false/\b.frozen? (Ad k 4)=false):=fun b c=>⟨aa (i b c) 0,aa (i b c) 1,aa (i b c) 2,aa (i b c) 3,aa (i b c) 4,aa (i b c) 5,aa (i b c) 6,aj (i b c) 3,aj (i b c) 4⟩;obtain⟨b4,b6,a1⟩:=A.eOpaq;obtain⟨b3,b0,R⟩:=A.eBeside;have a8:Hid (∀b,Bl w b->Ce b 11 0 (.iface b3 b0)):=fun b c=>(c.cell (p:=(Ad 11 0)) (show 11<w.heap.size by omega)).trans R;have a4:=ir t;obtain⟨m,u,n,s,o,q,j,_,_⟩:=G w (ai _ _);unfold gg;by_cases C:a.w.o=true
 .rw[ae C]
  rw[C] at j;generalize(⟨t.toArray⟩:ByteArray)=tb at*;clear E J A Q R K N I m u n s o q;go_enter func100,ntmps100;go_wp2_with fail;refine af (HP _ _ _ _ _) ?_;rintro e U ⟨rfl,B⟩;obtain rfl:=B.symm;go_wp2;go_ret;exact⟨But.of_below (ai _ _),_,_,_,_,rfl⟩
 .rw[ab C]
  have C:a.w.o=false:=by simpa using C
  rw[C] at j;have M:Hid ((t=[]/\ao a.s=false/\(a.t.e≠[]\/a.t.d≠[]\/a.t.p≠ -1))↔(t.isEmpty=true/\ao a.s=false/\(!a.t.e.isEmpty||!a.t.d.isEmpty||decide (a.t.p≠ -1))=true)):=by show _↔_;simp only[ol,qO,Bool.not_eq_true',kX,or_assoc,BD]
  generalize(!a.t.e.isEmpty||!a.t.d.isEmpty||decide (a.t.p≠ -1))=qb at*;generalize t.isEmpty=O at*;obtain⟨tb,X⟩:=am (⟨t.toArray⟩:ByteArray);rw[<-X] at K a4⊢;by_cases D:t=[]/\ao a.s=false/\(a.t.e≠[]\/a.t.d≠[]\/a.t.p≠ -1)
  .rw[ae D]
   obtain⟨a2,a5,a0⟩:=M.out.1 D;rw[a2] at a4;rw[a5] at I;rw[a0] at N;generalize(⟨a.s.toArray⟩:ByteArray)=sb at*;generalize(⟨a.t.e.toArray⟩:ByteArray)=ub at*;generalize(⟨a.t.d.toArray⟩:ByteArray)=pb at*;generalize(⟨a.t.h.toArray⟩:ByteArray)=Y at*;clear E J A Q a1 R K D a2 a5 a0 M X;go_enter func100,ntmps100;go_wp2_with fail;refine af (I _) ?_;rintro e U ⟨rfl,B⟩;obtain rfl:=B.symm;go_wp2_with fail;refine af (N _) ?_;rintro e b ⟨rfl,F⟩;have hg:=a8 b F;go_wp2_with fail;refine af (HP _ _ _ _ _) ?_;rintro e U ⟨rfl,B⟩;obtain rfl:=B.symm;go_wp2;go_ret;exact⟨But.of_below F,_,_,_,_,rfl⟩
  .rw[ab D]
   have a6:=fun h=>D (M.out.2 h);have a3:Hid _:=a6;have S:=hI K;generalize ao a.s=V at*;generalize jQ hostTell t a.s=oh at*;have Z:Hid (∀b (l:Bs),Below w.heap.size w b->((b.setCell ⟨k,3,none⟩ (.bool true)).setCell ⟨k,4,none⟩ (.string ⟨l.toArray⟩)).heap[k]?=some (.cells (av {a with t:={a.t with has:=true,h:=l}} v) 77 (0,0))):=fun b l c=>aD _ k 4 _ 77 _ (aD b k 3 _ 77 (.bool true) (i.out b c));generalize(⟨a.s.toArray⟩:ByteArray)=sb at*;generalize(⟨a.t.e.toArray⟩:ByteArray)=ub at*;generalize(⟨a.t.d.toArray⟩:ByteArray)=pb at*;generalize(⟨a.t.h.toArray⟩:ByteArray)=Y at*;clear E J A Q a1 R K D a6 M X;have a9:O=false\/(O=true/\V=true)\/(O=true/\V=false/\qb=false):=(by cases O<;>cases V<;>cases qb<;>simp_all [a3.out]);clear a3;rcases a9 with rfl|⟨rfl,rfl⟩|⟨rfl,rfl,rfl⟩
   .have H:Hid (Bl w w):=ai _ _
    go_enter func100,ntmps100;go_wp2_with fail;refine af (S _ H) ?_;rintro e g ⟨d,f⟩;cases oh with
    |none=>obtain⟨x,y,L,P,rfl⟩:=d;clear m u n s o q j;go_wp2;go_ret;exact⟨But.of_below f,_,_,_,_,rfl⟩
    |some l=>have d:e=.returned (.tuple #[.string ⟨l.toArray⟩,.nilIface]):=d;subst d;have r:=hI f;obtain⟨_,_,_,e3,e4,_,_,r3,r4⟩:=G g f;clear m u n s o q j f;go_wp2;go_ret;have z:But k w ((g.setCell (Ad k 3) (.bool true)).setCell (Ad k 4) (.string ⟨l.toArray⟩)):=((But.of_below r).setCell 3 _).setCell 4 _;exact⟨z,rfl,v,Z g l r,T _ z⟩
   .have H:Hid (Bl w w):=ai _ _
    go_enter func100,ntmps100;go_wp2_with fail;refine af (I _) ?_;rintro e U ⟨rfl,B⟩;obtain rfl:=B.symm;go_wp2_with fail;refine af (S _ H) ?_;rintro e g ⟨d,f⟩;cases oh with
    |none=>obtain⟨x,y,L,P,rfl⟩:=d;clear m u n s o q j;go_wp2;go_ret;exact⟨But.of_below f,_,_,_,_,rfl⟩
    |some l=>have d:e=.returned (.tuple #[.string ⟨l.toArray⟩,.nilIface]):=d;subst d;have r:=hI f;obtain⟨_,_,_,e3,e4,_,_,r3,r4⟩:=G g f;clear m u n s o q j f;go_wp2;go_ret;have z:But k w ((g.setCell (Ad k 3) (.bool true)).setCell (Ad k 4) (.string ⟨l.toArray⟩)):=((But.of_below r).setCell 3 _).setCell 4 _;exact⟨z,rfl,v,Z g l r,T _ z⟩
   .go_enter func100,ntmps100
    go_wp2_with fail;refine af (I _) ?_;rintro e w ⟨rfl,rfl⟩;go_wp2_with fail;refine af (N _) ?_;rintro e b ⟨rfl,F⟩;have H:=hI F;obtain⟨m,u,n,s,o,q,j,_,_⟩:=G b F;clear F;go_wp2_with fail;refine af (S _ H) ?_;rintro e g ⟨d,f⟩;cases oh with
    |none=>obtain⟨x,y,L,P,rfl⟩:=d;clear m u n s o q j;go_wp2;go_ret;exact⟨But.of_below f,_,_,_,_,rfl⟩
    |some l=>have d:e=.returned (.tuple #[.string ⟨l.toArray⟩,.nilIface]):=d;subst d;have r:=hI f;obtain⟨_,_,_,e3,e4,_,_,r3,r4⟩:=G g f;clear m u n s o q j f;go_wp2;go_ret;have z:But k w ((g.setCell (Ad k 3) (.bool true)).setCell (Ad k 4) (.string ⟨l.toArray⟩)):=((But.of_below r).setCell 3 _).setCell 4 _;exact⟨z,rfl,v,Z g l r,T _ z⟩
theorem Er (k:Nat) (a:Adr) (v:Value) (t:Bs) (w:World) (n:t.length<=100000) (b:w.heap[k]?=some (.cells (av a v) 77 (0,0))) (c:Env3 w):Calls prog 101 #[.pointer (some ⟨k,0,none⟩),.string ⟨t.toArray⟩] w fun e w'=>But k w w'/\hE k (iU a t) e w':=by
 have H:=(aT.1 b).1;have m:=hI fun x y L K W=>ni x y L K W;have q:Hid (Calls Tryz.prog 164 #[.string ⟨a.s.toArray⟩,.string ⟨t.toArray⟩] w fun e w'=>e=.returned (.string ⟨(aq a.s t).toArray⟩)/\Below w.heap.size w w'):=vp ⟨a.s.toArray⟩ ⟨t.toArray⟩ w (by rw[al];omega) c.env2.env;have l:Hid (∀f,Bl w f->Calls prog 163 #[Pt k,.slice none 0 0,.string ⟨(aq a.s t).toArray⟩] f fun e w'=>e=.returned (.tuple #[])/\But k w w'/\∃u,w'.heap[k]?=some (.cells (av {a with w:=aV a.s [] (aq a.s t)} u) 77 (0,0))/\bh w' u (bO a.s [] (aq a.s t))):=by intro f o;refine mR (km k a.s (aq a.s t) _ _ _ _ _ _ _ _ _ _ _ _ none 0 [] f (by grind[oH]) (by simp) (by simp) ((o.block k H).trans b) (by simp) (c.env2.below o)) ?_;rintro w' ⟨i,u,G,J⟩;exact⟨rfl,(But.of_below o).trans i,u,G,jN J⟩
 obtain⟨X,R,s⟩:=c.eOpaq;obtain⟨T,U,E⟩:=c.env2.eHost;have p:Ce w k 0 (.string ⟨a.s.toArray⟩):=aa b 0;have j:Ce w k 3 (.bool a.t.has):=aa b 3;have r:Ce w k 6 (.bool a.w.o):=aa b 6;have z:=ir t;unfold iU;by_cases d:a.w.o=true
 .rw[ae d]
  rw[d] at r;generalize(⟨t.toArray⟩:ByteArray)=A at*;clear b c n E q l p j;go_enter func101,ntmps101;go_wp2_with fail;refine m0 (m _ _ _ _ _) ?_;go_wp2;go_ret;exact⟨But.of_below (ai _ _),_,_,_,_,rfl⟩
 .rw[ab d]
  have d:a.w.o=false:=by simpa using d
  rw[d] at r;by_cases h:a.t.has=false/\t=[]
  .rw[ae h]
   have I:t.isEmpty=true:=(by rw[h.2];rfl);rw[I] at z;rw[h.1] at j;generalize(⟨t.toArray⟩:ByteArray)=A at*;clear b c n s q l p;go_enter func101,ntmps101;go_wp2_with fail;refine m0 (m _ _ _ _ _) ?_;go_wp2;go_ret;exact⟨But.of_below (ai _ _),_,_,_,_,rfl⟩
  .rw[ab h]
   have g:a.t.has=true\/(a.t.has=false/\t.isEmpty=false):=by
    cases S:a.t.has with
    |true=>exact .inl rfl
    |false=>grind
   have F:Hid _:=g;generalize(⟨t.toArray⟩:ByteArray)=A at*;generalize(⟨a.s.toArray⟩:ByteArray)=Q at*;generalize(⟨(aq a.s t).toArray⟩:ByteArray)=V at*;clear b c n s E m g h;rcases F.out with g|⟨g,M⟩;all_goals
    rw[g] at j;try rw[M] at z
    clear F;go_enter func101,ntmps101;go_wp2_with fail;refine mR q.out fun f B=>?_;clear p j r;go_wp2_with fail;refine(l.out f B).mono ?_;rintro e P ⟨rfl,i,u,C,D⟩;have N:Hid (hE k (.ok {a with w:=aV a.s [] (aq a.s t)}) (.returned .nilIface) P):=⟨rfl,u,C,D⟩;have O:=hI i;clear i C D B;go_wp2;go_ret;exact⟨O,N⟩
theorem Es (c:UInt8) (set:Int) (v:Bs) (w:World) (d:v.length<=100000) (a:Env w):Calls prog 103 #[.agg #[.bool (!v.isEmpty),.string ⟨(cX c v).toArray⟩],.int .i64 set] w λe w'=>e=.returned (.agg #[.bool (eD c set v).isSome,.string ⟨((eD c set v).getD []).toArray⟩])/\Bl w w':=by
 have h:=ro (if v=[] then none else some (cX c v)) set w (by
  grind[wP]) a
 cases v with
 |nil=>exact h
 |cons b l=>exact h
theorem pc {k:Nat} {o:Except Int Adr} {e:Ending} {w':World} (h:hE k o e w'):∃x,e=.returned x:=by
 cases o with
 |error n=>obtain⟨x,y,c,a,rfl⟩:=h;exact⟨_,rfl⟩
 |ok b=>exact⟨_,h.1⟩
theorem Et (w:World) (k:Nat) (x y:Value):((w.setCell ⟨k,9,none⟩ x).setCell ⟨k,10,none⟩ y).cell? ⟨k,0,none⟩=w.cell? ⟨k,0,none⟩:=by
 have c:((Ad k 10):Go.Addr)≠(Ad k 0):=by simp
 have a:((Ad k 9):Go.Addr)≠(Ad k 0):=by simp
 refine Eq.trans (b:=(w.setCell (Ad k 9) x).cell? (Ad k 0)) ?_ ?_
 .simp[fB]
 .simp[fB]
theorem Eu (k:Nat) (a:Adr) (v:Value) (p:Int) (t:Bs) (w:World) (q:t.length<=100000) (r: -9223372036854775808<=p) (z:p<=9223372036854775807) (j:w.heap[k]?=some (.cells (av a v) 77 (0,0))) (n:bh w v a.w.g) (i:Env3 w):Calls prog 60 #[.pointer (some ⟨k,0,none⟩),.int .i64 p,.string ⟨t.toArray⟩] w fun e w'=>But k w w'/\hE k (dn hostTell a p t) e w':=by
 have a2:=(aT.1 j).1;have b3:=i.env2.env.size;have L:=hI (Em k a v t w q j n i);have E:=hI fun h=>El k a v p t w (by omega) h j n i;have J:=hI (Ep k a v t w q j n i);have I:=hI (Er k a v t w q j i);unfold dn;by_cases d:p=1
 .rw[ae d]
  subst d;generalize ix a t=o at*;generalize(⟨t.toArray⟩:ByteArray)=D at*;clear E J I j n i q r z;go_enter func60,ntmps60;go_wp2_with fail;refine L.out.mono ?_;rintro e b ⟨f,g⟩;obtain⟨x,rfl⟩:=pc g;have A:=hI f;have B:=hI g;clear f g;go_wp2;go_ret;exact⟨A,B⟩
 .rw[ab d]
  by_cases m:p=2\/p=3\/p=5
  .rw[ae m]
   have a3:Hid _:=E m;generalize gu a p t=o at*;generalize(⟨t.toArray⟩:ByteArray)=D at*;clear L E J I j n i q r z;obtain rfl|rfl|rfl:=m;all_goals
    go_enter func60,ntmps60;go_wp2_with fail;refine af a3.out ?_;rintro e b ⟨f,g⟩;obtain⟨x,rfl⟩:=pc g;have A:Hid (But k w b):=f;have B:Hid (hE k o (.returned x) b):=g;clear f g;go_wp2;go_ret;exact⟨A.out,B.out⟩
  .rw[ab m]
   have X:¬p=2:=fun h=>m (Or.inl h);have U:¬p=3:=fun h=>m (Or.inr (Or.inl h));have V:¬p=5:=fun h=>m (Or.inr (Or.inr h));by_cases F:p=4
   .rw[ae F]
    subst F;generalize gg hostTell a t=o at*;generalize(⟨t.toArray⟩:ByteArray)=D at*;clear L E I j n i q r z d m X U V;go_enter Tryz.func60,Tryz.ntmps60;go_wp2_with fail;refine J.out.mono ?_;rintro e b ⟨f,g⟩;obtain⟨x,rfl⟩:=pc g;have A:Hid (But k w b):=f;have B:Hid (hE k o (.returned x) b):=g;clear f g;go_wp2;go_ret;exact⟨A.out,B.out⟩
   .rw[ab F]
    by_cases Q:p=6
    .rw[ae Q]
     subst Q;generalize iU a t=o at*;generalize(⟨t.toArray⟩:ByteArray)=D at*;clear L E J j n i q r z d m X U V F;go_enter func60,ntmps60;go_wp2_with fail;refine I.out.mono ?_;rintro e b ⟨f,g⟩;obtain⟨x,rfl⟩:=pc g;have A:=hI f;have B:=hI g;clear f g;go_wp2;go_ret;exact⟨A,B⟩
    .rw[ab Q]
     clear L E J I;have l:Hid (∀b,Bl w b->b.heap[k]?=some (.cells (av a v) 77 (0,0))):=fun b d=>(d.block k a2).trans j;have HS:Hid (∀b,But k w b->bh b v a.w.g):=fun b d=>gp n d (iO n.2 j (by decide));have T:Hid (∀(c:UInt8) b,Bl w b->CQ 102 #[.string ⟨t.toArray⟩,.string ⟨#[c]⟩] b (.agg #[.bool (!t.isEmpty),.string ⟨(cX c t).toArray⟩]) (Below w.heap.size w)):=by intro c b d;refine mR (CG t c b) fun w' f=>?_;exact⟨rfl,d.trans (f.mono d.size)⟩
     have M:Hid (∀(c:UInt8) (s:Int) b,Bl w b->CQ 103 #[.agg #[.bool (!t.isEmpty),.string ⟨(cX c t).toArray⟩],Iv s] b (.agg #[.bool (eD c s t).isSome,.string ⟨((eD c s t).getD []).toArray⟩]) (Below w.heap.size w)):=(by intro c s b d;refine mR (Es c s t b q (i.env2.below d).env) fun w' f=>?_;exact⟨rfl,d.trans (f.mono d.size)⟩);by_cases Y:p=7
     .rw[ae Y]
      subst Y;have HQ:=hI fun W=>vL ⟨a.s.toArray⟩ W;have O:Hid (∀b,Bl w b->Ce b k 0 (.string ⟨a.s.toArray⟩)/\Ce b k 9 (.bool a.q.isSome)/\Ce b k 10 (.string ⟨(a.q.getD []).toArray⟩)/\b.frozen? (Ad k 9)=false/\b.frozen? (Ad k 10)=false):=fun b d=>⟨aa (l b d) 0,aa (l b d) 9,aa (l b d) 10,aj (l b d) 9,aj (l b d) 10⟩;have a0:Hid _:=T 63;have a1:Hid _:=M 63 (bE a.s);have Z:Hid (∀b,Bl w b->((b.setCell (Ad k 9) (.bool (eD 63 (bE a.s) t).isSome)).setCell (Ad k 10) (.string ⟨((eD 63 (bE a.s) t).getD []).toArray⟩)).heap[k]?=some (.cells (av {a with q:=eD 63 (bE a.s) t} v) 77 (0,0))):=fun b d=>aD _ k 10 _ 77 _ (aD b k 9 _ 77 _ (l b d));generalize eD 63 (bE a.s) t=S at*;generalize bE a.s=qs at*;generalize(⟨(cX 63 t).toArray⟩:ByteArray)=tm at*;generalize(⟨t.toArray⟩:ByteArray)=D at*;generalize t.isEmpty=qe at*;generalize(⟨a.s.toArray⟩:ByteArray)=sb at*;obtain⟨d0,_,_,_,_⟩:=O w (ai _ _);clear l T M j n i q r z d m X U V F Q;go_enter func60,ntmps60;go_upto_region 14 with fail;go_region_held3 (fun w'=>w'.cell? ⟨k,0,none⟩=some (.string sb)) (first|(go_keep;done)|(refine(Et _ k _ _).trans ?_;assumption)) (first|(go_at_call 102;refine af (a0.out _ (by first|exact ai _ _|exact du rfl rfl rfl rfl)) ?_;rintro e b ⟨rfl,y⟩;have K:Hid (Below w.heap.size w b):=y;clear y;obtain⟨b5,_,_,_,_⟩:=O.out b K.out)|(go_at_call 104;refine af (HQ.out _) ?_;rintro e W0 ⟨rfl,C⟩;have C:=C.symm;subst C)|(go_at_call 103;refine af (a1.out _ K.out) ?_;rintro e u ⟨rfl,G⟩;have H:Hid (Below w.heap.size w u):=G;clear G;obtain⟨a5,d9,a4,f9,a8⟩:=O.out u H.out))
      all_goals
       go_wp2;go_ret;have N:But k w ((u.setCell (Ad k 9) (.bool S.isSome)).setCell (Ad k 10) (.string ⟨(S.getD []).toArray⟩)):=((But.of_below H).setCell 9 _).setCell 10 _;exact⟨N,rfl,v,Z u H,HS _ N⟩
     .rw[ab Y]
      by_cases h8:p=8
      .rw[ae h8]
       subst h8;have O:Hid (∀b,Bl w b->Ce b k 11 (.bool a.f.isSome)/\Ce b k 12 (.string ⟨(a.f.getD []).toArray⟩)/\b.frozen? (Ad k 11)=false/\b.frozen? (Ad k 12)=false):=fun b d=>⟨aa (l b d) 11,aa (l b d) 12,aj (l b d) 11,aj (l b d) 12⟩;have a0:Hid _:=T 35;have a1:Hid _:=M 35 1;have Z:Hid (∀b,Bl w b->((b.setCell (Ad k 11) (.bool (eD 35 1 t).isSome)).setCell (Ad k 12) (.string ⟨((eD 35 1 t).getD []).toArray⟩)).heap[k]?=some (.cells (av {a with f:=eD 35 1 t} v) 77 (0,0))):=fun b d=>aD _ k 12 _ 77 _ (aD b k 11 _ 77 _ (l b d));generalize eD 35 1 t=S at*;generalize(⟨(cX 35 t).toArray⟩:ByteArray)=tm at*;generalize(⟨t.toArray⟩:ByteArray)=D at*;generalize t.isEmpty=qe at*;clear l T M j n i q r z d m X U V F Q Y;go_enter func60,ntmps60;go_wp2_with fail;refine mR (a0 w (ai _ _)) fun b y=>?_;go_wp2_with fail;refine mR (a1 b y) fun u G=>?_;have H:=hI G;obtain⟨a9,b0,a6,b4⟩:=O u G;clear y G;go_wp2;go_ret;have N:But k w ((u.setCell (Ad k 11) (.bool S.isSome)).setCell (Ad k 12) (.string ⟨(S.getD []).toArray⟩)):=((But.of_below H).setCell 11 _).setCell 12 _;exact⟨N,rfl,v,Z u H,HS _ N⟩
      .rw[ab h8]
       have HI:Hid (∀b,Bl w b->Calls prog 106 #[Iv p] b fun e w'=>(∃x:ByteArray,e=.returned (.string x))/\Bl w w'):=(by intro b d;refine(wd p r z b (i.env2.below d)).mono ?_;rintro e w' ⟨he,f⟩;exact⟨he,d.trans (f.mono d.size)⟩);obtain⟨R,P,hg⟩:=i.ePart;have HP:Hid (∀(x:ByteArray) W,C0 105 #[.string ⟨#[112,97,114,116]⟩,.string x,.iface R P] W (.iface 96 (.agg #[Iv 6,.string ⟨#[112,97,114,116]⟩,.string x,.iface R P]))):=fun x W=>ni _ x R P W;have HG:Hid (∀b,Below w.heap.size w b->b.cell? ⟨3,0,none⟩=some (.iface R P)):=fun b d=>(d.cell (p:=⟨3,0,none⟩) (show 3<w.heap.size by omega)).trans hg;generalize(⟨t.toArray⟩:ByteArray)=D at*;clear l T M HS j n i q r z m;go_enter Tryz.func60,Tryz.ntmps60;go_upto_region 2 with fail;go_region_held3 (fun w'=>w'.cell? ⟨3,0,none⟩=some (.iface R P)) (go_keep) (first|(go_at_call 106;refine af (HI.out _ (by first|exact ai _ _|exact du rfl rfl rfl rfl)) ?_;rintro e b ⟨⟨x,rfl⟩,y⟩;have K:Hid (Below w.heap.size w b):=y;clear y;have a7:=HG.out b K.out)|(go_at_call 105;refine af (HP.out _ _) ?_;rintro e W0 ⟨rfl,C⟩;have C:=C.symm;subst C))
       all_goals
        go_wp2;go_ret;exact⟨But.of_below K,_,_,_,_,rfl⟩
theorem Ev (w:World) (k:Nat) (a:Array Value):But k w (w.setRow k a):=by refine⟨rfl,rfl,rfl,by simp,λj c b=>?_⟩;exact setRow_other _ _ _ _ b
theorem Ew (a:Adr) (v:Value) (p:Int) (t:Bs) (w:World) (Z:t.length<=100000) (R: -9223372036854775808<=p) (a7:p<=9223372036854775807) (D:bh w v a.w.g) (hs:Small 1000000 1000000 a) (C:Env3 w):Calls prog 38 #[.agg (av a v),.int .i64 p,.string ⟨t.toArray⟩] w fun e w'=>gs (dn hostTell a p (dG t)) e w'/\Bl w w':=by
 have a4:(av a v).all (·.oneCell')=true:=by obtain⟨⟨sp,a9,rfl,_⟩,_⟩:=D;exact iP _ _ rfl
 obtain⟨W,m⟩:=am ((w.alloc (.cells (av a v) 77)).alloc (.cells ag 77));have a0:Bl w W:=by rw[m];exact((ai _ _).alloc .refl _).alloc (by simp) _
 have j:=lX w (.cells (av a v) 77) (.cells ag 77);rw[<-m] at j;have O:W.heap.size=w.heap.size+2:=by rw[m];simp
 obtain⟨V,q⟩:=am ((W.alloc (.cells ag 77)).setRow W.heap.size (av a v));have G:Hid ((W.alloc (.cells ag 77)).heap[W.heap.size]?=some (.cells ag 77 (0,0))):=cj W _ _;have a2:V.heap[W.heap.size]?=some (.cells (av a v) 77 (0,0)):=by rw[q];exact iM G _
 have B:Bl W V:=by rw[q];exact aZ ((ai _ _).alloc .refl _) .refl _
 have c3:V.heap.size=w.heap.size+3:=by rw[q];simp[World.setRow,O]
 have k:=a0.trans (B.mono (by omega));have c0:Hid (∀c,Bl V c->CQ 61 #[.string ⟨t.toArray⟩] c (.string ⟨(dG t).toArray⟩) (Below V.heap.size V)):=by intro c d;refine mR (vq t c (by omega) ((C.below k).below d).env2.env) fun w' i=>?_;exact⟨rfl,d.trans (i.mono d.size)⟩
 have l:(dG t).length<=100000:=bu (lE _ _) Z;have b4:Hid (∀c,Bl V c->Calls prog 60 #[Pt W.heap.size,Iv p,.string ⟨(dG t).toArray⟩] c fun e w'=>(But W.heap.size V w'/\hE W.heap.size (dn hostTell a p (dG t)) e w')):=by intro c d;refine(Eu W.heap.size a v p (dG t) c l R a7 ((d.block _ (by omega)).trans a2) (ei (ei D k) d) ((C.below k).below d)).mono ?_;rintro e w' ⟨i,A⟩;exact⟨(But.of_below d).trans i,A⟩
 have I:Hid (∀c,But W.heap.size V c->Bl w c):=fun c d=>k.trans ((d.below (by omega)).mono (by omega));have c2:Hid (∀c,But W.heap.size V c->c.heap[w.heap.size]?=some (.cells (av a v) 77 (0,0))):=fun c d=>((d.block w.heap.size (by omega) (by omega)).trans (B.block _ (by omega))).trans j.1;have X:Hid (∀c,But W.heap.size V c->c.heap[w.heap.size+1]?=some (.cells ag 77 (0,0))):=fun c d=>((d.block (w.heap.size+1) (by omega) (by omega)).trans (B.block _ (by omega))).trans j.2;have b9:Hid (∀c,But W.heap.size V c->CQ 57 #[.agg (av a v)] c (.string ⟨(gf a).toArray⟩) (But W.heap.size V)):=by intro c d;have l:=I c d;refine mR (vW a v c (ei D l) hs (C.env2.below l)) fun w' i=>?_;exact⟨rfl,d.trans (But.of_below i)⟩
 have T:=hI m;have HV:=hI q;have b7:=hI j.1;have c4:=hI O;generalize a6:av a v=h at*;have L:h.size=13:=by rw[<-a6];rfl
 have J:Hid ((prog.info? 77).map (·.size)=some h.size):=hI (by rw[L];exact cD);have a8:Hid (ag.size=h.size):=hI (by rw[L];rfl);have b0:=hI a4;generalize dn hostTell a p (dG t)=o at*;generalize(⟨(dG t).toArray⟩:ByteArray)=bt at*;generalize(⟨(gf a).toArray⟩:ByteArray)=Y at*;generalize(⟨t.toArray⟩:ByteArray)=tb at*;clear Z R a7 D hs C a4 m a0 j O q a2 B c3 k l a6 L;have a5:=hI T.out.symm;go_enter func38,ntmps38;go_upto_region 1 with fail;have N:=a5;unfold ag at N;rw[N];clear N T a5;go_upto_region 2 with(first|refine cb rfl 77 _ rfl w.heap.size rfl 77 h (0,0) _ b7 underlying77 rfl J ?_|refine aY rfl 77 _ _ rfl W.heap.size h rfl rfl 77 ag G J a8 b0 ?_)
 have K:=HV;unfold ag at K;rw[<-K];clear K HV G;go_wp2_with fail;refine mR (c0 V (ai _ _)) fun c b1=>?_;go_wp2_with fail;refine af (b4 c b1) ?_;rintro e g ⟨b2,A⟩;have s:=hI b2;clear b1 b2;cases o with
 |error n=>obtain⟨x,y,te,ve,rfl⟩:=A;have HL:=hI (c2 g s);go_upto_region 4 with fail;go_wp2_with(first|refine cb rfl 77 _ rfl w.heap.size rfl 77 h (0,0) _ HL underlying77 rfl J ?_);refine mR (b9 g s) fun E Q=>?_;have c1:=hI Q;have S:=hI (X E Q);clear Q;go_wp2_with(first|refine aY rfl 77 _ _ rfl (w.heap.size+1) ag rfl rfl 77 ag S cD rfl jM ?_);(try simp only[Exit.inBlock,Exit.then]);have r:=bQ (P:=prog) (E.setRow (w.heap.size+1) ag) (w.heap.size+1) 77 77 ag (0,0) _ (bH _ (w.heap.size+1) ag ag 77 (0,0) S) underlying77 rfl cD;refine aO (v:=.tuple #[.agg ag,.iface 104 (.agg #[.string Y,.iface 96 (.agg #[Iv n,.string x,.string y,.iface te ve])])]) ?_ rfl ⟨⟨_,rfl,.inr ⟨Y,x,y,te,ve,rfl⟩⟩,aZ (I E c1) (iI _) _⟩;rw[bR rfl];simp only[ag] at r;simp[asAddr,Result.andThen,r,ag]
 |ok b=>
  obtain⟨he,u,U,z⟩:=A;subst he;have a1:(av b u).all (·.oneCell')=true:=by obtain⟨⟨sp,a9,rfl,_⟩,_⟩:=z;exact iP _ _ rfl
  have M:=hI (X g s);have b8:Hid (gs (.ok b) (.returned (.tuple #[.agg (av b u),.nilIface])) (g.setRow (w.heap.size+1) (av b u))/\Bl w (g.setRow (w.heap.size+1) (av b u))):=⟨⟨u,rfl,gp z (Ev g (w.heap.size+1) _) (iO z.2 M (by decide))⟩,aZ (I g s) (iI _) _⟩;generalize a3:av b u=f at*;have F:f.size=13:=by rw[<-a3];rfl
  have HU:=hI U;have H:Hid ((prog.info? 77).map (·.size)=some f.size):=hI (by rw[F];exact cD);have b5:Hid (ag.size=f.size):=hI (by rw[F];rfl);have b6:=hI a1;clear U z a1 a3 F;go_upto_region 5 with fail;go_wp2_with(first|refine cb rfl 77 _ rfl W.heap.size rfl 77 f (0,0) _ HU underlying77 rfl H ?_|refine aY rfl 77 _ _ rfl (w.heap.size+1) f rfl rfl 77 ag M H b5 b6 ?_);(try simp only[Exit.inBlock,Exit.then]);have r:=bQ (P:=prog) (g.setRow (w.heap.size+1) f) (w.heap.size+1) 77 77 f (0,0) _ (bH _ (w.heap.size+1) ag f 77 (0,0) M) underlying77 rfl H;refine aO (v:=.tuple #[.agg f,.nilIface]) ?_ rfl b8;rw[bR rfl];simp[asAddr,Result.andThen,r]
theorem lZ (t:Bs):da t=ny hostTell t:=rfl
theorem we {t v:Bs} {p:Int} {a:Adr} (b:v.length<=2000) (h:da t=.ok a):gv hostTell t p v=jl (dn hostTell a p (dG v)):=by unfold gv;rw[ab (by omega),<-lZ,h];simp only;cases dn hostTell a p (dG v)<;>rfl
theorem rB (v:Bs):(dG v).length<=v.length:=lE _ _
theorem Ex (t v:Bs) (p:Int) (w:World) (C:t.length<=maxLen) (K:v.length<=maxLen) (A: -9223372036854775808<=p) (F:p<=9223372036854775807) (m:Env3 w):Calls prog 28 #[.string ⟨t.toArray⟩,.int .i64 p,.string ⟨v.toArray⟩] w fun e w'=>e=jk (gv hostTell t p v)/\Bl w w':=by
 by_cases l:v.length<=2000
 .have I:Hid (∀c,Calls Tryz.prog 31 #[.string ⟨v.toArray⟩] c fun e w'=>e=.returned (.bool false)/\w'=c):=fun c=>lk _ c (by rw[al];exact l)
  have D:=hI (na t w C m.env2);have HN:Hid (∀c:World,(c.alloc (.cells ag 77)).heap[c.heap.size]?=some (.cells ag 77 (0,0))):=fun c=>cj c _ _;cases f:da t with
  |error n=>have hn:=rF (by rw[<-lZ];exact f);have z:Hid (gv hostTell t p v=.error n):=(by show _=_;unfold gv;rw[ab (by omega),<-lZ,f]);rw[z.out];rw[f] at D;generalize(⟨t.toArray⟩:ByteArray)=Q at*;generalize(⟨v.toArray⟩:ByteArray)=Z at*;clear C K A F m l f z;go_enter func28,ntmps28;go_wp2_with fail;refine mR (I w) fun T j=>?_;obtain rfl:=j.symm;go_wp2_with fail;refine D.out.mono ?_;rintro e c ⟨⟨d,rfl,k,o⟩,g⟩;have G:Hid ((prog.info? 77).map (·.size)=some d.size):=hI (by rw[k];exact cD);have B:Hid (ag.size=d.size):=hI (by rw[k];rfl);have E:=hI o;have s:Hid _:=HN c;have HB:Hid (Bl w ((c.alloc (.cells ag 77)).setRow c.heap.size d)):=aZ (g.alloc g.size _) g.size _;clear k o g;go_wp2_with(first|refine aY rfl 77 _ _ rfl c.heap.size d rfl rfl 77 ag s G B E ?_);go_ret2;exact⟨rfl,HB⟩
  |ok a=>
   have z:Hid (gv hostTell t p v=jl (dn hostTell a p (dG v))):=we l f;have M:=rA t a f;have R:Hid (∀c u,Bl w c->bh c u a.w.g->Calls prog 38 #[.agg (av a u),Iv p,.string ⟨v.toArray⟩] c fun e w'=>gs (dn hostTell a p (dG v)) e w'/\Bl w w'):=(by intro c u L r;refine(Ew a u p v c (by omega) A F r M (m.below L)).mono ?_;rintro e w' ⟨i,hb⟩;exact⟨i,L.trans (hb.mono L.size)⟩);have HT:Hid (∀d x c,Bl w c->gs (dn hostTell a p (dG v)) (.returned (.tuple #[.agg d,x])) c->Calls prog 34 #[.agg d,x] c fun e w'=>e=jk (jl (dn hostTell a p (dG v)))/\Bl w w'):=(by intro d x c J i;refine(vv _ d x c i (fun b h=>wR M (bu (rB v) l) h) (m.env2.below J)).mono ?_;rintro e w' ⟨rfl,a3⟩;exact⟨rfl,J.trans (a3.mono J.size)⟩);have HX:Hid (∃x y,jk (jl (dn hostTell a p (dG v)))=.returned (.tuple #[x,y])):=(by cases dn hostTell a p (dG v)<;>exact⟨_,_,rfl⟩);rw[z.out];rw[f] at D;generalize dn hostTell a p (dG v)=a5 at*;generalize(⟨t.toArray⟩:ByteArray)=Q at*;generalize(⟨v.toArray⟩:ByteArray)=Z at*;clear C K A F m l f z M;go_enter func28,ntmps28;go_wp2_with fail;refine mR (I w) fun T j=>?_;obtain rfl:=j.symm;go_wp2_with fail;refine D.out.mono ?_;rintro e c ⟨⟨u,rfl,r⟩,g⟩;have o:(av a u).all (·.oneCell')=true:=(by obtain⟨⟨sp,a6,rfl,_⟩,_⟩:=r;exact iP _ _ rfl);obtain⟨V,H⟩:=am ((c.alloc (.cells ag 77)).setRow c.heap.size (av a u));have s:Hid ((c.alloc (.cells ag 77)).heap[c.heap.size]?=some (.cells ag 77 (0,0))):=cj c _ _;have N:Bl c V:=(by rw[H];exact aZ ((ai _ _).alloc .refl _) .refl _);have a1:Hid (V.heap[c.heap.size]?=some (.cells (av a u) 77 (0,0))):=(by show _=_;rw[H];exact iM s _);have a4:Hid _:=R V u (g.trans (N.mono g.size)) (ei r N);have S:=hI H;generalize W:av a u=d at*;have k:d.size=13:=(by rw[<-W];rfl);have G:Hid ((prog.info? 77).map (·.size)=some d.size):=hI (by rw[k];exact cD);have B:Hid (ag.size=d.size):=hI (by rw[k];rfl);have E:=hI o;clear o g r H N W k R;go_upto_region 4 with(first|refine aY rfl 77 _ _ rfl c.heap.size d rfl rfl 77 ag s G B E ?_)
   have O:=S;unfold ag at O;rw[<-O];clear O S s HN B E;go_wp2_with(first|refine cb rfl 77 _ rfl c.heap.size rfl 77 d (0,0) _ a1 underlying77 rfl G ?_);refine af a4 ?_;rintro e w2 ⟨i,X⟩;obtain⟨a2,x,rfl,_,_⟩:=oZ i;have a0:=hI (HT a2 x w2 X i);clear i X;go_wp2_with fail;refine a0.out.mono ?_;rintro e w3 ⟨Y,b3⟩;obtain⟨y,q,U⟩:=HX;rw[U] at Y;subst Y;go_wp2_with fail;go_ret2;exact⟨U.symm,b3⟩
 .have I:Hid (∀c,C0 31 #[.string ⟨v.toArray⟩] c (.bool true)):=fun c=>mf _ c (by grind[al]) (by grind[al])
  have P:Hid (gv hostTell t p v=.error 1):=hI (by unfold gv;rw[ae (by omega)]);rw[P.out];generalize(⟨t.toArray⟩:ByteArray)=Q at*;generalize(⟨v.toArray⟩:ByteArray)=Z at*;clear C K A F m l P;go_enter func28,ntmps28;go_wp2_with(go_at_call 31;refine(I _).mono ?_;rintro e T ⟨rfl,j⟩;have j:=j.symm;subst j);go_ret2;exact⟨rfl,ai _ _⟩
theorem xg:bi.all (·.oneCell')=true:=by simp[bi,Value.oneCell']
theorem Gf (t:Bs) (n:Int) (w:World) (f:da t=.error n) (l:t.length<=maxLen) (p:Env2 w):Calls prog 22 #[.string ⟨t.toArray⟩] w fun e w'=>e=.returned (.tuple #[.agg bi,.int .i64 n])/\Bl w w':=by
 obtain⟨W,b⟩:=am (w.alloc (.cells bi 40));have g:Bl w W:=by rw[b];exact(ai _ _).alloc .refl _
 have z:=hI g;have E:W.heap.size=w.heap.size+1:=by rw[b];simp
 have q:W.heap[w.heap.size]?=some (.cells bi 40 (0,0)):=by rw[b];exact cj w _ _
 have C:Hid (∀h,Bl W h->h.heap[w.heap.size]?=some (.cells bi 40 (0,0))):=fun h x=>(x.block w.heap.size (by omega)).trans q;have u:Hid (Calls prog 36 #[Sv t] W fun e w'=>(∃a,e=.returned (.tuple #[.agg a,Iv n])/\a.size=13/\a.all (·.oneCell')=true)/\Bl W w'):=by have:=na t W l (p.below g);rwa[f] at this
 have D:=rF (by rw[<-lZ];exact f);have B:=hI ((by omega:w.heap.size<W.heap.size));clear l p g q f;go_enter func22,ntmps22;go_upto_region 1 with fail;unfold bi at b;rw[<-b];clear b;go_wp2_with fail;refine af u ?_;rintro e c ⟨⟨a,rfl,i,o⟩,d⟩;have A:Hid ((prog.info? 77).map (·.size)=some a.size):=hI (by rw[i];exact cD);have s:Hid (ag.size=a.size):=hI (by rw[i];rfl);have y:=hI o;have r:Hid ((c.alloc (.cells ag 77)).heap[c.heap.size]?=some (.cells ag 77 (0,0))):=cj c _ _;have k:Hid (Bl W ((c.alloc (.cells ag 77)).setRow c.heap.size a)):=aZ (d.alloc d.size _) d.size _;have m:=hI (C _ k);clear i o d;go_wp2_with(first|refine aY rfl 77 _ _ rfl c.heap.size a rfl rfl 77 ag r A s y ?_|refine aY rfl 40 _ _ rfl w.heap.size bi rfl rfl 40 bi m kl rfl xg ?_);(try simp only[Exit.inBlock,Exit.then]);have j:=bQ (P:=prog) _ w.heap.size 40 40 bi (0,0) _ (iM m bi) underlying40 rfl kl;refine aO (v:=.tuple #[.agg bi,Iv n]) ?_ rfl ⟨rfl,aZ (z.out.trans (k.out.mono (jF B))) .refl _⟩;rw[bR rfl];simp only[bi,ag] at j;simp[asAddr,Result.andThen,j,bi]
def jW (u:Adr):Bs:=if ao u.s=true/\u.s≠sFile then u.s++([58,47,47]++dT u.t) else [110,117,108,108]
def tH (o:Except Int Adr):Ending:=
 match o with
 | .error n=>.returned (.tuple #[.string ⟨#[]⟩,.int .i64 n])
 | .ok u=>.returned (.tuple #[.string ⟨(jW u).toArray⟩,.int .i64 0])
theorem Ak (s:Bs):((cE s).1<0)↔¬(ao s=true/\s≠sFile):=by
 unfold ao cE;by_cases b:s=oS\/s=oU
 .rw[ae b]
  show(80:Int)<0↔¬(true=true/\s≠sFile);refine⟨λh=>absurd h (by decide),λh=>absurd ⟨rfl,?_⟩ h⟩;rintro rfl;revert b;decide
 .rw[ab b]
  by_cases a:s=oT\/s=oV
  .rw[ae a]
   show(443:Int)<0↔¬(true=true/\s≠sFile);refine⟨λh=>absurd h (by decide),λh=>absurd ⟨rfl,?_⟩ h⟩;rintro rfl;revert a;decide
  .rw[ab a]
   by_cases c:s=oW
   .rw[ae c]
    show(21:Int)<0↔¬(true=true/\s≠sFile);refine⟨λh=>absurd h (by decide),λh=>absurd ⟨rfl,?_⟩ h⟩;rw[c];decide
   .grind
theorem MS (u:Adr) (h:ao u.s=true/\u.s≠sFile) (a:u.t.has=true):iE false u=jW u:=by simp_all[iE,jW,fK]
theorem MT (t:Bs) (w:World) (m:t.length<=maxLen):Calls prog 47 #[.string ⟨t.toArray⟩] w fun e w'=>e=tH (da t)/\Bl w w':=by
 have g:=hI fun W=>tG t W m;generalize(⟨t.toArray⟩:ByteArray)=D at*;cases k:da t with
 |error n=>
  rw[k] at g;clear k m;go_enter func47,ntmps47;go_wp2_with fail;refine af (g _) ?_;rintro e i ⟨a,rfl,s⟩;have f:=hI a;have F:(n !=0)=true:=by rw[mY];exact s
  clear a s;go_wp2;go_ret2;exact⟨rfl,f⟩
 |ok u=>
  rw[k] at g;clear k m;have p:=hI fun W=>qd ⟨u.s.toArray⟩ W;by_cases c:ao u.s=true/\u.s≠sFile
  .have y:=fun h=>(Ak u.s).1 h c
   generalize(cE u.s).1=C at*;go_enter func47,ntmps47;go_wp2_with fail;refine af (g _) ?_;rintro e i ⟨a,j,r,rfl,d,b,l⟩;have f:=hI a;have B:i.cell? ⟨j,0,none⟩=some (.string ⟨u.s.toArray⟩):=aa d.U 0;have o:Hid _:=Ae j u r false i d b.p (by have:=b.s;have:=b.e;have:=b.d;have:=b.h;omega);have v:=hI (MS u c (l.1.2.1 c.1).1);rw[v.out] at o;clear a d b l v c;generalize(⟨u.s.toArray⟩:ByteArray)=z at*;go_wp2_with fail;refine m0 (p _) ?_;go_wp2_with fail;refine mR o fun E q=>?_;have x:=hI (f.out.trans (q.mono f.out.size));clear q;go_wp2;go_ret2;exact⟨rfl,x⟩
  .have y:=(Ak u.s).2 c
   have A:Hid (jW u=[110,117,108,108]):=hI (by unfold jW;rw[ab c]);generalize(cE u.s).1=C at*;go_enter func47,ntmps47;go_wp2_with fail;refine af (g _) ?_;rintro e i ⟨a,j,r,rfl,d,b,l⟩;have f:=hI a;have B:i.cell? ⟨j,0,none⟩=some (.string ⟨u.s.toArray⟩):=aa d.U 0;clear a d b l c;generalize(⟨u.s.toArray⟩:ByteArray)=z at*;go_wp2_with fail;refine m0 (p _) ?_;go_wp2;go_ret2;exact⟨by show _=Ending.returned (.tuple #[.string ⟨(jW u).toArray⟩,Iv 0]);rw[A.out];rfl,f⟩
theorem MU (a:Adr) (v:Value) (w:World) (d:Small 1000000 1000000 a) (s:Env2 w):Calls prog 71 #[.agg (av a v)] w fun e w'=>e=.returned (.string ⟨(jW a).toArray⟩)/\Bl w w':=by
 obtain⟨W,i⟩:=am (w.alloc (.cells (av a v) 77));have o:Bl w W:=by rw[i];exact(ai _ _).alloc .refl _
 have u:W.heap[w.heap.size]?=some (.cells (av a v) 77 (0,0)):=by rw[i];exact cj w _ _
 have B:W.heap.size=w.heap.size+1:=by rw[i];simp
 have z:Hid (∀b,Bl W b->Bl w b):=fun b c=>o.trans (c.mono (by omega));have m:=hI fun b=>iw ⟨a.s.toArray⟩ b;have p:Hid (∀b,Bl W b->CQ 127 #[.agg (dP a.t)] b (.string ⟨(dT a.t).toArray⟩) (Below W.heap.size W)):=by intro b c;refine mR (vU a.t b (by have:=d.h;omega) d.p ((s.below o).below c)) fun w' K=>?_;exact⟨rfl,c.trans (K.mono c.size)⟩
 have x:(⟨a.s.toArray⟩:ByteArray).size<=1000000:=by rw[al];exact d.s
 have A:(⟨(dT a.t).toArray⟩:ByteArray).size<=1000020:=by
  rw[al];have S:=d.h;unfold dT;split
  .omega
  .rename_i P
   obtain h|h:=d.p
   .omega
   .grind[eY,nu]
 have t:Hid (∀b,Bl W b->b.heap[w.heap.size]?=some (.cells (av a v) 77 (0,0))):=fun b c=>(c.block w.heap.size (by omega)).trans u;have f:=hI i;have q:Hid ((⟨a.s.toArray⟩:ByteArray)++⟨#[58,47,47]⟩++⟨(dT a.t).toArray⟩=⟨(a.s++([58,47,47]++dT a.t)).toArray⟩):=by show _=_;have c:(⟨a.s.toArray⟩:ByteArray)++⟨#[58,47,47]⟩=⟨(a.s++ [58,47,47]).toArray⟩:=aP _ [58,47,47];rw[c,aP,eU]
 have r:Hid (ao a.s=true->¬a.s=sFile->jW a=a.s++([58,47,47]++dT a.t)):=fun c G=>ae ⟨c,G⟩;have n:Hid (¬(ao a.s=true/\a.s≠sFile)->jW a=[110,117,108,108]):=fun h=>ab h;unfold dP at p;cases j:ao a.s with
 |false=>rw[n.out (fun h=>by grind)];rw[j] at m;have F:Ce W w.heap.size 0 (.string ⟨a.s.toArray⟩):=aa (t W (ai _ _)) 0;clear j r n q p s d u B o i x A;unfold av at f⊢;generalize(⟨a.s.toArray⟩:ByteArray)=g at*;go_enter func71,ntmps71;go_upto_region 1 with fail;rw[<-f.out];go_wp2_with fail;refine mR (m _) fun w2 L=>?_;obtain rfl:=L.symm;go_wp2;go_ret;exact⟨rfl,z W (ai _ _)⟩
 |true=>
  rw[j] at m;by_cases l:a.s=sFile
  .rw[n.out (fun h=>h.2 l)]
   have N:((⟨a.s.toArray⟩:ByteArray).toList==[102,105,108,101])=true:=fE a.s _ l;have F:Ce W w.heap.size 0 (.string ⟨a.s.toArray⟩):=aa (t W (ai _ _)) 0;clear j r n q p s d u B o i x A l;unfold av at f⊢;generalize(⟨a.s.toArray⟩:ByteArray)=g at*;go_enter func71,ntmps71;go_upto_region 1 with fail;rw[<-f.out];go_wp2_with fail;refine m0 (m _) ?_;go_wp2;go_ret;exact⟨rfl,z W (ai _ _)⟩
  .rw[r.out j l]
   rw[<-q.out];have N:((⟨a.s.toArray⟩:ByteArray).toList==[102,105,108,101])=false:=dV a.s _ l;have E:Hid (∀b,Bl W b->Ce b w.heap.size 0 (.string ⟨a.s.toArray⟩)/\Ce b w.heap.size 1 (.string ⟨a.t.e.toArray⟩)/\Ce b w.heap.size 2 (.string ⟨a.t.d.toArray⟩)/\Ce b w.heap.size 3 (.bool a.t.has)/\Ce b w.heap.size 4 (.string ⟨a.t.h.toArray⟩)/\Ce b w.heap.size 5 (Iv a.t.p)):=by intro b c;have k:=t b c;exact⟨aa k 0,aa k 1,aa k 2,aa k 3,aa k 4,aa k 5⟩
   obtain⟨F,U,d2,X,T,Q⟩:=E W (ai _ _);clear j r n q s d u B o i l t;unfold av at f⊢;generalize(⟨a.s.toArray⟩:ByteArray)=g at*;generalize(⟨a.t.e.toArray⟩:ByteArray)=I at*;generalize(⟨a.t.d.toArray⟩:ByteArray)=J at*;generalize(⟨a.t.h.toArray⟩:ByteArray)=M at*;generalize(⟨(dT a.t).toArray⟩:ByteArray)=D at*;have H:(⟨#[58,47,47]⟩:ByteArray).size=3:=rfl;have V:∀W:World,(Op.stringOp .add g ⟨#[58,47,47]⟩).run prog W=.ok (.string (g++⟨#[58,47,47]⟩)) W:=fun W=>bm W _ _ (by omega);have g1:∀W:World,(Op.stringOp .add (g++⟨#[58,47,47]⟩) D).run prog W=.ok (.string (g++⟨#[58,47,47]⟩++D)) W:=fun W=>bm W _ _ (by grind);clear H x A;go_enter func71,ntmps71;go_upto_region 1 with fail;rw[<-f.out];clear f;go_wp2_with fail;refine m0 (m _) ?_;go_wp2;go_region_held3 (fun w'=>w'.cell? ⟨w.heap.size,0,none⟩=some (.string g)/\w'.cell? ⟨w.heap.size,1,none⟩=some (.string I)/\w'.cell? ⟨w.heap.size,2,none⟩=some (.string J)/\w'.cell? ⟨w.heap.size,3,none⟩=some (.bool a.t.has)/\w'.cell? ⟨w.heap.size,4,none⟩=some (.string M)/\w'.cell? ⟨w.heap.size,5,none⟩=some (.int .i64 a.t.p)) (go_keep) (first|(go_at_call 127;refine af (p.out _ (ai _ _).drew) ?_;rintro e C ⟨rfl,y⟩;have O:Hid (Below W.heap.size W C):=y;obtain⟨v0,R,Y,v3,v4,Z⟩:=E.out C y;clear y))
   all_goals
    go_wp2;go_ret;exact⟨rfl,z _ O⟩
theorem MV (t:Bs) (n:Int) (w:World) (g:da t=.error n) (m:t.length<=maxLen) (i:Env2 w):Calls prog 46 #[.string ⟨t.toArray⟩] w fun e w'=>e=.returned (.tuple #[.string ⟨#[]⟩,.int .i64 n])/\Bl w w':=by
 have o:Hid (Calls prog 36 #[Sv t] w fun e w'=>(∃a,e=.returned (.tuple #[.agg a,Iv n])/\a.size=13/\a.all (·.oneCell')=true)/\Bl w w'):=by have:=na t w m i;rwa[g] at this
 have q:=rF (by rw[<-lZ];exact g);go_enter func46,ntmps46;go_wp21;refine af o ?_;rintro e b ⟨⟨a,rfl,d,f⟩,c⟩;have j:Hid ((prog.info? 77).map (·.size)=some a.size):=hI (by rw[d];exact cD);have h:Hid (ag.size=a.size):=hI (by rw[d];rfl);have k:=hI f;have p:Hid ((b.alloc (.cells ag 77)).heap[b.hz]?=some (.cells ag 77 (0,0))):=cj b _ _;have l:Hid (Bl w ((b.alloc (.cells ag 77)).setRow b.hz a)):=aZ (c.alloc c.size _) c.size _;clear f;go_wp2_with(first|refine aY rfl 77 _ _ rfl b.hz a rfl rfl 77 ag p j h k ?_);go_ret2;exact⟨rfl,l⟩
theorem MW (t:Bs) (w:World) (j:t.length<=maxLen) (d:Env2 w):Calls prog 46 #[.string ⟨t.toArray⟩] w fun e w'=>e=tH (da t)/\Bl w w':=by
 cases f:da t with
 |error n=>exact MV t n w f j d
 |ok a=>
  have A:Hid (Calls prog 36 #[Sv t] w fun e w'=>(∃v,e=.returned (.tuple #[.agg (av a v),Iv 0])/\bh w' v a.w.g)/\Bl w w'):=by have:=na t w j d;rwa[f] at this
  have z:=hI (rA t a f);have u:=hI d;clear d;go_enter func46,ntmps46;go_wp21;refine af A ?_;rintro e b ⟨⟨v,rfl,r⟩,o⟩;have g:(av a v).all (·.oneCell')=true:=by obtain⟨⟨I,G,rfl,_⟩,_⟩:=r;exact iP _ _ rfl
  obtain⟨V,c⟩:=am ((b.alloc (.cells ag 77)).setRow b.hz (av a v));have p:Hid ((b.alloc (.cells ag 77)).heap[b.hz]?=some (.cells ag 77 (0,0))):=cj b _ _;have x:V.heap[b.hz]?=some (.cells (av a v) 77 (0,0)):=by rw[c];exact iM p _
  have D:Bl b V:=by rw[c];exact aZ ((ai _ _).alloc .refl _) .refl _
  have h:=o.trans (D.mono o.size);have i:=hI h;have s:=hI (MU a v V z (u.out.below h));have l:Hid ((prog.info? 77).map (·.size)=some (av a v).size):=cD;have C:=hI g;have q:Hid (ag.size=(av a v).size):=(rfl:ag.size=(av a v).size);have E:Hid (((b.alloc (.cells ag 77)).setRow b.hz (av a v)).heap[b.hz]?=some (.cells (av a v) 77 (0,0))):=hI (by rw[<-c];exact x);have B:=hI c;clear g c;generalize av a v=k at*;go_wp2_with(first|refine aY rfl 77 _ _ rfl b.hz k rfl rfl 77 ag p l q C ?_|refine cb rfl 77 _ rfl b.hz rfl 77 k (0,0) _ E underlying77 rfl l ?_);have m:=B;unfold ag at m;rw[<-m];refine mR s fun H F=>?_;have y:=hI (i.out.trans (F.mono i.out.size));go_wp2;go_ret2;exact⟨rfl,y⟩
end Go.Proofs
