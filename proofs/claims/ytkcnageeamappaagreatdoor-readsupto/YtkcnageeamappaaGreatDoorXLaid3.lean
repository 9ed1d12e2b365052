import Derived.Test.YtkcnageeamappaaGreatDoorXGSeg
set_option maxHeartbeats 32000000
set_option maxRecDepth 8000
namespace Go.Moor
open Go
theorem z5j (c:UInt8):∀(t:Bs),match z1a c t with|some (a,b)=>t=a++c::b∧∀x∈a,x≠c|none=>∀x∈t,x≠c
 | []=>fun x hx=>by cases hx
 |d::t=>by
  have ih:=z5j c t;by_cases hd:d=c
  ·rw[z1a,if_pos hd]
   subst hd;exact⟨rfl,fun x hx=>by cases hx⟩
  ·rw[z1a,if_neg hd]
   cases hc:z1a c t with
   |none=>
    rw[hc] at ih;intro x hx;rcases List.mem_cons.1 hx with rfl|hx
    ·exact hd
    ·exact ih x hx
   |some p=>
    obtain⟨a,b⟩:=p;rw[hc] at ih;refine⟨by rw[ih.1];rfl,fun x hx=>?_⟩;rcases List.mem_cons.1 hx with rfl|hx
    ·exact hd
    ·exact ih.2 x hx
theorem z5L (c:UInt8) (t:Bs):(∀x∈(z0i c t).1,x∈t∧x≠c)∧∀q,(z0i c t).2=some q→∀x∈q,x∈t:=by
 have h:=z5j c t;unfold z0i;cases hc:z1a c t with
 |none=>rw[hc] at h;exact⟨fun x hx=>⟨hx,h x hx⟩,fun q hq=>by cases hq⟩
 |some p=>obtain⟨a,b⟩:=p;rw[hc] at h;refine⟨fun x hx=>⟨by rw[h.1];exact List.mem_append_left _ hx,h.2 x hx⟩,fun q hq x hx=>?_⟩;simp only[Option.some.injEq] at hq;subst hq;rw[h.1];simp[hx]
theorem zj6:∀c:Fin 256,(z1D c.val.toUInt8=true→z1D (Lib.lowerB c.val.toUInt8)=true)∧(z18 c.val.toUInt8=true→z18 (Lib.lowerB c.val.toUInt8)=true)∧Lib.lowerB (Lib.lowerB c.val.toUInt8)=Lib.lowerB c.val.toUInt8:=by decide+kernel
theorem z8u (c:UInt8):(z1D c=true→z1D (Lib.lowerB c)=true)∧(z18 c=true→z18 (Lib.lowerB c)=true)∧Lib.lowerB (Lib.lowerB c)=Lib.lowerB c:=by have:=zj6 ⟨c.toNat,c.toNat_lt⟩;simpa using this
theorem zau (l:Bs):Lib.toLowerA (Lib.toLowerA l)=Lib.toLowerA l:=by unfold Lib.toLowerA;rw[List.map_map];exact List.map_congr_left fun c _=>(z8u c).2.2
theorem zeH (l:Bs) (h:z0W l=true):z0W (Lib.toLowerA l)=true:=by
 unfold z0W at*;rw[Bool.and_eq_true] at*;refine⟨?_,?_⟩
 ·cases l with
  |nil=>exact h.1
  |cons c l=>exact(z8u c).2.1 h.1
 ·rw[List.all_eq_true] at*
  intro x hx;obtain⟨c,hc,rfl⟩:=List.mem_map.1 hx;exact(z8u c).1 (h.2 c hc)
theorem zcy (t:Bs):(z0k t).1≠[]→z0W (z0k t).1=true∧Lib.toLowerA (z0k t).1=(z0k t).1:=by
 unfold z0k;split
 ·split
  ·rename_i hs;exact fun _=>⟨zeH _ hs,zau _⟩
  ·exact fun h=>absurd rfl h
 ·exact fun h=>absurd rfl h
theorem z8N (t:Bs):((z1K t).scheme≠[]→z0W (z1K t).scheme=true∧Lib.toLowerA (z1K t).scheme=(z1K t).scheme)∧∀c∈(z1K t).middle,c≠35∧c≠63:=by refine⟨zcy t,fun c hc=>?_⟩;have h1:=(z5L 63 (z0i 35 (z0k t).2).1).1 c hc;exact⟨((z5L 35 (z0k t).2).1 c h1.1).2,h1.2⟩
theorem zbC (s t:Bs):(∀c∈z02 s t,c∈t∨c=47)∧(z0b s=true→∀c∈z02 s t,c≠92):=by
 unfold z02;split
 ·refine⟨fun c hc=>?_,fun _ c hc=>?_⟩
  ·obtain⟨b,hb,rfl⟩:=List.mem_map.1 hc
   split
   ·exact Or.inr rfl
   ·exact Or.inl hb
  ·obtain⟨b,hb,rfl⟩:=List.mem_map.1 hc
   split
   ·decide
   ·assumption
 ·rename_i h
  exact⟨fun c hc=>Or.inl hc,fun h2=>absurd h2 h⟩
theorem z9t (t:Bs):(∀c∈(z0l t).2,c∈t)∧∀c∈(z0l t).1,c∈t:=by unfold z0l;exact⟨fun c hc=>(List.dropWhile_sublist _).subset hc,fun c hc=>(List.takeWhile_sublist _).subset hc⟩
section
variable (H : Bs → Bool → Option Bs)
theorem zdK (t s:Bs) (p:Int) (h:z1o t s=some p):p= -1∨(0≤p∧p≤65535∧p≠(z1z s).1):=by
 unfold z1o at h;split at h
 ·simp only[Option.some.injEq] at h;exact Or.inl h.symm
 ·split at h
  ·rename_i h1
   simp only[Bool.and_eq_true,decide_eq_true_eq] at h1;split at h
   ·simp only[Option.some.injEq] at h;exact Or.inl h.symm
   ·rename_i h2
    simp only[Option.some.injEq] at h;subst h;exact Or.inr ⟨by omega,by omega,h2⟩
  ·cases h
structure GoodAuth (s:Bs) (a:Auth):Prop where
 user:∀c∈a.user,z0n 5 c.toNat=false
 pass:∀c∈a.pass,z0n 5 c.toNat=false
 has:a.has=true
 host:H a.host (z0b s)=some a.host
 empty:a.host=[]→a.user=[]∧a.pass=[]∧a.port= -1
 port:a.port= -1∨(0≤a.port∧a.port≤65535∧a.port≠(z1z s).1)
theorem zdL (hl:HostLaws H) (t s:Bs) (a:Auth) (h:z2i H t s=.ok a):GoodAuth H s a:=by
 unfold z2i at h;simp only at h;cases hh:z1W H (z10 (z0u t).2).1 t s with
 |none=>rw[hh] at h;cases h
 |some x=>
  rw[hh] at h;simp only at h;cases hp:z1o (z10 (z0u t).2).2 s with
  |none=>rw[hp] at h;cases h
  |some n=>
   rw[hp] at h;simp only[Except.ok.injEq] at h;subst h;have hx:H (z10 (z0u t).2).1 (z0b s)=some x∧((z10 (z0u t).2).1=[]→t=[]):=by
    unfold z1W at hh;split at hh
    ·cases hh
    ·rename_i h2
     refine⟨hh,fun he=>?_⟩;cases Classical.em (t=[]) with
     |inl h=>exact h
     |inr h=>exact absurd ⟨he,h⟩ h2
   refine⟨fun c hc=>z6Q 5 (by omega) _ c hc,fun c hc=>z6Q 5 (by omega) _ c hc,rfl,hl.again _ _ _ hx.1,fun he=>?_,zdK _ s n hp⟩;have he2:=he;subst he2;have ht:=hx.2 (hl.nil _ _ hx.1);subst ht;refine⟨rfl,rfl,?_⟩;have:z1o (z10 (z0u []).2).2 s=some (-1):=rfl;rw[this] at hp;simp only[Option.some.injEq] at hp;exact hp.symm
theorem zdM (hl:HostLaws H) (t h:Bs) (hh:z1v H t=some h):z1v H h=some h:=by
 unfold z1v at hh;split at hh
 ·simp only[Option.some.injEq] at hh;subst hh;rfl
 ·cases hx:H t true with
  |none=>rw[hx] at hh;cases hh
  |some y=>
   rw[hx] at hh;simp only at hh;split at hh
   ·simp only[Option.some.injEq] at hh;subst hh;rfl
   ·rename_i h2
    simp only[Option.some.injEq] at hh;subst hh;unfold z1v;rw[if_neg (hl.ne _ _ hx),hl.again _ _ _ hx];simp only[h2,if_false]
theorem zj7 (s:Bs) (hs:z0W s=true) (hlow:Lib.toLowerA s=s) (hf:s≠sFile) (a:Auth) (ha:GoodAuth H s a) (l:List Bs) (hg:z2j s l) (hn:z0b s=true→l≠[]) (q f:Option Bs) (hq:∀x,q=some x→∀c∈x,z0n (z0q s) c.toNat=false) (hfr:∀x,f=some x→∀c∈x,z0n 1 c.toNat=false):Good H ⟨s,a,⟨false,[],l⟩,q,f⟩:=
 ⟨hs,hlow,ha.user,ha.pass,fun h=>(by rw[ha.has] at h;cases h),fun _ _=>ha.host,fun h=>absurd h hf,ha.empty,fun h=>absurd h hf,ha.port,fun h=>⟨ha.has,rfl,hn h⟩,fun h=>(by cases h),fun _=>⟨rfl,fun h=>(by rw[ha.has] at h;cases h)⟩,hg.1,fun h=>absurd h hf,hq,hfr⟩
theorem z6v (h:Bs) (hh:z1v H h=some h) (l:List Bs) (hg:z2j sFile l) (hn:l≠[]) (q f:Option Bs) (hq:∀x,q=some x→∀c∈x,z0n (z0q sFile) c.toNat=false) (hfr:∀x,f=some x→∀c∈x,z0n 1 c.toNat=false):Good H ⟨sFile,z1P h,⟨false,[],l⟩,q,f⟩:=
 ⟨zal.1,zal.2.1,fun c hc=>(by cases hc),fun c hc=>(by cases hc),fun h=>(by cases h),fun _ h=>absurd rfl h,fun _=>hh,fun _=>⟨rfl,rfl,rfl⟩,fun _=>⟨rfl,rfl,rfl⟩,Or.inl rfl,fun _=>⟨rfl,rfl,hn⟩,fun h=>(by cases h),fun _=>⟨rfl,fun h=>(by cases h)⟩,hg.1,hg.2,hq,hfr⟩
theorem zeI (b:Adr) (hb:Good H b) (l:List Bs) (hg:z2j b.scheme l) (hn:l≠[]) (q f:Option Bs) (hq:∀x,q=some x→∀c∈x,z0n (z0q b.scheme) c.toNat=false) (hfr:∀x,f=some x→∀c∈x,z0n 1 c.toNat=false):Good H ⟨b.scheme,b.auth,⟨false,[],l⟩,q,f⟩:=
 ⟨hb.scheme,hb.low,hb.user,hb.pass,hb.bare,hb.host,hb.hostF,hb.empty,hb.file,hb.port,fun h=>⟨(hb.spec h).1,rfl,hn⟩,fun h=>(by cases h),fun _=>⟨rfl,fun _=>hn⟩,hg.1,hg.2,hq,hfr⟩
theorem zd0 (b:Adr) (hb:Good H b) (q f:Option Bs) (hq:∀x,q=some x→∀c∈x,z0n (z0q b.scheme) c.toNat=false) (hfr:∀x,f=some x→∀c∈x,z0n 1 c.toNat=false):Good H ⟨b.scheme,b.auth,b.way,q,f⟩:=
 ⟨hb.scheme,hb.low,hb.user,hb.pass,hb.bare,hb.host,hb.hostF,hb.empty,hb.file,hb.port,hb.spec,hb.opaq,hb.text,hb.seg,hb.drive,hq,hfr⟩
theorem Good.segs (b:Adr) (hb:Good H b):z2j b.scheme b.way.segs:=⟨hb.seg,hb.drive⟩
theorem z6D (hl:HostLaws H) (s:Bs) (hs:z0W s=true) (hlow:Lib.toLowerA s=s) (hf:s≠sFile) (t:Bs) (ht:z0b s=true→∀c∈t,c≠92) (a:Auth) (w:Way) (h:z0Q H s t=.ok (a,w)) (q f:Option Bs) (hq:∀x,q=some x→∀c∈x,z0n (z0q s) c.toNat=false) (hfr:∀x,f=some x→∀c∈x,z0n 1 c.toNat=false):Good H ⟨s,a,w,q,f⟩:=by
 unfold z0Q at h;simp only at h;cases hr:z2i H (z0l t).1 s with
 |error e=>rw[hr] at h;cases h
 |ok x=>rw[hr] at h;simp only[Except.ok.injEq,Prod.mk.injEq] at h;obtain⟨rfl,rfl⟩:=h;have hk:=z3R s [] (z0l t).2 (z3i s) (fun hs c hc=>ht hs c ((z9t t).1 c hc));exact zj7 H s hs hlow hf x (zdL H hl _ s x hr) _ hk.1 (fun hs=>hk.2 (Or.inl hs)) q f hq hfr
theorem zd1 (m:Bs) (b:Adr) (hb:Good H b) (hm:z0b b.scheme=true→∀c∈m,c≠92) (q f:Option Bs) (hq:∀x,q=some x→∀c∈x,z0n (z0q b.scheme) c.toNat=false) (hfr:∀x,f=some x→∀c∈x,z0n 1 c.toNat=false):Good H ⟨b.scheme,b.auth,(z2X b.scheme m q b).1,(z2X b.scheme m q b).2,f⟩:=by
 unfold z2X;split
 ·rename_i hne
  have hk:=z3R b.scheme (z08 b.scheme b.way.segs) m (z7a _ _ (Good.segs H b hb)) hm;exact zeI H b hb _ hk.1 (hk.2 (Or.inr hne)) q f hq hfr
 ·refine zd0 H b hb _ f ?_ hfr
  split
  ·exact hq
  ·exact hb.query
theorem zeJ (l:List Bs) (h:z2j sFile l):z2j sFile (z13 l):=by
 unfold z13;split
 ·refine⟨fun p hp=>h.1 p (List.mem_of_mem_take hp),fun hs=>?_⟩
  cases l with
  |nil=>exact fun h=>by cases h
  |cons x l=>exact h.2 hs
 ·exact z3i _
theorem zj8 (b:Adr) (hb:Good H b) (hs:b.scheme=sFile):z1P b.auth.host=b.auth:=by
 obtain⟨h1,h2,h3⟩:=hb.file hs;have h4:=(hb.spec (by rw[hs];decide)).1;cases ha:b.auth with
 |mk u p h o n=>rw[ha] at h1 h2 h3 h4;simp only at h1 h2 h3 h4;subst h1;subst h2;subst h3;subst h4;rfl
theorem zdN (hl:HostLaws H) (m:Bs) (hm:∀c∈m,c≠92) (base:Option Adr) (hb:∀b,base=some b→Good H b∧b.scheme=sFile) (q f:Option Bs) (hq:∀x,q=some x→∀c∈x,z0n (z0q sFile) c.toNat=false) (hfr:∀x,f=some x→∀c∈x,z0n 1 c.toNat=false) (a:Auth) (w:Way) (q2:Option Bs) (h:z1Q H m q base=.ok (a,w,q2)):Good H ⟨sFile,a,w,q2,f⟩:=by
 have hsp:z0b sFile=true:=by decide
 unfold z1Q at h;simp only at h;split at h
 ·split at h
  ·simp only[Except.ok.injEq,Prod.mk.injEq] at h
   obtain⟨rfl,rfl,rfl⟩:=h;have hk:=z3R sFile [] (m.drop 2) (z3i _) (fun _ c hc=>hm c (List.mem_of_mem_drop hc));exact z6v H [] rfl _ hk.1 (hk.2 (Or.inl hsp)) q f hq hfr
  ·cases hx:z1v H (z0l (m.drop 2)).1 with
   |none=>rw[hx] at h;cases h
   |some x=>rw[hx] at h;simp only[Except.ok.injEq,Prod.mk.injEq] at h;obtain⟨rfl,rfl,rfl⟩:=h;have hk:=z3R sFile [] (z0l (m.drop 2)).2 (z3i _) (fun _ c hc=>hm c (List.mem_of_mem_drop ((z9t _).1 c hc)));exact z6v H x (zdM H hl _ x hx) _ hk.1 (hk.2 (Or.inl hsp)) q f hq hfr
 ·cases base with
  |none=>simp only[Except.ok.injEq,Prod.mk.injEq] at h;obtain⟨rfl,rfl,rfl⟩:=h;have hk:=z3R sFile [] m (z3i _) (fun _=>hm);exact z6v H [] rfl _ hk.1 (hk.2 (Or.inl hsp)) q f hq hfr
  |some b=>
   obtain⟨hg,hbs⟩:=hb b rfl;have hgs:=Good.segs H b hg;rw[hbs] at hgs;simp only at h;split at h
   ·simp only[Except.ok.injEq,Prod.mk.injEq] at h
    obtain⟨rfl,rfl,rfl⟩:=h;have hk:=z3R sFile [] m (z3i _) (fun _=>hm);exact z6v H _ (hg.hostF hbs) _ hk.1 (hk.2 (Or.inl hsp)) q f hq hfr
   ·split at h
    ·simp only[Except.ok.injEq,Prod.mk.injEq] at h
     obtain⟨rfl,rfl,rfl⟩:=h;have hk:=z3R sFile (z13 b.way.segs) m (zeJ _ hgs) (fun _=>hm);exact z6v H _ (hg.hostF hbs) _ hk.1 (hk.2 (Or.inl hsp)) q f hq hfr
    ·simp only[Except.ok.injEq,Prod.mk.injEq] at h
     obtain⟨rfl,rfl,rfl⟩:=h;have hk:=zd1 H m b hg (fun _=>hm) q f (by rw[hbs];exact hq) hfr;rw[zj8 H b hg hbs];rw[hbs] at hk;exact hk
theorem za8 (hl:HostLaws H) (m:Bs) (b:Adr) (hb:Good H b) (hf:b.scheme≠sFile) (hm:z0b b.scheme=true→∀c∈m,c≠92) (q f:Option Bs) (hq:∀x,q=some x→∀c∈x,z0n (z0q b.scheme) c.toNat=false) (hfr:∀x,f=some x→∀c∈x,z0n 1 c.toNat=false) (a:Auth) (w:Way) (q2:Option Bs) (h:z0U H b.scheme m q b=.ok (a,w,q2)):Good H ⟨b.scheme,a,w,q2,f⟩:=by
 unfold z0U at h;simp only at h;split at h
 ·cases hx:z0Q H b.scheme (if z0b b.scheme=true then z0x (m.drop 2) else m.drop 2) with
  |error e=>rw[hx] at h;cases h
  |ok p=>obtain⟨x,y⟩:=p;rw[hx] at h;simp only[Except.ok.injEq,Prod.mk.injEq] at h;obtain⟨rfl,rfl,rfl⟩:=h;refine z6D H hl b.scheme hb.scheme hb.low hf _ (fun hs c hc=>hm hs c ?_) x y hx q f hq hfr;rw[if_pos hs] at hc;exact List.mem_of_mem_drop ((List.dropWhile_sublist _).subset hc)
 ·split at h
  ·rename_i h1
   simp only[Except.ok.injEq,Prod.mk.injEq] at h;obtain⟨rfl,rfl,rfl⟩:=h;have hk:=z3R b.scheme [] m (z3i _) hm;exact zeI H b hb _ hk.1 (hk.2 (Or.inr (fun e=>by rw[e] at h1;cases h1))) q f hq hfr
  ·simp only[Except.ok.injEq,Prod.mk.injEq] at h
   obtain⟨rfl,rfl,rfl⟩:=h;exact zd1 H m b hb hm q f hq hfr
theorem zbD (m:Bs) (hm:∀c∈m,c≠35∧c≠63):∀c∈z0X m,33≤c.toNat∧c.toNat≤126∧c≠35∧c≠63:=by
 have f0:∀c:Fin 256,z0n 0 c.val=false→32≤c.val∧c.val≤126:=by decide+kernel
 have fh:∀k:Fin 16,33≤(z0T k.val).toNat∧(z0T k.val).toNat≤126∧z0T k.val≠35∧z0T k.val≠63:=by decide+kernel
 intro c hc;unfold z0X at hc;obtain⟨b,hb,hc⟩:=List.mem_flatMap.1 hc;split at hc
 ·simp only[List.mem_cons,List.not_mem_nil,or_false] at hc
  rcases hc with rfl|rfl|rfl<;>decide
 ·rename_i h32
  rw[List.mem_singleton] at hc;subst hc;rcases z8a 0 m c hb with⟨h1,h2⟩|rfl|⟨k,rfl⟩
  ·have:=f0 ⟨c.toNat,c.toNat_lt⟩ h2
   have hne:c.toNat≠32:=fun e=>h32 (z79 c 32 e);have h32:32≤c.toNat:=this.1;exact⟨by omega,this.2,hm c h1⟩
  ·decide
  ·exact fh k
theorem zcz (m:Bs) (h:¬m.head? =some 47):(z0X m).head?≠some 47:=by
 cases m with
 |nil=>intro h;cases h
 |cons c m=>
  have hc:c≠47:=fun e=>h (by rw[e];rfl);unfold z0X;cases hb:z0n 0 c.toNat with
  |true=>rw[z3F 0 c m hb];simp[List.flatMap_cons]
  |false=>
   rw[z2K 0 c m hb,List.flatMap_cons];split
   ·simp
   ·simpa using hc
theorem zcA (hl:HostLaws H) (s m:Bs) (hs:z0W s=true) (hlow:Lib.toLowerA s=s) (hsp:z0b s=false) (hm:∀c∈m,c≠35∧c≠63) (q f:Option Bs) (hq:∀x,q=some x→∀c∈x,z0n (z0q s) c.toNat=false) (hfr:∀x,f=some x→∀c∈x,z0n 1 c.toNat=false) (a:Auth) (w:Way) (h:z1l H s m=.ok (a,w)):Good H ⟨s,a,w,q,f⟩:=by
 have hf:s≠sFile:=by rintro rfl;exact absurd hsp (by decide)
 unfold z1l at h;split at h
 ·exact z6D H hl s hs hlow hf _ (fun h2=>by rw[hsp] at h2;cases h2) a w h q f hq hfr
 ·split at h
  ·rename_i h1
   simp only[Except.ok.injEq,Prod.mk.injEq] at h;obtain⟨rfl,rfl⟩:=h;have hk:=z3R s [] m (z3i _) (fun h2=>by rw[hsp] at h2;cases h2);have hn:=hk.2 (Or.inr (fun e=>by rw[e] at h1;cases h1));exact⟨hs,hlow,fun c hc=>(by cases hc),fun c hc=>(by cases hc),fun _=>rfl,fun h=>(by cases h),fun h=>absurd h hf,fun _=>⟨rfl,rfl,rfl⟩,fun h=>absurd h hf,Or.inl rfl,fun h=>(by rw[hsp] at h;cases h),fun h=>(by cases h),fun _=>⟨rfl,fun _=>hn⟩,hk.1.1,fun h=>absurd h hf,hq,hfr⟩
  ·rename_i h1
   simp only[Except.ok.injEq,Prod.mk.injEq] at h;obtain⟨rfl,rfl⟩:=h;exact⟨hs,hlow,fun c hc=>(by cases hc),fun c hc=>(by cases hc),fun _=>rfl,fun h=>(by cases h),fun h=>absurd h hf,fun _=>⟨rfl,rfl,rfl⟩,fun h=>absurd h hf,Or.inl rfl,fun h=>(by rw[hsp] at h;cases h),fun _=>⟨rfl,rfl,zbD m hm,zcz m h1⟩,fun h=>(by cases h),fun p hp=>(by cases hp),fun h=>absurd h hf,hq,hfr⟩
theorem z7v (hl:HostLaws H) (s m:Bs) (hs:z0W s=true) (hlow:Lib.toLowerA s=s) (hm:∀c∈m,c≠35∧c≠63) (q f:Option Bs) (base:Option Adr) (hb:∀b,base=some b→Good H b∧b.scheme=s) (a:Adr) (h:z1p H s m q f base=.ok a):Good H a:=by
 unfold z1p at h;have hq:∀x,q.map (esc (z0q s))=some x→∀c∈x,z0n (z0q s) c.toNat=false:=by
  intro x hx;cases q with
  |none=>cases hx
  |some y=>simp only[Option.map_some,Option.some.injEq] at hx;subst hx;exact fun c hc=>zkL s y c hc
 have hfr:∀x,f.map (esc 1)=some x→∀c∈x,z0n 1 c.toNat=false:=by
  intro x hx;cases f with
  |none=>cases hx
  |some y=>simp only[Option.map_some,Option.some.injEq] at hx;subst hx;exact fun c hc=>z6Q 1 (by omega) y c hc
 have hm2:∀c∈z02 s m,c≠35∧c≠63:=by
  intro c hc;rcases(zbC s m).1 c hc with h|rfl
  ·exact hm c h
  ·decide
 have hm3:=(zbC s m).2;cases hr:z17 H s (z02 s m) (q.map (esc (z0q s))) base with
 |error e=>rw[hr] at h;cases h
 |ok p=>
  obtain⟨x,y,q2⟩:=p;rw[hr] at h;simp only[Except.ok.injEq] at h;subst h;unfold z17 at hr;split at hr
  ·rename_i hsf
   subst hsf;exact zdN H hl _ (hm3 (by decide)) base (fun b hx=>⟨(hb b hx).1,(hb b hx).2⟩) _ _ hq hfr x y q2 hr
  ·rename_i hsf
   cases base with
   |some b=>obtain⟨hg,rfl⟩:=hb b rfl;exact za8 H hl _ b hg hsf hm3 _ _ hq hfr x y q2 hr
   |none=>
    simp only at hr;split at hr
    ·cases hr
    ·rename_i a2 w2 hx
     simp only[Except.ok.injEq,Prod.mk.injEq] at hr;obtain⟨rfl,rfl,rfl⟩:=hr;split at hx
     ·rename_i hsp
      exact z6D H hl s hs hlow hsf _ (fun hs2 c hc=>hm3 hs2 c ((List.dropWhile_sublist _).subset hc)) _ _ hx _ _ hq hfr
     ·rename_i hsp
      exact zcA H hl s _ hs hlow (by simpa using hsp) hm2 _ _ hq hfr _ _ hx
theorem zd2 (hl:HostLaws H) (t:Bs) (base:Option Adr) (hb:∀b,base=some b→Good H b) (a:Adr) (h:z0C H t base=.ok a):Good H a:=by
 unfold z0C z3o at h;have hc:=z8N (z24 t);generalize z1K (z24 t)=c at*;split at h
 ·rename_i hs
  refine z7v H hl c.scheme c.middle (hc.1 hs).1 (hc.1 hs).2 hc.2 c.query c.frag _ (fun b hx=>?_) a h;cases base with
  |none=>cases hx
  |some d=>
   have hx:(if d.scheme=c.scheme∧z0b c.scheme=true then some d else none)=some b:=hx;split at hx
   ·rename_i h2
    simp only[Option.some.injEq] at hx;subst hx;exact⟨hb d rfl,h2.1⟩
   ·cases hx
 ·cases base with
  |none=>cases h
  |some b=>
   have hg:=hb b rfl;simp only at h;split at h
   ·rename_i ho
    split at h
    ·simp only[Except.ok.injEq] at h
     subst h;refine zd0 H b hg _ _ hg.query ?_;intro x hx;cases hf:c.frag with
     |none=>rw[hf] at hx;cases hx
     |some y=>rw[hf] at hx;simp only[Option.map_some,Option.some.injEq] at hx;subst hx;exact fun d hd=>z6Q 1 (by omega) y d hd
    ·cases h
   ·rename_i ho
    exact z7v H hl b.scheme c.middle hg.scheme hg.low hc.2 c.query c.frag (some b) (fun d hd=>by simp only[Option.some.injEq] at hd;subst hd;exact⟨hg,rfl⟩) a h
end
section
variable (H : Bs → Bool → Option Bs)
def z9v (t:Bs):Except Int Adr:=if t.length>2000 then .error 1 else z0C H t none
theorem z7b (s v:Bs) (h:v≠[]):z02 s v≠[]:=by
 unfold z02;split
 ·simpa using h
 ·exact h
end
def z28:List UInt8→Bool
 | []=>false
 |a::l=>(a==58&&l.head? ==some 58)||z28 l
theorem zjS (a:UInt8) (l:List UInt8) (h:(a==58&&l.head? ==some 58)=false):List.isPrefixOf [58,58] (a::l)=false:=by
 cases l with
 |nil=>simp[List.isPrefixOf]
 |cons b l=>
  simp only[List.head?_cons,Bool.and_eq_false_iff] at h;simp only[List.isPrefixOf,Bool.and_true,Bool.and_eq_false_iff];rcases h with h|h
  ·left
   rw[beq_eq_false_iff_ne] at h⊢;exact fun e=>h e.symm
  ·right
   rw[beq_eq_false_iff_ne] at h⊢;exact fun e=>h (by rw[e])
theorem z8V:∀l:List UInt8,z28 l=false→Lib.index l [58,58]= -1
 | [],_=>by simp[Lib.index]
 |a::l,h=>by
  rw[z28,Bool.or_eq_false_iff] at h;rw[Lib.index,zjS a l h.1,z8V l h.2];rfl
theorem z8I (l:List UInt8) (h:z28 l=false):Lib.cut l [58,58]=(l,[],false):=by unfold Lib.cut;rw[z8V l h];rfl
theorem zlB (q r:List UInt8) (x:UInt8):(q++x::r).head? =(q++ [x]).head?:=by cases q<;>rfl
theorem z9Q (r:List UInt8):∀p:List UInt8,z28 (p++ [58])=false→Lib.index (p++58::58::r) [58,58]=p.length
 | [],_=>by
  show Lib.index (58::58::r) [58,58]=0;rw[Lib.index];simp[List.isPrefixOf]
 |a::q,h=>by
  rw[List.cons_append,z28,Bool.or_eq_false_iff] at h;have ih:=z9Q r q h.2;show Lib.index (a::(q++58::58::r)) [58,58]=_;rw[Lib.index,zjS a _ (by rw[zlB];exact h.1),ih];simp only[Bool.false_eq_true,if_false];rw[if_neg (by simp)];simp
theorem cut_hit (p r:List UInt8) (h:z28 (p++ [58])=false):Lib.cut (p++58::58::r) [58,58]=(p,r,true):=by unfold Lib.cut;rw[z9Q r p h,if_pos (by omega)];simp
def z3e:List (List UInt8)→List UInt8
 | []=>[]
 | [x]=>x
 |x::y::l=>x++58::z3e (y::l)
theorem zaE:∀ls:List (List UInt8),ls≠[]→(∀x∈ls,∀c∈x,c≠58)→z0a 58 (z3e ls)=ls
 | [],h,_=>absurd rfl h
 | [x],_,h=>z3L 58 x (h x (by simp))
 |x::y::l,_,h=>by
  rw[z3e,z2W 58 _ x (h x (by simp)),zaE (y::l) (by simp) (fun z hz=>h z (by simp[hz]))]
def z6h (x:List UInt8):Prop:=x≠[]∧∀c∈x,c≠58
theorem zfw (r:List UInt8) (hr:z28 r=false):∀x:List UInt8,(∀c∈x,c≠58)→z28 (x++r)=false
 | [],_=>hr
 |a::x,h=>by
  rw[List.cons_append,z28,Bool.or_eq_false_iff];refine⟨?_,zfw r hr x (fun c hc=>h c (by simp[hc]))⟩;have:(a==58)=false:=by rw[beq_eq_false_iff_ne];exact h a (by simp)
  rw[this];rfl
theorem zib:∀ls:List (List UInt8),ls≠[]→(∀x∈ls,z6h x)→∀r,(z3e ls++r).head?≠some 58
 | [],h,_,_=>absurd rfl h
 | [x],_,h,r=>by
  obtain⟨h1,h2⟩:=h x (by simp);cases x with
  |nil=>exact absurd rfl h1
  |cons a x=>simp[z3e];exact h2 a (by simp)
 |x::y::l,_,h,r=>by
  obtain⟨h1,h2⟩:=h x (by simp);cases x with
  |nil=>exact absurd rfl h1
  |cons a x=>simp[z3e];exact h2 a (by simp)
theorem zb9 (r:List UInt8) (hr:z28 r=false):∀ls:List (List UInt8),(∀x∈ls,z6h x)→z28 (z3e ls++r)=false
 | [],_=>hr
 | [x],h=>zfw r hr x (h x (by simp)).2
 |x::y::l,h=>by
  have ih:=zb9 r hr (y::l) (fun z hz=>h z (by simp[hz]));rw[z3e,List.append_assoc];refine zfw _ ?_ x (h x (by simp)).2;rw[List.cons_append,z28,Bool.or_eq_false_iff];refine⟨?_,ih⟩;have:=zib (y::l) (by simp) (fun z hz=>h z (by simp[hz])) r;rw[Bool.and_eq_false_iff];right;rw[beq_eq_false_iff_ne];exact this
def z6i (ls:List (List UInt8×Nat)):Prop:=∀y∈ls,z6h y.1∧z0N y.1=some (y.2:Int)∧¬0≤Lib.indexByte y.1 46
theorem z7k:∀(ls:List (List UInt8×Nat)) (ps:List Int),z6i ls→z29 ps (ls.map (·.1))=some (ps++ls.map fun y=>(y.2:Int))
 | [],ps,_=>by simp[z29]
 |y::ls,ps,h=>by
  have h1:=(h y (by simp)).2.1;have ih:=z7k ls (ps++ [(y.2:Int)]) (fun z hz=>h z (by simp[hz]));simp only[List.map_cons,z29,h1,ih,List.append_assoc,List.singleton_append]
theorem z8W (ls:List (List UInt8×Nat)) (h:z6i ls):z1s (ls.map (·.1))=some (ls.map fun y=>(y.2:Int)):=by
 unfold z1s;cases hl:(ls.map (·.1)).getLast? with
 |none=>
  have:ls=[]:=by simpa using hl
  subst this;rfl
 |some x=>have hm:=List.mem_of_getLast? hl;obtain⟨y,hy,rfl⟩:=List.mem_map.1 hm;simp only[(h y hy).2.2,if_false];exact z7k ls [] h
theorem z7U (ls:List (List UInt8×Nat)) (h:z6i ls):z0Z (z3e (ls.map (·.1)))=ls.map (·.1):=by
 unfold z0Z;cases ls with
 |nil=>rfl
 |cons y l=>
  have hne:z3e ((y::l).map (·.1))≠[]:=by
   intro e;have h2:=(h y (by simp)).1.1;cases l with
   |nil=>simp[z3e] at e;exact h2 e
   |cons z l=>simp[z3e] at e
  rw[if_neg hne];exact zaE _ (by simp) (fun x hx=>by
   obtain⟨z,hz,rfl⟩:=List.mem_map.1 hx;exact(h z hz).1.2)
theorem zic (ls:List (List UInt8×Nat)) (h:z6i ls) (h8:ls.length=8):z2s (z3e (ls.map (·.1)))=some (ls.map fun y=>(y.2:Int)):=by
 have hp:∀x∈ls.map (·.1),z6h x:=fun x hx=>by
  obtain⟨z,hz,rfl⟩:=List.mem_map.1 hx;exact(h z hz).1
 have hc:=zb9 [] rfl (ls.map (·.1)) hp;rw[List.append_nil] at hc;unfold z2s;rw[z8I _ hc];simp only[z7U ls h,z8W ls h];rw[show z0E (z0Z [])=some [] from rfl];simp[z2S,h8]
theorem zgs (fs gs:List (List UInt8×Nat)) (hf:z6i fs) (hg:z6i gs) (h8:fs.length+gs.length<8):z2s (z3e (fs.map (·.1))++58::58::z3e (gs.map (·.1)))=some ((fs.map fun y=>(y.2:Int))++(List.replicate (8- fs.length- gs.length) 0++gs.map fun y=>(y.2:Int))):=by
 have hp:∀x∈fs.map (·.1),z6h x:=fun x hx=>by
  obtain⟨z,hz,rfl⟩:=List.mem_map.1 hx;exact(hf z hz).1
 have hc:=zb9 [58] (by decide) (fs.map (·.1)) hp;unfold z2s;rw[cut_hit _ _ hc];simp only[z7U fs hf,z7U gs hg,z8W gs hg];rw[show z0E (fs.map (·.1))=some (fs.map fun y=>(y.2:Int)) from z7k fs [] hf];have:(fs.length:Int)+(gs.length:Int)<8:=by omega
 simp[z2S,this]
theorem zid:∀d:Fin 16,z1A d.val≠58∧z1A d.val≠46:=by decide+kernel
theorem zdp (n:Nat) (hn:n<65536) (c:UInt8) (hc:c∈z0O 16 3 n):c≠58∧c≠46:=by obtain⟨d,hd,rfl⟩:=z76 16 (by omega) 3 n hn c hc;exact zid ⟨d,hd⟩
theorem zfx (n:Nat) (hn:n<65536):z0O 16 3 n≠[]:=by obtain⟨d,r,h,_⟩:=z4U 16 (by omega) 3 n hn;rw[h];simp
theorem zoy (l:List UInt8) (h:∀c∈l,c≠46):¬0≤Lib.indexByte l 46:=by
 rcases z2D 46 l with⟨h1,_⟩|⟨p,r,rfl,_,_⟩
 ·rw[h1];decide
 ·exact absurd rfl (h 46 (by simp))
theorem zgt (n:Nat) (hn:n<65536):z6h (z0O 16 3 n)∧z0N (z0O 16 3 n)=some (n:Int)∧¬0≤Lib.indexByte (z0O 16 3 n) 46:=by refine⟨⟨zfx n hn,fun c hc=>(zdp n hn c hc).1⟩,?_,zoy _ fun c hc=>(zdp n hn c hc).2⟩;have h1:=z4u 16 3 n;have h2:=List.length_pos_iff.2 (zfx n hn);unfold z0N;rw[if_neg (by omega)];exact z75 16 65535 (by omega) (by omega) 3 n hn (by omega)
def z4f (ns:List Nat):List (List UInt8×Nat):=ns.map fun n=>(z0O 16 3 n,n)
theorem z6F (ns:List Nat) (h:∀n∈ns,n<65536):z6i (z4f ns):=by intro y hy;obtain⟨n,hn,rfl⟩:=List.mem_map.1 hy;exact zgt n (h n hn)
theorem zaF (ns:List Nat):(z4f ns).map (·.1)=ns.map pieceTxt:=by unfold z4f;rw[List.map_map];rfl
theorem z7V (ns:List Nat):((z4f ns).map fun y=>(y.2:Int))=ns.map fun n:Nat=>(n:Int):=by unfold z4f;rw[List.map_map];rfl
theorem zjT:∀ls:List (List UInt8),Lib.join ls [58]=z3e ls
 | []=>rfl
 | [x]=>Lib.join_one x [58]
 |x::y::l=>by
  have ih:=zjT (y::l);rw[Lib.join_cons] at ih⊢;rw[z3e,←ih];simp[Lib.joinTail]
theorem z7C (ns:List Nat):z0A ns=z3e ((z4f ns).map (·.1)):=by rw[zaF];exact zjT _
theorem zjU (ns:List Nat):(ns.map fun n:Nat=>(n:Int)).map Int.toNat=ns:=by rw[List.map_map];refine(List.map_congr_left fun n _=>?_).trans (List.map_id ns);simp
theorem zfy (l:List UInt8) (ns:List Nat) (h:z2s l=some (ns.map fun n:Nat=>(n:Int))):z1N (l++ [93])=some ([91]++(z1C ns++ [93])):=by
 have hs:Lib.hasSuffix (l++ [93]) [93]=true:=by simp[Lib.hasSuffix]
 unfold z1N;rw[if_pos hs];have ht:Lib.trimSuffix (l++ [93]) [93]=l:=by unfold Lib.trimSuffix;rw[if_pos hs];simp
 rw[ht,h];simp only[zjU]
theorem z5Z (ns:List Nat):∀(k i row s l:Nat),i+k=ns.length→row≤i→(∀j,i- row≤j→j<i→ns[j]?=some 0)→(∀j,s≤j→j<s+l→ns[j]?=some 0)→∀j,(z0B (ns.drop i) i row s l).1≤j→j<(z0B (ns.drop i) i row s l).1+(z0B (ns.drop i) i row s l).2→ns[j]?=some 0
 |0,i,row,s,l,hi,_,_,h2=>by
  rw[List.drop_eq_nil_of_le (by omega)];exact h2
 |k+1,i,row,s,l,hi,hr,h1,h2=>by
  obtain⟨x,hx⟩:∃x,ns[i]?=some x:=⟨ns[i]'(by omega),by simp⟩;obtain⟨hlt,he⟩:=List.getElem?_eq_some_iff.1 hx;rw[List.drop_eq_getElem_cons hlt,he];unfold z0B;split
  ·exact z5Z ns k (i+1) 0 s l (by omega) (by omega) (fun j a b=>absurd b (by omega)) h2
  ·rename_i h0
   have hx0:=Decidable.not_not.1 h0;subst hx0;have h3:∀j,i- row≤j→j<i+1→ns[j]?=some 0:=by
    intro j a b;by_cases hj:j=i
    ·rw[hj];exact hx
    ·exact h1 j a (by omega)
   split
   ·exact z5Z ns k (i+1) (row+1) (i- row) (row+1) (by omega) (by omega) (fun j a b=>h3 j (by omega) b) (fun j a b=>h3 j a (by omega))
   ·exact z5Z ns k (i+1) (row+1) s l (by omega) (by omega) (fun j a b=>h3 j (by omega) b) h2
theorem zlC (ns:List Nat) (s l:Nat) (h:∀j,s≤j→j<s+l→ns[j]?=some 0):ns=ns.take s++(List.replicate l 0++ns.drop (s+l)):=by
 have e:(ns.drop s).take l=List.replicate l 0:=by
  apply List.ext_getElem?;intro j;rw[List.getElem?_take,List.getElem?_replicate];by_cases hj:j<l
  ·rw[if_pos hj,if_pos hj,List.getElem?_drop]
   exact h (s+j) (by omega) (by omega)
  ·rw[if_neg hj,if_neg hj]
 rw[←e,show s+l=s+l from rfl,←List.drop_drop,List.take_append_drop,List.take_append_drop]
theorem zjV (ns:List Nat) (s l:Nat) (h8:ns.length=8) (hn:∀n∈ns,n<65536) (hl:s+l≤8) (hl1:1≤l) (h:∀j,s≤j→j<s+l→ns[j]?=some 0):z2s (z0A (ns.take s)++58::58::z0A (ns.drop (s+l)))=some (ns.map fun n:Nat=>(n:Int)):=by
 rw[z7C,z7C,zgs _ _ (z6F _ fun n hm=>hn n (List.mem_of_mem_take hm)) (z6F _ fun n hm=>hn n (List.mem_of_mem_drop hm)) (by simp[z4f];omega),z7V,z7V];have e:=zlC ns s l h;have hk:8-(z4f (ns.take s)).length-(z4f (ns.drop (s+l))).length=l:=by simp[z4f];omega
 rw[hk];conv=>rhs;rw[e]
 simp
theorem zgu (ns:List Nat) (h8:ns.length=8) (hn:∀n∈ns,n<65536):z2s (z0A ns)=some (ns.map fun n:Nat=>(n:Int)):=by rw[z7C,zic _ (z6F ns hn) (by simp[z4f,h8]),z7V]
theorem zie (ns:List Nat) (h8:ns.length=8) (hn:∀n∈ns,n<65536):z2s (z1C ns)=some (ns.map fun n:Nat=>(n:Int)):=by
 unfold z1C;split
 ·exact zgu ns h8 hn
 ·rename_i hl
  have hb:=z4C 8 ns 0 0 0 0 (by omega) (by omega) (by omega);have hz:=z5Z ns 8 0 0 0 0 (by omega) (by omega) (fun j a b=>absurd b (by omega)) (fun j a b=>absurd b (by omega));rw[List.drop_zero] at hz;exact zjV ns _ _ h8 hn hb (by omega) hz
theorem zjR:∀ls:List (List UInt8),Lib.join ls [46]=z2A ls
 | []=>rfl
 | [x]=>Lib.join_one x [46]
 |x::y::l=>by
  have ih:=zjR (y::l);rw[Lib.join_cons] at ih⊢;rw[z2A,←ih];simp[Lib.joinTail]
def z5u (ns:List Nat):List UInt8:=[91]++(z1C ns++ [93])
theorem zdq:∀(ls:List (List UInt8)) (c:UInt8),c∈z3e ls→c=58∨∃x∈ls,c∈x
 | [],c,h=>by simp[z3e] at h
 | [x],c,h=>Or.inr ⟨x,by simp,h⟩
 |x::y::l,c,h=>by
  rw[z3e] at h;rcases List.mem_append.1 h with h|h
  ·exact Or.inr ⟨x,by simp,h⟩
  ·rcases List.mem_cons.1 h with h|h
   ·exact Or.inl h
   ·rcases zdq (y::l) c h with h|⟨z,hz,hc⟩
    ·exact Or.inl h
    ·exact Or.inr ⟨z,by simp at hz⊢;exact Or.inr hz,hc⟩
theorem zjW (ns:List Nat) (h8:ns.length=8) (hn:∀n∈ns,n<65536):z1N ((z5u ns).drop 1)=some (z5u ns):=zfy _ ns (zie ns h8 hn)
theorem badS_fin:∀c:Fin 256,z2p c.val.toUInt8=false→33≤c.val∧c.val≤126∧c.val≠35∧c.val≠47∧c.val≠63∧c.val≠64∧c.val≠92∧c.val≠124∧c.val≠58∧c.val≠91∧c.val≠37∧z2p (Lib.lowerB c.val.toUInt8)=false:=by decide+kernel
theorem z6a (c:UInt8) (h:z2p c=false):(33≤c.toNat∧c.toNat≤126∧c≠35∧c≠47∧c≠63∧c≠64∧c≠92∧c≠124)∧c≠58∧c≠91∧c≠37∧z2p (Lib.lowerB c)=false:=by have:=badS_fin ⟨c.toNat,c.toNat_lt⟩ (by simpa using h);obtain⟨h1,h2,h3,h4,h5,h6,h7,h8,h9,h10,h11,h12⟩:=this;exact⟨⟨h1,h2,z1d c 35 h3 (by omega),z1d c 47 h4 (by omega),z1d c 63 h5 (by omega),z1d c 64 h6 (by omega),z1d c 92 h7 (by omega),z1d c 124 h8 (by omega)⟩,z1d c 58 h9 (by omega),z1d c 91 h10 (by omega),z1d c 37 h11 (by omega),by simpa using h12⟩
theorem zkN:∀c:Fin 256,z2V c.val.toUInt8=false→z0n 0 c.val=false→33≤c.val∧c.val≤126∧c.val≠35∧c.val≠47∧c.val≠63∧c.val≠64∧c.val≠92∧c.val≠124∧c.val≠58∧c.val≠91:=by decide+kernel
theorem zaW (c:UInt8) (h:z2V c=false) (h0:z0n 0 c.toNat=false):(33≤c.toNat∧c.toNat≤126∧c≠35∧c≠47∧c≠63∧c≠64∧c≠92∧c≠124)∧c≠58∧c≠91:=by have:=zkN ⟨c.toNat,c.toNat_lt⟩ (by simpa using h) h0;obtain⟨h1,h2,h3,h4,h5,h6,h7,h8,h9,h10⟩:=this;exact⟨⟨h1,h2,z1d c 35 h3 (by omega),z1d c 47 h4 (by omega),z1d c 63 h5 (by omega),z1d c 64 h6 (by omega),z1d c 92 h7 (by omega),z1d c 124 h8 (by omega)⟩,z1d c 58 h9 (by omega),z1d c 91 h10 (by omega)⟩
theorem zpn:∀k:Fin 16,z2V (z0T k.val)=false∧z0n 0 (z0T k.val).toNat=false:=by decide+kernel
theorem zpo:z2V 37=false∧z0n 0 (37:UInt8).toNat=false:=by decide+kernel
theorem zeN:∀d:Fin 16,(33≤(z1A d.val).toNat∧(z1A d.val).toNat≤126∧z1A d.val≠35∧z1A d.val≠47∧z1A d.val≠63∧z1A d.val≠64∧z1A d.val≠92∧z1A d.val≠124)∧z1A d.val≠93:=by decide+kernel
theorem zg3:∀c:Fin 256,okT c.val.toUInt8=true→33≤c.val∧c.val≤126∧c.val≠35∧c.val≠47∧c.val≠63∧c.val≠64∧c.val≠92∧c.val≠124∧c.val≠58∧c.val≠91:=by decide+kernel
theorem zcB (c:UInt8) (h:okT c=true):(33≤c.toNat∧c.toNat≤126∧c≠35∧c≠47∧c≠63∧c≠64∧c≠92∧c≠124)∧c≠58∧c≠91:=by have:=zg3 ⟨c.toNat,c.toNat_lt⟩ (by simpa using h);obtain⟨h1,h2,h3,h4,h5,h6,h7,h8,h9,h10⟩:=this;exact⟨⟨h1,h2,z1d c 35 h3 (by omega),z1d c 47 h4 (by omega),z1d c 63 h5 (by omega),z1d c 64 h6 (by omega),z1d c 92 h7 (by omega),z1d c 124 h8 (by omega)⟩,z1d c 58 h9 (by omega),z1d c 91 h10 (by omega)⟩
theorem z6I (n:Nat) (hn:n<256):z2Y 2 n=Lib.decDigits n:=by
 have h:(256:Nat)≤10^(31+1):=by decide
 exact z69 31 n (Nat.lt_of_lt_of_le hn h)
theorem zbH (n:Nat) (hn:n<4294967296):z2U n=z2A [z2Y 2 (n/16777216),z2Y 2 (n/65536%256),z2Y 2 (n/256%256),z2Y 2 (n%256)]:=by
 unfold z2U;rw[zjR];have e0:z2m n 0=n/16777216:=by unfold z2m;omega
 have e1:z2m n 1=n/65536%256:=by unfold z2m;omega
 have e2:z2m n 2=n/256%256:=by unfold z2m;omega
 have e3:z2m n 3=n%256:=by unfold z2m;omega
 rw[e0,e1,e2,e3,z6I _ (by omega),z6I _ (by omega),z6I _ (by omega),z6I _ (by omega)]
theorem z56 (n:Nat) (hn:n<4294967296):z2U n≠[]∧∀c∈z2U n,c=46∨okT c=true:=by
 rw[zbH n hn];refine⟨zat _ (by simp) ?_,fun c hc=>?_⟩
 ·intro x hx
  simp only[List.mem_cons,List.not_mem_nil,or_false] at hx;rcases hx with rfl|rfl|rfl|rfl<;>exact z9r _ _ (by omega)
 ·rcases z78 _ c hc with h|⟨x,hx,hcx⟩
  ·exact Or.inl h
  ·right
   simp only[List.mem_cons,List.not_mem_nil,or_false] at hx;rcases hx with rfl|rfl|rfl|rfl<;>exact z9q _ _ (by omega) c hcx
theorem zhD (n:Nat) (hn:n<4294967296):z14 (z0t (z2U n))=some (z2U n):=by
 conv=>lhs;rw[zbH n hn]
 exact zfZ 2 2 2 2 n hn
theorem zkO (l:Bs) (h:∀c∈l,c≠91):Lib.hasPrefix l [91]=false:=zoZ l h
theorem zm5 (l:Bs):Lib.hasPrefix l [91]=true↔l.head? =some 91:=by
 cases l with
 |nil=>simp[Lib.hasPrefix]
 |cons c l=>simp[Lib.hasPrefix,List.isPrefixOf];exact⟨fun h=>h.symm,fun h=>h.symm⟩
theorem z8Q (ns:List Nat) (hn:∀n∈ns,n<65536):∀c∈z1C ns,c=58∨∃d:Fin 16,c=z1A d.val:=by
 have hrow:∀ms:List Nat,(∀n∈ms,n<65536)→∀c∈z0A ms,c=58∨∃d:Fin 16,c=z1A d.val:=by
  intro ms hm c hc;rw[z7C] at hc;rcases zdq _ c hc with h|⟨x,hx,hcx⟩
  ·exact Or.inl h
  ·right
   rw[zaF] at hx;obtain⟨n,hn2,rfl⟩:=List.mem_map.1 hx;obtain⟨d,hd,rfl⟩:=z76 16 (by omega) 3 n (by have:=hm n hn2;omega) c hcx;exact⟨⟨d,hd⟩,rfl⟩
 intro c hc;unfold z1C at hc;split at hc
 ·exact hrow ns hn c hc
 ·rcases List.mem_append.1 hc with hc|hc
  ·exact hrow _ (fun n h=>hn n (List.mem_of_mem_take h)) c hc
  ·rcases List.mem_append.1 hc with hc|hc
   ·simp at hc;exact Or.inl hc
   ·exact hrow _ (fun n h=>hn n (List.mem_of_mem_drop h)) c hc
theorem zcC (l h:Bs) (hb:z1N l=some h):∃ns:List Nat,ns.length=8∧(∀n∈ns,n<65536)∧h=z5u ns:=by
 unfold z1N at hb;split at hb
 ·cases hs:z2s (Lib.trimSuffix l [93]) with
  |none=>rw[hs] at hb;cases hb
  |some ps=>rw[hs] at hb;simp only[Option.some.injEq] at hb;have hok:=z8G _ ps hs;refine⟨ps.map Int.toNat,by simp[hok.1],fun n hn=>?_,hb.symm⟩;obtain⟨p,hp,rfl⟩:=List.mem_map.1 hn;have:=hok.2 p hp;unfold z3I at this;omega
 ·cases hb
theorem z4a (t:Bs) (sp:Bool) (h:Bs) (ht:hostTell t sp=some h):(t.head? =some 91∧∃ns:List Nat,ns.length=8∧(∀n∈ns,n<65536)∧h=z5u ns)∨(sp=false∧t.any z2V=false∧h=esc 0 t)∨(sp=true∧z0t t≠[]∧(z0t t).any z2p=false∧((∃n,n<4294967296∧h=z2U n)∨(z1R ((z1h (Lib.toLowerA (z0t t))).getLastD [])=false∧h=Lib.toLowerA (z0t t)))):=by
 unfold hostTell at ht;split at ht
 ·rename_i hp
  exact Or.inl ⟨(zm5 t).1 hp,zcC _ h ht⟩
 ·cases sp with
  |false=>
   right;left;simp only[Bool.false_eq_true,if_false] at ht;unfold z2x at ht;split at ht
   ·cases ht
   ·rename_i hb
    simp only[Option.some.injEq] at ht;exact⟨rfl,by simpa using hb,ht.symm⟩
  |true=>
   right;right;simp only[if_true] at ht;unfold z14 at ht;split at ht
   ·cases ht
   ·rename_i hne
    split at ht
    ·cases ht
    ·rename_i hb
     refine⟨rfl,hne,by simpa using hb,?_⟩;split at ht
     ·left
      cases hi:ip4 (z1h (Lib.toLowerA (z0t t))) with
      |none=>rw[hi] at ht;cases ht
      |some a=>rw[hi] at ht;simp only[Option.map_some,Option.some.injEq] at ht;have hr:=zd7 _ a (z6y _) hi;exact⟨a.toNat,by omega,ht.symm⟩
     ·rename_i hnl
      simp only[Option.some.injEq] at ht;exact Or.inr ⟨by simpa using hnl,ht.symm⟩
theorem z9Y (p:UInt8→Bool) (l:Bs):l.any p=false↔∀c∈l,p c=false:=by rw[List.any_eq_false];simp
theorem z6x (t:Bs) (hb:t.any z2V=false):∀c∈esc 0 t,z2V c=false∧z0n 0 c.toNat=false:=by
 intro c hc;rcases z8a 0 t c hc with⟨h1,h2⟩|rfl|⟨k,rfl⟩
 ·exact⟨(z9Y _ _).1 hb c h1,h2⟩
 ·exact zpo
 ·exact zpn k
theorem z6J (x:Bs) (hb:x.any z2p=false):∀c∈Lib.toLowerA x,z2p c=false:=by intro c hc;obtain⟨d,hd,rfl⟩:=List.mem_map.1 hc;exact(z6a d ((z9Y _ _).1 hb d hd)).2.2.2.2
theorem zeO:HostLaws hostTell:=by
 refine⟨?_,?_,?_,?_,by decide+kernel,?_⟩
 ·intro t sp h ht
  rcases z4a t sp h ht with⟨_,ns,h8,hn,rfl⟩|⟨rfl,hb,rfl⟩|⟨rfl,hne,hb,⟨n,hn,rfl⟩|⟨hnl,rfl⟩⟩
  ·unfold hostTell
   rw[if_pos (show Lib.hasPrefix (z5u ns) [91]=true from rfl)];exact zjW ns h8 hn
  ·have hp:=z6x t hb
   unfold hostTell;rw[zkO _ (fun c hc=>(zaW c (hp c hc).1 (hp c hc).2).2.2)];simp only[Bool.false_eq_true,if_false];unfold z2x;rw[if_neg (by rw[(z9Y _ _).2 (fun c hc=>(hp c hc).1)];simp),zeC 0 _ (fun c hc=>(hp c hc).2)]
  ·have hbt:=z56 n hn
   have h91:∀c∈z2U n,c≠91:=fun c hc=>by
    rcases hbt.2 c hc with rfl|h
    ·decide
    ·exact(zcB c h).2.2
   unfold hostTell;rw[zkO _ h91];simp only[Bool.false_eq_true,if_false,if_true];exact zhD n hn
  ·have hg:=z6J _ hb
   unfold hostTell;rw[zkO _ (fun c hc=>(z6a c (hg c hc)).2.2.1)];simp only[Bool.false_eq_true,if_false,if_true];rw[z7M _ (fun c hc=>(z6a c (hg c hc)).2.2.2.1)];unfold z14;rw[if_neg (by unfold Lib.toLowerA;simpa using hne),if_neg (by rw[(z9Y _ _).2 hg];simp),zau,if_neg (by rw[hnl];simp)]
 ·intro t sp h ht
  rcases z4a t sp h ht with⟨_,ns,h8,hn,rfl⟩|⟨rfl,hb,rfl⟩|⟨rfl,hne,hb,⟨n,hn,rfl⟩|⟨hnl,rfl⟩⟩
  ·intro c hc
   unfold z5u at hc;rcases List.mem_append.1 hc with hc|hc
   ·rw[List.mem_singleton] at hc;subst hc;decide
   ·rcases List.mem_append.1 hc with hc|hc
    ·rcases z8Q ns hn c hc with rfl|⟨d,rfl⟩
     ·decide
     ·exact(zeN d).1
    ·rw[List.mem_singleton] at hc;subst hc;decide
  ·exact fun c hc=>(zaW c (z6x t hb c hc).1 (z6x t hb c hc).2).1
  ·intro c hc
   rcases(z56 n hn).2 c hc with rfl|h
   ·decide
   ·exact(zcB c h).1
  ·exact fun c hc=>(z6a c (z6J _ hb c hc)).1
 ·intro t sp h ht
  rcases z4a t sp h ht with⟨_,ns,h8,hn,rfl⟩|⟨rfl,hb,rfl⟩|⟨rfl,hne,hb,⟨n,hn,rfl⟩|⟨hnl,rfl⟩⟩
  ·refine Or.inr ⟨z1C ns,rfl,fun c hc=>?_⟩
   rcases z8Q ns hn c hc with rfl|⟨d,rfl⟩
   ·decide
   ·exact(zeN d).2
  ·exact Or.inl fun c hc=>(zaW c (z6x t hb c hc).1 (z6x t hb c hc).2).2
  ·left
   intro c hc;rcases(z56 n hn).2 c hc with rfl|h
   ·decide
   ·exact(zcB c h).2
  ·exact Or.inl fun c hc=>⟨(z6a c (z6J _ hb c hc)).2.1,(z6a c (z6J _ hb c hc)).2.2.1⟩
 ·intro t h ht
  rcases z4a t true h ht with⟨_,ns,h8,hn,rfl⟩|⟨hx,_⟩|⟨_,hne,hb,⟨n,hn,rfl⟩|⟨hnl,rfl⟩⟩
  ·unfold z5u;simp
  ·cases hx
  ·exact(z56 n hn).1
  ·unfold Lib.toLowerA;simpa using hne
 ·intro t sp ht
  rcases z4a t sp [] ht with⟨_,ns,h8,hn,he⟩|⟨rfl,hb,he⟩|⟨rfl,hne,hb,⟨n,hn,he⟩|⟨hnl,he⟩⟩
  ·unfold z5u at he;simp at he
  ·cases t with
   |nil=>rfl
   |cons c t=>have:=congrArg List.length he;rw[za0] at this;simp at this;omega
  ·exact absurd he.symm (z56 n hn).1
  ·have:=congrArg List.length he
   unfold Lib.toLowerA at this;simp only[List.length_nil,List.length_map] at this;exact absurd (List.length_eq_zero_iff.1 this.symm) hne
variable (H : Bs → Bool → Option Bs)
theorem zeS (t s:Bs) (e:Int) (h:z2i H t s=.error e):e≠0:=by
 unfold z2i at h;simp only at h;split at h
 ·injection h with h;omega
 ·split at h
  ·injection h with h;omega
  ·cases h
theorem z7e (s t:Bs) (e:Int) (h:z0Q H s t=.error e):e≠0:=by
 unfold z0Q at h;simp only at h;cases hr:z2i H (z0l t).1 s with
 |error n=>rw[hr] at h;injection h with h;subst h;exact zeS H _ _ _ hr
 |ok x=>rw[hr] at h;cases h
theorem zeT (m:Bs) (q:Option Bs) (b:Option Adr) (e:Int) (h:z1Q H m q b=.error e):e≠0:=by
 unfold z1Q at h;split at h
 ·simp only at h
  split at h
  ·cases h
  ·split at h
   ·injection h with h;omega
   ·cases h
 ·split at h
  ·cases h
  ·split at h
   ·cases h
   ·split at h
    ·cases h
    ·cases h
theorem zaZ (s m:Bs) (q:Option Bs) (b:Adr) (e:Int) (h:z0U H s m q b=.error e):e≠0:=by
 unfold z0U at h;split at h
 ·cases hr:z0Q H s (if z0b s=true then z0x (m.drop 2) else m.drop 2) with
  |error n=>rw[hr] at h;injection h with h;subst h;exact z7e H _ _ _ hr
  |ok x=>rw[hr] at h;cases h
 ·split at h
  ·cases h
  ·cases h
theorem zdS (s m:Bs) (e:Int) (h:z1l H s m=.error e):e≠0:=by
 unfold z1l at h;split at h
 ·exact z7e H _ _ _ h
 ·split at h
  ·cases h
  ·cases h
theorem zcD (s m:Bs) (q:Option Bs) (b:Option Adr) (e:Int) (h:z17 H s m q b=.error e):e≠0:=by
 unfold z17 at h;split at h
 ·exact zeT H _ _ _ _ h
 ·split at h
  ·exact zaZ H _ _ _ _ _ h
  ·split at h
   ·rename_i n hr
    injection h with h;subst h;split at hr
    ·exact z7e H _ _ _ hr
    ·exact zdS H _ _ _ hr
   ·cases h
theorem z8c (s m:Bs) (q f:Option Bs) (b:Option Adr) (e:Int) (h:z1p H s m q f b=.error e):e≠0:=by
 unfold z1p at h;split at h
 ·rename_i n hr
  injection h with h;subst h;exact zcD H _ _ _ _ _ hr
 ·cases h
theorem zeU (c:Cuts) (b:Option Adr) (e:Int) (h:z3o H c b=.error e):e≠0:=by
 unfold z3o at h;split at h
 ·exact z8c H _ _ _ _ _ _ h
 ·split at h
  ·injection h with h;omega
  ·split at h
   ·split at h
    ·cases h
    ·injection h with h;omega
   ·exact z8c H _ _ _ _ _ _ h
theorem zcZ {t:Bs} {n:Int} (h:z9v hostTell t=.error n):n≠0:=by
 unfold z9v at h;split at h
 ·injection h with h;omega
 ·unfold z0C at h
  exact zeU hostTell _ _ _ h
end Go.Moor
namespace Go.Proofs
open Go.RowKit Go.Moor Go.Proofs.Tryz
structure Tryz.Env3 (w:World):Prop where
 env2:Tryz.Env2 w
 ePart:Tryz.Err 3 w
 eScheme:Tryz.Err 7 w
 eKind:Tryz.Err 8 w
 eBare:Tryz.Err 9 w
 eBeside:Tryz.Err 11 w
 eOpaq:Tryz.Err 10 w
end Go.Proofs
namespace Go.Proofs.YtkcnageeamappaaGreatDoor
open Go.Proofs.Tryz Go.ChangeShapes Go.WideShapes Go.ChangeAt Go.RowKit Go.Moor
def z4W:List (String×DataW Unit):=[("moor/address.errNoPart",Rows.laid_moor_address_errNoPart),("moor/address.errNoScheme",Rows.laid_moor_address_errNoScheme),("moor/address.errOtherKind",Rows.laid_moor_address_errOtherKind),("moor/address.errBareHost",Rows.laid_moor_address_errBareHost),("moor/address.errBeside",Rows.laid_moor_address_errBeside),("moor/address.errOpaque",Rows.laid_moor_address_errOpaque)]
theorem zdX {W:World} (hp:∀x∈z2C,Lib.VarReads prog W x.1 x.2) (hq:∀x∈z4V,Lib.VarReads prog W x.1 x.2) (hr:∀x∈z4W,Lib.VarReads prog W x.1 x.2) (hh:handlesMet prog [("errors.errorType",Rows.laid_errors_errorType)] W) (hsh:W.ShapedOpen prog):Env3 W:=
 ⟨zdW hp hq hh hsh,
  z1H (by kernel_rfl) (by kernel_rfl) (hr ("moor/address.errNoPart",_) (by simp[z4W];rfl)),z1H (by kernel_rfl) (by kernel_rfl) (hr ("moor/address.errNoScheme",_) (by simp[z4W];rfl)),
  z1H (by kernel_rfl) (by kernel_rfl) (hr ("moor/address.errOtherKind",_) (by simp[z4W];rfl)),z1H (by kernel_rfl) (by kernel_rfl) (hr ("moor/address.errBareHost",_) (by simp[z4W];rfl)),
  z1H (by kernel_rfl) (by kernel_rfl) (hr ("moor/address.errBeside",_) (by simp[z4W];rfl)),z1H (by kernel_rfl) (by kernel_rfl) (hr ("moor/address.errOpaque",_) (by simp[z4W];rfl))⟩
end Go.Proofs.YtkcnageeamappaaGreatDoor
