import Derived.Test.YtkcnageeamappaaGreatDoorXAMarked
import Derived.Test.YtkcnageeamappaaGreatDoorXQ11
set_option maxHeartbeats 32000000
set_option maxRecDepth 8000
set_option linter.unusedSimpArgs false
namespace Go.Moor
open Go
def kk (s:Bs) (ob:Option Adr):Option Adr:=ob.bind λb=>if b.s=s/\ao s=true then some b else none
end Go.Moor
namespace Go.Proofs
open Go.RowKit Go.Moor Go.Proofs.Tryz Go.Moor
def Tryz.BaseAt (w:World) (p:Option Go.Addr) (ob:Option Adr):Prop:=
 match ob with
 |none=>p=none
 |some b=>∃kb bv,p=some ⟨kb,0,none⟩/\w.heap[kb]?=some (.cells (av b bv) 77 (0,0))/\bh w bv b.w.g/\b.w.g.length<=1000000/\∀x∈b.w.g,x.length<=1000000
theorem Tryz.BaseAt.below {w w':World} {p:Option Go.Addr} {a:Option Adr} (h:BaseAt w p a) (c:Bl w w'):BaseAt w' p a:=by
 cases a with
 |none=>exact h
 |some b=>obtain⟨e,f,k,d,j,g,i⟩:=h;exact⟨e,f,k,(c.block e (aT.1 d).1).trans d,ei j c,g,i⟩
theorem Tryz.BaseAt.ok {w:World} {p:Option Go.Addr} {a:Option Adr} (h:BaseAt w p a) (k:Nat) (s:w.heap.size<=k):BaseOk w k p a:=by
 cases a with
 |none=>exact h
 |some b=>obtain⟨o,f,q,d,e,l,m⟩:=h;have hz:=(aT.1 d).1;refine⟨o,f,q,by omega,d,e,?_,l,m⟩;intro g n c i;obtain⟨r,fr,j⟩:=e.2 g n c i;have:=(aT.1 j).1;omega
theorem Dg (a b:Bs) (h:a≠b):((⟨a.toArray⟩:ByteArray).toList==(⟨b.toArray⟩:ByteArray).toList)=false:=by simp_all
theorem oO {o:Except Int Adr} {e:Ending} {w':World} (h:eN o e w'):∃b v,e=.returned (.tuple #[.agg b,v])/\b.size=13/\b.all (·.oneCell')=true:=by
 cases o with
 |error n=>obtain⟨b,x,y,j,i,rfl,d,c⟩:=h;exact⟨b,_,rfl,d,c⟩
 |ok a=>obtain⟨v,rfl,⟨f,g,rfl,_⟩,_⟩:=h;exact⟨_,_,rfl,rfl,iP _ _ rfl⟩
theorem oP {o:Except Int Adr} {e:Ending} {w':World} (h:eN o e w') (g:Nat) (d b:Array Value) (k:w'.heap[g]?=some (.cells d 77 (0,0))):eN o e (w'.setRow g b):=by
 cases o with
 |error n=>exact h
 |ok a=>obtain⟨v,rfl,c⟩:=h;refine⟨v,rfl,?_⟩;have l:=iO c.2 k (by decide);have i:But g w' (w'.setRow g b):=⟨rfl,rfl,rfl,by simp,λj _ f=>setRow_other w' g b j f⟩;exact gp c i l
theorem Dh (c:Cuts) (T:Option Adr) (U:Option Go.Addr) (w:World) (F:c.i.length<=100000) (E:(c.q.getD []).length<=100000) (H:(c.f.getD []).length<=100000) (y:BaseAt w U T) (G:Env2 w):Calls prog 154 #[.agg (bx c),.pointer U] w fun e w'=>eN (eB hostTell c.s c.i c.q c.f (kk c.s T)) e w'/\Bl w w':=by
 obtain⟨W,f⟩:=am ((w.alloc (.cells (bx c) 137)).alloc (.cells ag 77));have C:Bl w W:=by rw[f];exact((ai _ _).alloc .refl _).alloc (by simp) _
 have a3:=hI C;have l:=lX w (.cells (bx c) 137) (.cells ag 77);rw[<-f] at l;have J:Hid (∀n:Nat,(W.drewN n).heap[w.heap.size]?=some (.cells (bx c) 137 (0,0))):=fun _=>l.1;have r:Hid (∀R,Calls Tryz.prog 126 #[.string ⟨c.s.toArray⟩] R fun e w'=>e=.returned (.bool (ao c.s))/\w'=R):=fun R=>iw ⟨c.s.toArray⟩ R;have o:Hid (∀(N:Option Adr) (L:Option Go.Addr) (n:Nat),Tryz.BaseAt w L N->Calls Tryz.prog 157 #[.agg (bx c),.pointer L] (W.drewN n) fun e w'=>eN (eB hostTell c.s c.i c.q c.f N) e w'/\Below w.heap.size w w'/\w'.heap[w.heap.size+1]?=some (.cells ag 77 (0,0))):=by intro N L n hb;have O:=cr a3 n;refine(vn c N L (W.drewN n) F E H (fun k hk=>(hb.below O).ok k hk) (G.below O)).mono ?_;rintro e w' ⟨g,a0⟩;refine⟨g,O.trans (a0.mono O.size),(a0.block (w.heap.size+1) ?_).trans l.2⟩;have:=(aT.1 l.2).1;exact this
 have V:W.cell? ⟨w.heap.size,0,none⟩=some (.string ⟨c.s.toArray⟩):=aa l.1 0;have K:Hid ((Tryz.prog.info? 137).map (·.size)=some (bx c).size):=lV;have I:Hid (∀(S:Except Int Adr) (e:Ending) (d:World),eN S e d/\Bl w d/\d.heap[w.heap.size+1]?=some (.cells ag 77 (0,0))->∃a v,e=.returned (.tuple #[.agg a,v])/\Hid (d.heap[w.heap.size+1]?=some (.cells ag 77 (0,0)))/\Hid ((prog.info? 77).map (·.size)=some a.size)/\Hid (ag.size=a.size)/\Hid (a.all (·.oneCell')=true)/\Hid (eN S (.returned (.tuple #[.agg a,v])) (d.setRow (w.heap.size+1) a)/\Bl w (d.setRow (w.heap.size+1) a))):=by rintro S e d ⟨Y,h3,h4⟩;obtain⟨a,v,rfl,h5,h6⟩:=oO Y;exact⟨a,v,rfl,h4,(by grind[cD]),(by show _=_;rw[h5];rfl),h6,oP Y _ _ a h4,aZ h3 (iI _) _⟩
 cases T with
 |none=>have a2:U=none:=y;subst a2;have z:=hI fun n=>o none none n rfl;have A:Hid (kk c.s none=none):=rfl;generalize bx c=t at*;clear F E H y G C l o;go_enter func154,ntmps154;go_upto_region 1 with fail;unfold ag at f;rw[<-f];clear f;go_quiet (fail);go_wp2_with(refine cb rfl 137 _ rfl w.heap.size rfl 137 t (0,0) _ (J nq) underlying137 rfl K ?_);refine af (z nq) ?_;intro e d g;obtain⟨a,v,rfl,j,i,q,x,B⟩:=I _ e d g;clear g;go_wp2_with(refine aY rfl 77 _ _ rfl (w.heap.size+1) a rfl rfl 77 ag j i q x ?_);(try simp only[Exit.inBlock,Exit.then]);have p:=bQ (P:=prog) (d.setRow (w.heap.size+1) a) (w.heap.size+1) 77 77 a (0,0) _ (bH d (w.heap.size+1) ag a 77 (0,0) j) underlying77 rfl i;rw[A.out];refine aO (v:=.tuple #[.agg a,v]) ?_ rfl B;rw[bR rfl];simp[asAddr,Result.andThen,p]
 |some b=>
  have a4:=y.below C;have a1:=hI y;obtain⟨Z,bv,rfl,Q,_⟩:=a4;have M:W.cell? ⟨Z,0,none⟩=some (.string ⟨b.s.toArray⟩):=aa Q 0;by_cases u:b.s=c.s
  .rw[u] at M
   cases D:ao c.s with
   |true=>rw[D] at r;have z:=hI fun n=>o (some b) (some (Ad Z 0)) n a1;have A:Hid (kk c.s (some b)=some b):=(by show(if b.s=c.s/\ao c.s=true then some b else none)=some b;rw[ae ⟨u,D⟩]);generalize bx c=t at*;obtain⟨s,m⟩:∃s:ByteArray,s=⟨c.s.toArray⟩:=⟨_,rfl⟩;rw[<-m] at M V r;clear F E H y G C l o u D Q m;go_enter func154,ntmps154;go_upto_region 1 with fail;unfold ag at f;rw[<-f];clear f;go_quiet ((go_at_call 126;exact qH (r _)));go_wp2_with(refine cb rfl 137 _ rfl w.heap.size rfl 137 t (0,0) _ (J nq) underlying137 rfl K ?_);refine af (z nq) ?_;intro e d g;obtain⟨a,v,rfl,j,i,q,x,B⟩:=I _ e d g;clear g;go_wp2_with(refine aY rfl 77 _ _ rfl (w.heap.size+1) a rfl rfl 77 ag j i q x ?_);(try simp only[Exit.inBlock,Exit.then]);have p:=bQ (P:=prog) (d.setRow (w.heap.size+1) a) (w.heap.size+1) 77 77 a (0,0) _ (bH d (w.heap.size+1) ag a 77 (0,0) j) underlying77 rfl i;rw[A.out];refine aO (v:=.tuple #[.agg a,v]) ?_ rfl B;rw[bR rfl];simp[asAddr,Result.andThen,p]
   |false=>rw[D] at r;have z:=hI fun n=>o none none n rfl;have A:Hid (kk c.s (some b)=none):=(by show(if b.s=c.s/\ao c.s=true then some b else none)=none;rw[ab (by simp[D])]);generalize bx c=t at*;obtain⟨s,m⟩:∃s:ByteArray,s=⟨c.s.toArray⟩:=⟨_,rfl⟩;rw[<-m] at M V r;clear F E H y G C l o u D Q m;go_enter func154,ntmps154;go_upto_region 1 with fail;unfold ag at f;rw[<-f];clear f;go_quiet ((go_at_call 126;exact qH (r _)));go_wp2_with(refine cb rfl 137 _ rfl w.heap.size rfl 137 t (0,0) _ (J nq) underlying137 rfl K ?_);refine af (z nq) ?_;intro e d g;obtain⟨a,v,rfl,j,i,q,x,B⟩:=I _ e d g;clear g;go_wp2_with(refine aY rfl 77 _ _ rfl (w.heap.size+1) a rfl rfl 77 ag j i q x ?_);(try simp only[Exit.inBlock,Exit.then]);have p:=bQ (P:=prog) (d.setRow (w.heap.size+1) a) (w.heap.size+1) 77 77 a (0,0) _ (bH d (w.heap.size+1) ag a 77 (0,0) j) underlying77 rfl i;rw[A.out];refine aO (v:=.tuple #[.agg a,v]) ?_ rfl B.out;rw[bR rfl];simp[asAddr,Result.andThen,p]
  .have e1:=Dg _ _ u
   have z:Hid (∀n:Nat,_):=fun n=>o.out none none n rfl;have A:Hid (kk c.s (some b)=none):=(by show(if b.s=c.s/\ao c.s=true then some b else none)=none;rw[ab (fun h=>u h.1)]);generalize bx c=t at*;obtain⟨s,m⟩:∃s:ByteArray,s=⟨c.s.toArray⟩:=⟨_,rfl⟩;obtain⟨s2,X⟩:∃s2:ByteArray,s2=⟨b.s.toArray⟩:=⟨_,rfl⟩;rw[<-m] at V r e1;rw[<-X] at M e1;clear F E H y G C l o u Q m X;go_enter func154,ntmps154;go_upto_region 1 with fail;unfold ag at f;rw[<-f];clear f;go_quiet (fail);go_wp2_with(refine cb rfl 137 _ rfl w.heap.size rfl 137 t (0,0) _ (J nq) underlying137 rfl K ?_);refine af (z nq) ?_;intro e d g;obtain⟨a,v,rfl,j,i,q,x,B⟩:=I _ e d g;clear g;go_wp2_with(refine aY rfl 77 _ _ rfl (w.heap.size+1) a rfl rfl 77 ag j i q x ?_);(try simp only[Exit.inBlock,Exit.then]);have p:=bQ (P:=prog) (d.setRow (w.heap.size+1) a) (w.heap.size+1) 77 77 a (0,0) _ (bH d (w.heap.size+1) ag a 77 (0,0) j) underlying77 rfl i;rw[A.out];refine aO (v:=.tuple #[.agg a,v]) ?_ rfl B;rw[bR rfl];simp[asAddr,Result.andThen,p]
end Go.Proofs
namespace Go.Moor
open Go
def besideOpaque (c:Cuts) (b:Adr):Except Int Adr:=if c.i=[]/\c.q=none/\c.f.isSome then .ok {b with f:=c.f.map (ah 1)} else .error 3
end Go.Moor
namespace Go.Proofs
open Go.RowKit Go.Moor Go.Proofs.Tryz Go.Moor
theorem vt (b:TypeId) (a:Value) (w:World):Calls prog 155 #[.iface b a] w fun e w'=>e=.returned (.iface 96 (.agg #[.int .i64 3,.string ⟨#[115,99,104,101,109,101]⟩,.string ⟨#[]⟩,.iface b a]))/\w'=w:=by go_enter func155,ntmps155;go_wp2;go_ret;exact⟨rfl,rfl⟩
theorem jM:ag.all (·.oneCell')=true:=by simp[ag,Value.oneCell']
theorem Dj (c:Cuts) (b:Adr) (f:Value) (w:World) (N:(c.f.getD []).length<=100000) (A:bh w f b.w.g) (C:Env2 w):Calls prog 156 #[.agg (bx c),.agg (av b f)] w fun e w'=>eN (besideOpaque c b) e w'/\Bl w w':=by
 obtain⟨W,h⟩:=am (((w.alloc (.cells (bx c) 137)).alloc (.cells (av b f) 77)).alloc (.cells ag 77));have q:Bl w W:=by rw[h];exact(((ai _ _).alloc (aG _) _).alloc (by simp) _).alloc (by simp;omega) _
 have b0:=hI q;have l:=yY w (.cells (bx c) 137) (.cells (av b f) 77) (.cells ag 77);rw[<-h] at l;have a7:W.heap.size=w.heap.size+3:=by rw[h];simp
 have X:Hid (W.heap[w.heap.size]?=some (.cells (bx c) 137 (0,0))):=l.1;have Q:Hid ((Tryz.prog.info? 137).map (·.size)=some (bx c).size):=lV;have r:Hid (Calls Tryz.prog 207 #[.agg (bx c)] W fun e w'=>e=.returned (.bool (lW c))/\Below W.heap.size W w'):=De c W;have k:Hid (∀a,Below W.heap.size W a->a.heap[w.heap.size]?=some (.cells (bx c) 137 (0,0))/\a.heap[w.heap.size+1]?=some (.cells (av b f) 77 (0,0))/\a.heap[w.heap.size+2]?=some (.cells ag 77 (0,0))/\Below w.heap.size w a):=fun a d=>⟨(d.block _ (by omega)).trans l.1,(d.block _ (by omega)).trans l.2.1,(d.block _ (by omega)).trans l.2.2.1,b0.out.trans (d.mono (by omega))⟩;have B:Hid (Tryz.Env2 W):=C.below q;have z:Hid (lW c=decide (c.i=[]/\c.q=none/\c.f.isSome=true)):=by show _=_;unfold lW;obtain⟨sc,mi,qu,fr⟩:=c;cases mi<;>cases qu<;>cases fr<;>rfl
 cases j:lW c with
 |false=>
  have D:Hid (besideOpaque c b=.error 3):=by show _=_;unfold besideOpaque;rw[ab];rw[z.out] at j;exact Bx j
  rw[j] at r;generalize bx c=I at*;have a4:Hid (∀a,Bl W a->∃s t,Ce a 15 0 (.iface s t)):=fun a d=>(B.out.below d).eOpaque;clear N A C q l j z B;go_enter func156,ntmps156;go_upto_region 1 with fail;unfold ag at h;rw[<-h];clear h;go_wp2_with(refine cb rfl 137 _ rfl w.heap.size rfl 137 I (0,0) _ X underlying137 rfl Q ?_);refine r.out.mono ?_;rintro e a ⟨rfl,i⟩;obtain⟨s,t,b6⟩:=a4 a i;have S:=hI ((k a i).2.2.1);have H:=hI ((k a i).2.2.2);clear i;go_wp2_with fail;refine(vt s t a).mono ?_;rintro e n ⟨rfl,a9⟩;obtain rfl:=a9.symm;go_wp2_with(refine aY rfl 77 _ _ rfl (w.heap.size+2) ag rfl rfl 77 ag S cD rfl jM ?_);(try simp only[Exit.inBlock,Exit.then]);have F:=bQ (P:=prog) (a.setRow (w.heap.size+2) ag) (w.heap.size+2) 77 77 ag (0,0) _ (bH a (w.heap.size+2) ag ag 77 (0,0) S) underlying77 rfl cD;rw[D.out];refine aO (v:=.tuple #[.agg ag,.iface 96 (.agg #[Iv 3,.string ⟨#[115,99,104,101,109,101]⟩,Sv [],.iface s t])]) ?_ rfl ⟨⟨_,_,_,_,_,rfl,rfl,jM⟩,aZ H (by omega) _⟩;rw[bR rfl];simp[asAddr,Result.andThen,F]
 |true=>
  have D:Hid (besideOpaque c b=.ok {b with f:=c.f.map (ah 1)}):=by show _=_;unfold besideOpaque;rw[ae];rw[z.out] at j;exact ik j
  rw[j] at r;have a1:Hid (∀a,Bl W a->Ce a w.heap.size 4 (.bool c.f.isSome)/\Ce a w.heap.size 5 (Sv (c.f.getD []))):=fun a d=>⟨aa (k a d).1 4,aa (k a d).1 5⟩;have HT:Hid (∀w0,Bl W w0->CQ 103 #[.agg #[.bool c.f.isSome,Sv (c.f.getD [])],Iv 1] w0 (.agg #[.bool (c.f.map (ah 1)).isSome,Sv ((c.f.map (ah 1)).getD [])]) (Below W.heap.size W)):=by intro w0 G;refine(ro c.f 1 w0 (by omega) (B.out.below G).env).mono ?_;rintro e w' ⟨rfl,hb⟩;exact⟨rfl,G.trans (hb.mono G.size)⟩
  have a8:Hid (∀a,Bl w a->bh a f b.w.g):=fun a d=>ei A d;have T:f.oneCell'=true:=by obtain⟨⟨sp,b4,rfl,_⟩,_⟩:=A;rfl
  have L:Hid ((av {b with f:=c.f.map (ah 1)} f).all (·.oneCell')=true):=iP _ _ T;have a5:Hid (∀a,Bl W a->Ce a (w.heap.size+1) 11 (.bool b.f.isSome)/\Ce a (w.heap.size+1) 12 (Sv (b.f.getD []))/\a.frozen? (Ad (w.heap.size+1) 11)=false/\a.frozen? (Ad (w.heap.size+1) 12)=false/\∀x y,((a.setCell (Ad (w.heap.size+1) 11) x).setCell (Ad (w.heap.size+1) 12) y).heap[w.heap.size+1]?=some (.cells (((av b f).setIfInBounds 11 x).setIfInBounds 12 y) 77 (0,0))):=by intro a d;have o:=(k a d).2.1;exact⟨aa o 11,aa o 12,aj o 11,aj o 12,fun x y=>aD _ _ 12 _ _ y (aD _ _ 11 _ _ x o)⟩
  have R:Hid (((av b f).setIfInBounds 11 (.bool (c.f.map (ah 1)).isSome)).setIfInBounds 12 (Sv ((c.f.map (ah 1)).getD []))=av {b with f:=c.f.map (ah 1)} f):=rfl;have a3:Hid ((c.f.map (ah 1)).isSome=c.f.isSome):=Bu;generalize bx c=I at*;clear N A C q l j z B a7 T;go_enter func156,ntmps156;go_upto_region 1 with fail;unfold ag at h;rw[<-h];clear h;go_wp2_with(refine cb rfl 137 _ rfl w.heap.size rfl 137 I (0,0) _ X underlying137 rfl Q ?_);refine r.out.mono ?_;rintro e a ⟨rfl,i⟩;obtain⟨y4,y5⟩:=a1 a i;have O:Hid _:=HT a i;clear i;go_wp2_with fail;refine af O ?_;rintro e n ⟨rfl,u⟩;obtain⟨b9,b8,b5,b7,U⟩:=a5 n u;have J:=hI U;have Z:=hI ((k n u).2.2.1);have H:=hI ((k n u).2.2.2);clear u y4 y5 U O;obtain⟨V,p⟩:=am ((n.setCell (Ad (w.heap.size+1) 11) (.bool c.f.isSome)).setCell (Ad (w.heap.size+1) 12) (Sv ((c.f.map (ah 1)).getD [])));obtain⟨g,m⟩:=am (av {b with f:=c.f.map (ah 1)} f);have a6:Hid (V.heap[w.heap.size+1]?=some (.cells g 77 (0,0))):=by show _=_;rw[p,m,<-R.out,a3.out];exact J _ _
  have K:Hid (V.heap[w.heap.size+2]?=some (.cells ag 77 (0,0))):=by show _=_;rw[p,fj _ _ _ _ (by simp),fj _ _ _ _ (by simp)];exact Z
  have a2:Hid (Bl w V):=by show Below _ _ _;rw[p];exact(H.out.setCell (iI _) _).setCell (iI _) _
  have b3:=hI m;have E:Hid ((prog.info? 77).map (·.size)=some g.size):=by show _=_;rw[m];exact cD
  have a0:Hid (ag.size=g.size):=by show _=_;rw[m];rfl
  rw[<-m] at L;have Y:=hI p;clear m J R p;go_upto_region 4 with fail;rw[<-Y.out];clear Y;go_wp2_with(first|refine cb rfl 77 _ rfl (w.heap.size+1) rfl 77 g (0,0) _ a6 underlying77 rfl E ?_|refine aY rfl 77 _ _ rfl (w.heap.size+2) g rfl rfl 77 ag K E a0 L ?_);(try simp only[Exit.inBlock,Exit.then]);have F:=bQ (P:=prog) (V.setRow (w.heap.size+2) g) (w.heap.size+2) 77 77 g (0,0) _ (bH V (w.heap.size+2) ag g 77 (0,0) K) underlying77 rfl E;rw[D.out];have M:Bl w (V.setRow (w.heap.size+2) g):=aZ a2 (by omega) _;refine aO (v:=.tuple #[.agg g,.nilIface]) ?_ rfl ⟨⟨f,by rw[b3.out],a8 _ M⟩,M⟩;rw[bR rfl];simp[asAddr,Result.andThen,F]
theorem oY (c:Cuts) (a:Option Adr):iu hostTell c a=if c.s≠[] then eB hostTell c.s c.i c.q c.f (kk c.s a) else match a with|none=>.error 3|some b=>if b.w.o then besideOpaque c b else eB hostTell b.s c.i c.q c.f (some b):=rfl
theorem Dx (B:Nat) (w:World) (k:w.heap.size<=B) (c:Except Int Adr) (e:Ending) (b:World) (h:eN c e b/\Bl w b/\b.heap[B]?=some (.cells ag 77 (0,0))):∃a v,e=.returned (.tuple #[.agg a,v])/\Hid (b.heap[B]?=some (.cells ag 77 (0,0)))/\Hid ((prog.info? 77).map (·.size)=some a.size)/\Hid (ag.size=a.size)/\Hid (a.all (·.oneCell')=true)/\Hid (eN c (.returned (.tuple #[.agg a,v])) (b.setRow B a)/\Bl w (b.setRow B a)):=by obtain⟨g,j,d⟩:=h;obtain⟨a,v,rfl,f,i⟩:=oO g;exact⟨a,v,rfl,d,(by show _=_;rw[f];exact cD),(by show _=_;rw[f];rfl),i,oP g _ _ a d,aZ j k _⟩
theorem vC (b:Array Value) (h:b.size=13) (q:b.all (·.oneCell')=true):∃p c d e m n f o g i j a k,b=#[p,c,d,e,m,n,f,o,g,i,j,a,k]/\p.oneCell'=true/\c.oneCell'=true/\d.oneCell'=true/\e.oneCell'=true/\m.oneCell'=true/\n.oneCell'=true/\f.oneCell'=true/\o.oneCell'=true/\g.oneCell'=true/\i.oneCell'=true/\j.oneCell'=true/\a.oneCell'=true/\k.oneCell'=true:=by
 obtain⟨l⟩:=b;match l,h with
 | [p,c,d,e,m,n,f,o,g,i,j,a,k],_=>simp at q;exact⟨p,c,d,e,m,n,f,o,g,i,j,a,k,rfl,q⟩
theorem Dy (w:World) (g:Nat) (i d n e k h a l f b c m j:Value):But g w (((((((((((((w.setCell ⟨g,0,none⟩ i).setCell ⟨g,1,none⟩ d).setCell ⟨g,2,none⟩ n).setCell ⟨g,3,none⟩ e).setCell ⟨g,4,none⟩ k).setCell ⟨g,5,none⟩ h).setCell ⟨g,6,none⟩ a).setCell ⟨g,7,none⟩ l).setCell ⟨g,8,none⟩ f).setCell ⟨g,9,none⟩ b).setCell ⟨g,10,none⟩ c).setCell ⟨g,11,none⟩ m).setCell ⟨g,12,none⟩ j):=
 (((((((((((((But.of_below (ai w.hz w)).setCell 0 i).setCell 1 d).setCell 2 n).setCell 3 e).setCell 4 k).setCell 5 h).setCell 6 a).setCell 7 l).setCell 8 f).setCell 9 b).setCell 10 c).setCell 11 m).setCell 12 j
theorem Dz {o:Except Int Adr} {e:Ending} {w' c:World} (h:eN o e w') (g:Nat) (f:Array Value) (i:w'.heap[g]?=some (.cells f 77 (0,0))) (d:But g w' c):eN o e c:=by
 cases o with
 |error n=>exact h
 |ok a=>obtain⟨v,rfl,b⟩:=h;exact⟨v,rfl,gp b d (iO b.2 i (by decide))⟩
theorem DA (c:Cuts) (r:Option Adr) (X:Option Go.Addr) (w:World) (T:c.i.length<=100000) (S:(c.q.getD []).length<=100000) (H:(c.f.getD []).length<=100000) (t:BaseAt w X r) (Z:Env2 w):Calls prog 95 #[.agg (bx c),.pointer X] w fun e w'=>eN (iu hostTell c r) e w'/\Bl w w':=by
 obtain⟨W,l⟩:=am ((w.alloc (.cells (bx c) 137)).alloc (.cells ag 77));have E:Bl w W:=by rw[l];exact((ai _ _).alloc .refl _).alloc (by simp) _
 have b0:=hI E;have a5:W.heap.size=w.heap.size+2:=by rw[l];simp
 have f:=lX w (.cells (bx c) 137) (.cells ag 77);rw[<-l] at f;have e2:=hI f.1;have HZ:Hid (∀p,Bl W p->p.heap[w.heap.size+1]?=some (.cells ag 77 (0,0))/\Bl w p):=fun p J=>⟨(J.block _ (by omega)).trans f.2,b0.out.trans (J.mono (by omega))⟩;have e6:Hid ((prog.info? 137).map (·.size)=some (bx c).size):=lV;have d0:W.cell? ⟨w.heap.size,0,none⟩=some (.string ⟨c.s.toArray⟩):=aa f.1 0;have HV:Hid (Tryz.Env2 W):=Z.below E;have U:Hid (Tryz.BaseAt W X r):=t.below E;have d6:Hid (∀(a8:Except Int Adr) (e:Ending) (j:World),eN a8 e j/\Below w.heap.size w j/\j.heap[w.heap.size+1]?=some (.cells ag 77 (0,0))->_):=fun a8 e j h=>Dx (w.heap.size+1) w (iI _) a8 e j h;by_cases o:c.s=[]
 .have e0:=nc
  rw[o] at d0;cases r with
  |none=>have e3:X=none:=t;subst e3;have y:Hid (iu hostTell c none=.error 3):=(by show _=_;rw[oY,ab (by simp[o])]);obtain⟨te,ve,f5⟩:=HV.out.eBase;have q:Hid (W.heap[w.heap.size+1]?=some (.cells ag 77 (0,0))):=f.2;generalize bx c=CC at*;clear T S H t Z E f o a5 U;go_enter Tryz.func95,Tryz.ntmps95;go_upto_region 1 with fail;unfold ag at l;rw[<-l];clear l;go_wp2_with fail;refine(vt te ve W).mono ?_;rintro e j ⟨rfl,b5⟩;have b5:=b5.symm;subst b5;go_wp2_with(refine aY rfl 77 _ _ rfl (w.heap.size+1) ag rfl rfl 77 ag q.out cD rfl jM ?_);(try simp only[Exit.inBlock,Exit.then]);have u:=bQ (P:=Tryz.prog) (W.setRow (w.heap.size+1) ag) (w.heap.size+1) 77 77 ag (0,0) _ (bH W (w.heap.size+1) ag ag 77 (0,0) q.out) Tryz.underlying77 rfl cD;rw[y.out];refine aO (v:=.tuple #[.agg ag,.iface 96 (.agg #[.int .i64 3,.string ⟨#[115,99,104,101,109,101]⟩,.string ⟨#[]⟩,.iface te ve])]) ?_ rfl ⟨⟨_,_,_,_,_,rfl,rfl,jM⟩,aZ b0.out (by omega) _⟩;rw[bR rfl];simp[asAddr,Result.andThen,u]
  |some b=>
   obtain⟨d,bv,rfl,g,b1,d8,b8⟩:=U.out;have e9:Hid (W.heap[d]?=some (.cells (av b bv) 77 (0,0))):=g;have e8:d<w.heap.size:=by obtain⟨g4,f4,B,h3,_⟩:=t;injection B with B;injection B with B _;subst B;exact(aT.1 h3).1
   have k6:W.cell? ⟨d,6,none⟩=some (.bool b.w.o):=aa g 6;have k0:W.cell? ⟨d,0,none⟩=some (.string ⟨b.s.toArray⟩):=aa g 0;cases I:b.w.o with
   |true=>
    have y:Hid (iu hostTell c (some b)=besideOpaque c b):=(by show _=_;rw[oY,ab (by simp[o])];simp only[I,eV]);have b7:Hid (∀p,Below W.heap.size W p->Calls Tryz.prog 156 #[.agg (bx c),.agg (av b bv)] p fun e w'=>eN (besideOpaque c b) e w'/\Below w.heap.size w w'/\w'.heap[w.heap.size+1]?=some (.cells ag 77 (0,0))):=(by intro p J;refine(Dj c b bv p H (ei b1 J) (HV.out.below J)).mono ?_;rintro e w' ⟨i,M⟩;have h3:=J.trans (M.mono J.size);exact⟨i,(HZ.out w' h3).2,(HZ.out w' h3).1⟩);rw[I] at k6;have a4:∃x0 x1 x2 x3 x4 x5 x7 x8 x9 b2 b4 b6,av b bv=#[x0,x1,x2,x3,x4,x5,.bool true,x7,x8,x9,b2,b4,b6]:=⟨_,_,_,_,_,_,_,_,_,_,_,_,by rw[<-I];rfl⟩;obtain⟨x0,x1,x2,x3,x4,x5,x7,x8,x9,b2,b4,b6,a4⟩:=a4;rw[a4] at b7 g;have a0:∃z1 z2 z3 z4 z5,bx c=#[.string ⟨#[]⟩,z1,z2,z3,z4,z5]:=⟨_,_,_,_,_,by unfold bx;rw[o]⟩;obtain⟨z1,z2,z3,z4,z5,a0⟩:=a0;rw[a0] at b7 l;rw[a0] at f;have m1:W.cell? ⟨w.heap.size,1,none⟩=some z1:=aa f.1 1;have m2:W.cell? ⟨w.heap.size,2,none⟩=some z2:=aa f.1 2;have m3:W.cell? ⟨w.heap.size,3,none⟩=some z3:=aa f.1 3;have m4:Ce W w.heap.size 4 z4:=aa f.1 4;have m5:Ce W w.heap.size 5 z5:=aa f.1 5;have y0:Ce W d 0 x0:=aa g 0;have y1:Ce W d 1 x1:=aa g 1;have y2:Ce W d 2 x2:=aa g 2;have y3:Ce W d 3 x3:=aa g 3;have y4:Ce W d 4 x4:=aa g 4;have y5:Ce W d 5 x5:=aa g 5;have y7:Ce W d 7 x7:=aa g 7;have y8:Ce W d 8 x8:=aa g 8;have y9:Ce W d 9 x9:=aa g 9;have f3:Ce W d 10 b2:=aa g 10;have g0:Ce W d 11 b4:=aa g 11;have g2:Ce W d 12 b6:=aa g 12;rw[a0];clear T S H t Z E f o a5 U g b1 d8 b8 I a4 a0 k0;go_enter func95,ntmps95;go_upto_region 1 with fail;unfold ag at l;rw[<-l];clear l;go_wp2_with fail;go_region_with (go_at_call 156;refine af (b7 _ (by exact du rfl rfl rfl rfl)) ?_;intro e j i;obtain⟨n,v,B,d3,d7⟩:=oO i.1;subst B;obtain⟨x,L,z,F,Q,D,K,C,A,G,N,O,R,rfl,o0,o1,o2,o3,o4,o5,o6,o7,o8,o9,b9,d1,d4⟩:=vC n d3 d7;obtain⟨⟨p0,p1,p2,p3,p4,p5,p6,p7,p8,p9,f8,f1,g3⟩,r0,r1,r2,r3,r4,r5,r6,r7,r8,r9,f2,f6,e7⟩:=nn i.2.2;have HR:=hI i;have q0:∀(W:World) (a:Go.Addr) (m:Mode),(store a x m).run prog W=stored prog W a x m:=fun W a m=>dj prog W a x m o0;have q1:∀(W:World) (a:Go.Addr) (m:Mode),(store a L m).run prog W=stored prog W a L m:=fun W a m=>dj prog W a L m o1;have q2:∀(W:World) (a:Go.Addr) (m:Mode),(store a z m).run prog W=stored prog W a z m:=fun W a m=>dj prog W a z m o2;have q3:∀(W:World) (a:Go.Addr) (m:Mode),(store a F m).run prog W=stored prog W a F m:=fun W a m=>dj prog W a F m o3;have q4:∀(W:World) (a:Go.Addr) (m:Mode),(store a Q m).run prog W=stored prog W a Q m:=fun W a m=>dj prog W a Q m o4;have q5:∀(W:World) (a:Go.Addr) (m:Mode),(store a D m).run prog W=stored prog W a D m:=fun W a m=>dj prog W a D m o5;have q6:∀(W:World) (a:Go.Addr) (m:Mode),(store a K m).run prog W=stored prog W a K m:=fun W a m=>dj prog W a K m o6;have q7:∀(W:World) (a:Go.Addr) (m:Mode),(store a C m).run prog W=stored prog W a C m:=fun W a m=>dj prog W a C m o7;have q8:∀(W:World) (a:Go.Addr) (m:Mode),(store a A m).run prog W=stored prog W a A m:=fun W a m=>dj prog W a A m o8;have q9:∀(W:World) (a:Go.Addr) (m:Mode),(store a G m).run prog W=stored prog W a G m:=fun W a m=>dj prog W a G m o9;have g1:∀(W:World) (a:Go.Addr) (m:Mode),(store a N m).run prog W=stored prog W a N m:=fun W a m=>dj prog W a N m b9;have f7:∀(W:World) (a:Go.Addr) (m:Mode),(store a O m).run prog W=stored prog W a O m:=fun W a m=>dj prog W a O m d1;have f9:∀(W:World) (a:Go.Addr) (m:Mode),(store a R m).run prog W=stored prog W a R m:=fun W a m=>dj prog W a R m d4;clear i d3 d7 o0 o1 o2 o3 o4 o5 o6 o7 o8 o9 b9 d1 d4);all_goals
     go_wp2;have u:=bQ (P:=prog) _ (w.heap.size+1) 77 77 #[x,L,z,F,Q,D,K,C,A,G,N,O,R] (0,0) _ (lS HR.out.2.2 x L z F Q D K C A G N O R) underlying77 rfl cD;have Y:=Dy j (w.heap.size+1) x L z F Q D K C A G N O R;rw[y.out];refine aO (v:=.tuple #[.agg #[x,L,z,F,Q,D,K,C,A,G,N,O,R],v]) ?_ rfl ⟨Dz HR.out.1 _ _ HR.out.2.2 Y,HR.out.2.1.trans ((Y.below (by have:=(aT.1 HR.out.2.2).1;omega)).mono (iI _))⟩;rw[bR rfl];simp[asAddr,Result.andThen,u,Act.put]
   |false=>have y:Hid (iu hostTell c (some b)=eB hostTell b.s c.i c.q c.f (some b)):=(by show _=_;rw[oY,ab (by simp[o])];simp only[I,ge,fO]);obtain⟨V,hV⟩:=am (W.setCell (Ad w.heap.size 0) (Sv b.s));have Y:But w.heap.size W V:=(by rw[hV];exact(But.of_below (ai _ _)).setCell 0 _);have d2:V.heap[w.heap.size]?=some (.cells (bx ⟨b.s,c.i,c.q,c.f⟩) 137 (0,0)):=(by rw[hV];exact aD W w.heap.size 0 _ 137 (Sv b.s) f.1);have b3:=(Y.block (w.heap.size+1) (by omega) (by omega)).trans f.2;have a3:=b0.out.trans (Y.below (by omega));have d5:=(show BaseAt w (some (Ad d 0)) (some b) from t).below a3;have e5:Hid (Calls Tryz.prog 157 #[.agg (bx ⟨b.s,c.i,c.q,c.f⟩),.pointer (some ⟨d,0,none⟩)] V fun e w'=>eN (eB hostTell b.s c.i c.q c.f (some b)) e w'/\Below w.heap.size w w'/\w'.heap[w.heap.size+1]?=some (.cells ag 77 (0,0))):=(by refine(vn ⟨b.s,c.i,c.q,c.f⟩ (some b) (some ⟨d,0,none⟩) V T S H (fun k hk=>d5.ok k hk) (Z.below a3)).mono ?_;rintro e w' ⟨i,M⟩;exact⟨i,a3.trans (M.mono a3.size),(M.block _ (aT.1 b3).1).trans b3⟩);have e1:Hid (V.heap[w.heap.size]?=some (.cells (bx ⟨b.s,c.i,c.q,c.f⟩) 137 (0,0))):=d2;have e4:Hid ((Tryz.prog.info? 137).map (·.size)=some (bx ⟨b.s,c.i,c.q,c.f⟩).size):=lV;have a9:Hid (V=W.setCell ⟨w.heap.size,0,none⟩ (.string ⟨b.s.toArray⟩)):=hV;have f0:=aj f.1 0;rw[I] at k6;obtain⟨s,a2⟩:∃s:ByteArray,s=⟨b.s.toArray⟩:=⟨_,rfl⟩;rw[<-a2] at k0 a9;generalize bx c=CC at*;generalize bx ⟨b.s,c.i,c.q,c.f⟩=C2 at*;clear T S H t Z E f o a5 U g b1 d8 b8 I hV Y d2 b3 a3 d5 a2;go_enter func95,ntmps95;go_upto_region 1 with fail;unfold ag at l;rw[<-l];clear l;go_upto_region 8 with fail;rw[<-a9.out];clear a9;go_wp2_with(refine cb rfl 137 _ rfl w.heap.size rfl 137 C2 (0,0) _ e1 underlying137 rfl e4 ?_);refine af e5 ?_;intro e j i;obtain⟨n,v,rfl,q,a1,a6,a7,HF⟩:=d6 _ e j i;clear i;go_wp2_with(refine aY rfl 77 _ _ rfl (w.heap.size+1) n rfl rfl 77 ag q a1 a6 a7 ?_);(try simp only[Exit.inBlock,Exit.then]);have u:=bQ (P:=prog) (j.setRow (w.heap.size+1) n) (w.heap.size+1) 77 77 n (0,0) _ (bH j (w.heap.size+1) ag n 77 (0,0) q) underlying77 rfl a1;rw[y.out];refine aO (v:=.tuple #[.agg n,v]) ?_ rfl HF;rw[bR rfl];simp[asAddr,Result.andThen,u]
 .have y:Hid (iu hostTell c r=eB hostTell c.s c.i c.q c.f (kk c.s r)):=hI (by rw[oY,ae o])
  have e0:=io _ o;have d9:Hid (Calls Tryz.prog 154 #[.agg (bx c),.pointer X] W fun e w'=>eN (eB hostTell c.s c.i c.q c.f (kk c.s r)) e w'/\Below w.heap.size w w'/\w'.heap[w.heap.size+1]?=some (.cells ag 77 (0,0))):=by refine(Dh c r X W T S H U.out HV.out).mono ?_;rintro e w' ⟨i,M⟩;exact⟨i,(HZ.out w' M).2,(HZ.out w' M).1⟩
  obtain⟨s,a2⟩:∃s:ByteArray,s=⟨c.s.toArray⟩:=⟨_,rfl⟩;rw[<-a2] at d0 e0;generalize bx c=CC at*;clear T S H t Z E f o a5 U a2;go_enter func95,ntmps95;go_upto_region 1 with fail;unfold ag at l;rw[<-l];clear l;go_wp2_with(refine cb rfl 137 _ rfl w.heap.size rfl 137 CC (0,0) _ e2 underlying137 rfl e6 ?_);refine af d9 ?_;intro e j i;obtain⟨n,v,rfl,q,a1,a6,a7,HF⟩:=d6 _ e j i;clear i;go_wp2_with(refine aY rfl 77 _ _ rfl (w.heap.size+1) n rfl rfl 77 ag q a1 a6 a7 ?_);(try simp only[Exit.inBlock,Exit.then]);have u:=bQ (P:=prog) (j.setRow (w.heap.size+1) n) (w.heap.size+1) 77 77 n (0,0) _ (bH j (w.heap.size+1) ag n 77 (0,0) q) underlying77 rfl a1;rw[y.out];refine aO (v:=.tuple #[.agg n,v]) ?_ rfl HF;rw[bR rfl];simp[asAddr,Result.andThen,u]
end Go.Proofs
namespace Go.Moor
open Go
theorem rq (t:Bs):(dE t).length<=t.length:=by unfold dE fp;have a:∀x:Bs,(x.dropWhile blankB).length<=x.length:=λx=>(mJ _).length_le;have c:=a t;have b:=a (t.dropWhile blankB).reverse;rw[qJ] at b;refine bu (lE _ _) ?_;rw[qJ];omega
theorem cutOpt_len (c:UInt8) (t:Bs):(ay c t).1.length<=t.length/\((ay c t).2.getD []).length<=t.length:=by
 unfold ay;cases h:aN c t with
 |none=>simp
 |some p=>
  have:=Go.Proofs.cutB_parts c _ p.1 p.2 h;have a:t.length=p.1.length+(p.2.length+1):=by rw[this];simp
  simp;omega
theorem cutScheme_len (t:Bs):(aU t).2.length<=t.length/\(aU t).1.length<=t.length:=by
 unfold aU;cases h:aN 58 t with
 |none=>simp
 |some p=>
  have:=Go.Proofs.cutB_parts 58 _ p.1 p.2 h;have a:t.length=p.1.length+(p.2.length+1):=by rw[this];simp
  simp only;split
  .grind[Lib.toLowerA]
  .simp
theorem vD (t:Bs):(ej t).i.length<=t.length/\((ej t).q.getD []).length<=t.length/\((ej t).f.getD []).length<=t.length/\(ej t).s.length<=t.length:=by grind[cutScheme_len,cutOpt_len,ej]
end Go.Moor
namespace Go.Proofs
open Go.RowKit Go.Moor Go.Proofs.Tryz Go.Moor
def ns (l:Bs) (o:Except Int Adr) (e:Ending) (w':World):Prop:=
 match o with
 | .error n=>∃(x y:ByteArray) (te:TypeId) (ve:Value),e=.returned (.tuple #[.agg ag,.iface 104 (.agg #[.string ⟨l.toArray⟩,.iface 96 (.agg #[.int .i64 n,.string x,.string y,.iface te ve])])])
 | .ok a=>∃v,e=.returned (.tuple #[.agg (av a v),.nilIface])/\bh w' v a.w.g
theorem DB {o:Except Int Adr} {e:Ending} {w' b:World} (h:eN o e w') (c:Bl w' b):eN o e b:=by
 cases o with
 |error n=>exact h
 |ok a=>obtain⟨v,rfl,d⟩:=h;exact⟨v,rfl,ei d c⟩
theorem vE (l:Bs) (q:Option Adr) (B:Option Go.Addr) (w:World) (Z:l.length<=100000) (L:BaseAt w B q) (C:Env2 w):Calls prog 58 #[.string ⟨l.toArray⟩,.pointer B] w λe w'=>ns l (bL hostTell l q) e w'/\Bl w w':=by
 obtain⟨W,m⟩:=am (w.alloc (.cells ag 77));have r:Bl w W:=by rw[m];exact(ai _ _).alloc .refl _
 have a2:=hI r;have R:W.heap.size=w.heap.size+1:=by rw[m];simp
 have K:=hI R;have V:W.heap[w.heap.size]?=some (.cells ag 77 (0,0)):=by rw[m];exact cj w _ _
 have HZ:Hid (∀c,Bl W c->c.heap[w.heap.size]?=some (.cells ag 77 (0,0))/\Bl w c):=λc f=>⟨(f.block _ (by omega)).trans V,a2.out.trans (f.mono (by omega))⟩;have F:Hid (∀c,Below W.heap.size W c->Calls Tryz.prog 94 #[.string ⟨l.toArray⟩] c λe w'=>e=.returned (.string ⟨(dE l).toArray⟩)/\Below W.heap.size W w'/\Below c.heap.size c w'):=by intro c f;refine mR (DY l c (by omega) ((C.below r).below f)) λw' h=>?_;exact⟨rfl,f.trans (h.mono f.size),h⟩
 have a3:=rq l;have U:Hid (∀c,Below W.heap.size W c->Calls Tryz.prog 93 #[.string ⟨(dE l).toArray⟩] c λe w'=>e=.returned (.agg (bx (ej (dE l))))/\Below W.heap.size W w'/\Below c.heap.size c w'):=by intro c f;refine mR (CZ (Bv (dE l)) c (by grind[al]) ((C.below r).below f).env) λw' h=>?_;exact⟨rfl,f.trans (h.mono f.size),h⟩
 have HR:Hid (∀c,Bl W c->Calls prog 95 #[.agg (bx (ej (dE l))),.pointer B] c λe w'=>eN (bL hostTell l q) e w'/\Bl W w'/\Bl c w'):=by intro c f;have hc:=vD (dE l);have I:=r.trans (f.mono (jF (by omega)));refine(DA (ej (dE l)) q B c (by omega) (by omega) (by omega) (L.below I) (C.below I)).mono ?_;rintro e w' ⟨k,h⟩;exact⟨k,f.trans (h.mono f.size),h⟩
 generalize bx (ej (dE l))=CC at*;obtain⟨s,T⟩:∃s:ByteArray,s=⟨(dE l).toArray⟩:=⟨_,rfl⟩;rw[<-T] at F U;obtain⟨t,H⟩:∃t:ByteArray,t=⟨l.toArray⟩:=⟨_,rfl⟩;have HT:=hI H;rw[<-H] at F⊢;generalize bL hostTell l q=X at*;clear Z L C r a3 T H R V;go_enter Tryz.func58,Tryz.ntmps58;go_upto_region 1 with fail;unfold ag at m;rw[<-m];clear m;go_wp2_with fail;refine mR (F W (ai _ _)) ?_;rintro c ⟨N,_⟩;go_wp2_with fail;refine mR (U c N) ?_;rintro w2 ⟨S,_⟩;clear N;go_wp2_with fail;refine af (HR w2 S) ?_;rintro e b ⟨k,z,_⟩;clear S;obtain⟨d,v,rfl,E,J⟩:=oO k;have o:=hI (HZ b z);have A:Hid ((b.alloc (.cells ag 77)).heap[b.heap.size]?=some (.cells ag 77 (0,0))):=cj b _ _;have u:Hid ((prog.info? 77).map (·.size)=some d.size):=hI (by rw[E];exact cD);have D:Hid (ag.size=d.size):=hI (by rw[E];rfl);have G:=hI J;have m3:b.heap.size≠w.heap.size:=by have:=z.size;have:=K.out;omega
 have j:Hid (w.heap.size≠b.heap.size/\w.heap.size<b.heap.size):=⟨m3.symm,by have:=z.size;have:=K.out;omega⟩;clear E J;cases X with
 |error n=>
  obtain⟨a4,x,y,Q,O,g,_,_⟩:=k;injection g with g;injection g with g;simp at g;obtain⟨rfl,rfl⟩:=g;have i:Hid (((b.alloc (.cells ag 77)).setRow b.heap.size d).heap[w.heap.size]?=some (.cells ag 77 (0,0))/\Bl w ((b.alloc (.cells ag 77)).setRow b.heap.size d)):=by refine⟨?_,aZ (o.out.2.alloc o.out.2.size _) (jF j.out.2) _⟩;rw[setRow_other _ _ _ _ j.out.1];exact((ai b.heap.size b).alloc .refl _).block _ j.out.2|>.trans o.out.1
  clear z;go_wp2_with(first|refine aY rfl 77 _ _ rfl b.heap.size d rfl rfl 77 ag A u D G ?_|refine aY rfl 77 _ _ rfl w.heap.size ag rfl rfl 77 ag i.out.1 cD rfl jM ?_);(try simp only[Exit.inBlock,Exit.then]);have p:=bQ (P:=prog) (((b.alloc (.cells ag 77)).setRow b.heap.size d).setRow w.heap.size ag) w.heap.size 77 77 ag (0,0) _ (bH _ w.heap.size ag ag 77 (0,0) i.out.1) underlying77 rfl cD;refine aO (v:=.tuple #[.agg ag,.iface 104 (.agg #[.string t,.iface 96 (.agg #[Iv n,.string x,.string y,.iface Q O])])]) ?_ rfl ⟨⟨x,y,Q,O,by rw[HT.out]⟩,aZ i.out.2 .refl _⟩;rw[bR rfl];simp only[ag] at p;simp[asAddr,Result.andThen,p,ag]
 |ok a=>
  have M:=hI k;obtain⟨v2,g,hs⟩:=k;injection g with g;injection g with g;simp at g;obtain⟨a1,rfl⟩:=g;clear a1 hs;have i:Hid (((b.alloc (.cells ag 77)).setRow b.heap.size d).heap[w.heap.size]?=some (.cells ag 77 (0,0))/\Bl w ((b.alloc (.cells ag 77)).setRow b.heap.size d)):=by refine⟨?_,aZ (o.out.2.alloc o.out.2.size _) (jF j.out.2) _⟩;rw[setRow_other _ _ _ _ j.out.1];exact((ai b.heap.size b).alloc .refl _).block _ j.out.2|>.trans o.out.1
  have Y:=hI (bH _ b.heap.size ag d 77 (0,0) A);have a0:=hI (oP (oP (DB M ((ai b.heap.size b).alloc .refl _)) _ _ d A) _ _ d i.out.1);clear z M;go_wp2_with(first|refine cb rfl 77 _ rfl b.heap.size rfl 77 d (0,0) _ Y underlying77 rfl u ?_|refine aY rfl 77 _ _ rfl b.heap.size d rfl rfl 77 ag A u D G ?_|refine aY rfl 77 _ _ rfl w.heap.size d rfl rfl 77 ag i.out.1 u D G ?_);(try simp only[Exit.inBlock,Exit.then]);have p:=bQ (P:=prog) (((b.alloc (.cells ag 77)).setRow b.heap.size d).setRow w.heap.size d) w.heap.size 77 77 d (0,0) _ (bH _ w.heap.size ag d 77 (0,0) i.out.1) underlying77 rfl u;refine aO (v:=.tuple #[.agg d,.nilIface]) ?_ rfl ⟨a0,aZ i.out.2 .refl _⟩;rw[bR rfl];simp only[ag] at p;simp[asAddr,Result.andThen,p]
end Go.Proofs
namespace Go.Moor
open Go Go.Proofs
structure Small (N M:Nat) (a:Adr):Prop where
 s:a.s.length<=N
 e:a.t.e.length<=N
 d:a.t.d.length<=N
 h:a.t.h.length<=N
 p:a.t.p= -1\/(0<=a.t.p/\a.t.p<=65535)
 text:a.w.text.length<=N
 count:a.w.g.length<=M
 g:∀x∈a.w.g,x.length<=N
 q:(a.q.getD []).length<=N
 f:(a.f.getD []).length<=N
theorem lower_len (l:Bs):(Lib.toLowerA l).length=l.length:=by simp[Lib.toLowerA]
theorem uS (a:List Nat) (h:a.length=8):(et a).length<=82:=by
 unfold et;split
 .grind[jw]
 .grind[jw]
theorem rg (l:Bs) (a:Bool) (h:Bs) (e:hostTell l a=some h):h.length<=3*l.length+90:=by
 unfold hostTell at e;split at e
 .unfold gc at e
  split at e
  .grind[tj,uS]
  .simp at e
 .split at e
  .unfold fU at e
   have b:=mn l.length l .refl;split at e
   .simp at e
   .split at e
    .simp at e
    .split at e
     .grind[dy,wZ]
     .grind[lower_len]
  .grind[ie,iT]
theorem oG (s:Bs) (K:Nat):∀(l segs:List Bs),(∀p∈l,3*p.length+2<=K)->(∀x∈segs,x.length<=K)->(bU s segs l).length<=segs.length+l.length/\∀x∈bU s segs l,x.length<=K
 | [],segs,_,h=>⟨by simp[bU],by grind[bU]⟩
 |p::l,segs,hl,h=>by
  have d:=λx b=>hl x (oc _ b);have f:∀x∈(if l.isEmpty=true then [([]:Bs)] else []),x.length<=K:=by
   intro x b;split at b
   .grind
   .simp at b
  have e:(if l.isEmpty=true then [([]:Bs)] else []).length<=1:=by split<;>simp
  rcases vT p with c|c|c
  .rw[vR s segs p l c]
   have a:=oG s K l (segs++ [fR s p segs.isEmpty]) d (λx b=>by
    grind[vQ])
   refine⟨?_,a.2⟩;have:=a.1;simp at this⊢;omega
  .rw[rv s segs p l c]
   have a:=oG s K l (segs++(if l.isEmpty then [[]] else [])) d (λx b=>by
    grind)
   refine⟨?_,a.2⟩;have:=a.1;rw[cC] at this;simp only[dL];omega
  .rw[vS s segs p l c]
   have g:=rx s segs;have a:=oG s K l (aI s segs++(if l.isEmpty then [[]] else [])) d (λx b=>by
    grind)
   refine⟨?_,a.2⟩;have:=a.1;rw[cC] at this;simp only[dL];omega
theorem Ck (m:Bs):(bI m).length<=m.length:=by unfold bI;split<;>simp
theorem Cl (s:Bs) (a:List Bs) (t:Bs) (K:Nat) (f:3*t.length+2<=K) (b:∀x∈a,x.length<=K):(bO s a t).length<=a.length+(t.length+1)/\∀x∈bO s a t,x.length<=K:=by
 unfold bO;split
 .grind
 .have g:=Ck t
  have e:=lY 47 (bI t);have c:=oG s K (ar 47 (bI t)) a (λp d=>by have:=hR 47 _ p d;omega) b;exact⟨by omega,c.2⟩
theorem cutSlash_len (t:Bs):(bd t).1.length<=t.length/\(bd t).2.length<=t.length:=⟨(uf _).length_le,(mJ _).length_le⟩
theorem Cm (c:UInt8) (t a b:Bs) (h:jn c t=some (a,b)):a.length<=t.length/\b.length<=t.length:=by
 unfold jn at h;cases d:aN c t.reverse with
 |none=>grind
 |some p=>rw[d] at h;simp only[kd,kU,mL] at h;have e:=aB List.length (Go.Proofs.cutB_parts c _ p.1 p.2 d);rw[<-h.1,<-h.2];simp at e⊢;omega
theorem cutLogin_len (t:Bs):(bB t).1.length<=t.length/\(bB t).2.length<=t.length:=by
 unfold bB;cases h:jn 64 t with
 |none=>simp
 |some p=>exact Cm 64 t p.1 p.2 h
theorem cutPort_len (t:Bs):(cy t).1.length<=t.length:=by
 unfold cy;cases h:aN 58 (t.drop (fD t)) with
 |none=>simp
 |some p=>have a:=aB List.length (Go.Proofs.cutB_parts 58 _ p.1 p.2 h);simp at a⊢;omega
theorem uT (t s:Bs) (p:Int) (h:cV t s=some p):p= -1\/(0<=p/\p<=65535):=by
 unfold cV at h;split at h
 .grind
 .grind
structure SmallAuth (N:Nat) (a:Auth):Prop where
 e:a.e.length<=N
 d:a.d.length<=N
 h:a.h.length<=N
 p:a.p= -1\/(0<=a.p/\a.p<=65535)
structure SmallWay (N M:Nat) (w:Moor.Way):Prop where
 text:w.text.length<=N
 count:w.g.length<=M
 g:∀x∈w.g,x.length<=N
theorem Cn (t s:Bs) (a:Auth) (N:Nat) (k:3*t.length+90<=N) (h:gq hostTell t s=.ok a):SmallAuth N a:=by
 unfold gq at h;simp only at h;split at h
 .simp at h
 .rename_i c b
  split at h
  .simp at h
  .rename_i p d
   simp only[gJ] at h;have l:=cutLogin_len t;have g:=cutOpt_len 58 (bB t).1;have j:=cutPort_len (bB t).2;have f:=iT 5 (ay 58 (bB t).1).1;have e:=iT 5 ((ay 58 (bB t).1).2.getD []);have i:c.length<=3*(cy (bB t).2).1.length+90:=by
    unfold eX at b;split at b
    .simp at b
    .exact rg _ _ _ b
   rw[<-h];exact⟨by simp only;omega,by simp only;omega,by simp only;omega,uT _ _ _ d⟩
theorem jh (s:Bs) (a:List Bs) (t:Bs) (N M:Nat) (c:3*t.length+90<=N) (b:∀x∈a,x.length<=N) (d:a.length<=M):SmallWay N (M+t.length+1) (aV s a t):=by have h:=Cl s a t N (by omega) b;exact⟨by simp[aV],by show(bO s a t).length<=_;omega,h.2⟩
theorem SmallWay.mono {N M M':Nat} {w:Moor.Way} (h:SmallWay N M w) (a:M<=M'):SmallWay N M' w:=⟨h.text,bu h.count a,h.g⟩
theorem rh (s t:Bs) (a:Auth) (y:Moor.Way) (N:Nat) (e:3*t.length+90<=N) (h:cu hostTell s t=.ok (a,y)):SmallAuth N a/\SmallWay N (t.length+1) y:=by
 unfold cu at h;simp only at h;have d:=cutSlash_len t;split at h
 .simp at h
 .rename_i c b
  simp only[gJ,mL] at h;obtain⟨rfl,rfl⟩:=h;refine⟨Cn _ s c N (by omega) b,?_⟩;exact(jh s [] (bd t).2 N 0 (by omega) (by simp) (by simp)).mono (by omega)
theorem lP (N:Nat) (h:Bs) (a:h.length<=N):SmallAuth N (ey h):=⟨by simp[ey],by simp[ey],a,.inl rfl⟩
theorem uU (N:Nat):SmallAuth N noAuth:=⟨by simp[noAuth],by simp[noAuth],by simp[noAuth],.inl rfl⟩
theorem Small.t {N M:Nat} {a:Adr} (h:Small N M a):SmallAuth N a.t:=⟨h.e,h.d,h.h,h.p⟩
theorem Small.w {N M:Nat} {a:Adr} (h:Small N M a):SmallWay N M a.w:=⟨h.text,h.count,h.g⟩
theorem uV (s m:Bs) (q:Option Bs) (b:Adr) (N M:Nat) (f:3*m.length+90<=N) (c:(q.getD []).length<=N) (a:Small N M b):SmallWay N (M+m.length+1) (dc s m q b).1/\((dc s m q b).2.getD []).length<=N:=by
 unfold dc;split
 .have d:=rx s b.w.g
  exact⟨jh s _ m N M f (λx e=>a.g x (d.2 x e)) (bu d.1 a.count),c⟩
 .refine⟨a.w.mono (by omega),?_⟩
  simp only;split
  .exact c
  .exact a.q
def ri (N M:Nat) (p:Auth×Moor.Way×Option Bs):Prop:=SmallAuth N p.1/\SmallWay N M p.2.1/\(p.2.2.getD []).length<=N
theorem Co (segs:List Bs):(cN segs).length<=segs.length/\∀x∈cN segs,x∈segs:=by grind[cN]
theorem uW (t h:Bs) (e:dQ hostTell t=some h):h.length<=3*t.length+90:=by
 unfold dQ at e;split at e
 .grind
 .split at e
  .simp at e
  .rename_i g a
   have:=rg _ _ _ a;split at e
   .grind
   .grind
theorem Cp (m:Bs) (q:Option Bs) (e:Option Adr) (N M:Nat) (p:Auth×Moor.Way×Option Bs) (n:3*m.length+90<=N) (c:(q.getD []).length<=N) (g:∀b,e=some b->Small N M b) (h:ez hostTell m q e=.ok p):ri N (M+m.length+1) p:=by
 unfold ez at h;split at h
 .simp only at h
  have l:=cutSlash_len (m.drop 2);have d:(m.drop 2).length<=m.length:=by simp
  split at h
  .simp only[gJ] at h
   rw[<-h];exact⟨lP N [] (by simp),(jh sFile [] (m.drop 2) N 0 (by omega) (by simp) (by simp)).mono (by omega),c⟩
  .split at h
   .simp at h
   .rename_i k i
    simp only[gJ] at h;rw[<-h];have:=uW _ _ i;exact⟨lP N k (by omega),(jh sFile [] (bd (m.drop 2)).2 N 0 (by omega) (by simp) (by simp)).mono (by omega),c⟩
 .split at h
  .simp only[gJ] at h
   rw[<-h];exact⟨lP N [] (by simp),(jh sFile [] m N 0 (by omega) (by simp) (by simp)).mono (by omega),c⟩
  .rename_i b
   have a:=g b rfl;split at h
   .simp only[gJ] at h
    rw[<-h];exact⟨lP N _ a.h,(jh sFile [] m N 0 (by omega) (by simp) (by simp)).mono (by omega),c⟩
   .split at h
    .simp only[gJ] at h
     rw[<-h];have d:=Co b.w.g;exact⟨lP N _ a.h,jh sFile _ m N M (by omega) (λx j=>a.g x (d.2 x j)) (bu d.1 a.count),c⟩
    .simp only[gJ] at h
     rw[<-h];have f:=uV sFile m q b N M (by omega) c a;exact⟨lP N _ a.h,f.1,f.2⟩
theorem uX (m:Bs):(cW m).length<=m.length:=(mJ _).length_le
theorem Cq (s m:Bs) (q:Option Bs) (b:Adr) (N M:Nat) (p:Auth×Moor.Way×Option Bs) (k:3*m.length+90<=N) (c:(q.getD []).length<=N) (a:Small N M b) (h:eA hostTell s m q b=.ok p):ri N (M+m.length+1) p:=by
 unfold eA at h;split at h
 .have n:(m.drop 2).length<=m.length:=by simp
  have j:=uX (m.drop 2);have l:(if ao s=true then cW (m.drop 2) else m.drop 2).length<=m.length:=by split<;>omega
  cases i:cu hostTell s (if ao s=true then cW (m.drop 2) else m.drop 2) with
  |error e=>grind
  |ok f=>rw[i] at h;simp only[gJ] at h;have d:=rh s _ f.1 f.2 N (by omega) i;rw[<-h];exact⟨d.1,d.2.mono (by omega),c⟩
 .split at h
  .simp only[gJ] at h
   rw[<-h];exact⟨a.t,(jh s [] m N 0 (by omega) (by simp) (by simp)).mono (by omega),c⟩
  .simp only[gJ] at h
   rw[<-h];have g:=uV s m q b N M (by omega) c a;exact⟨a.t,g.1,g.2⟩
theorem Cr (t:Bs):(dd t).length<=9*t.length:=by
 have d:=iT 0 t;have a:∀l:Bs,(l.flatMap λc=>if c=32 then [37,50,48] else [c]).length<=3*l.length:=by
  intro l;induction l with
  |nil=>simp
  |cons c l b=>grind
 have:=a (ah 0 t);unfold dd;omega
theorem Cs (s m:Bs) (a:Auth) (y:Moor.Way) (N:Nat) (c:9*m.length+90<=N) (h:dR hostTell s m=.ok (a,y)):SmallAuth N a/\SmallWay N (m.length+1) y:=by
 unfold dR at h;split at h
 .have b:(m.drop 2).length<=m.length:=by simp
  have:=rh s (m.drop 2) a y N (by omega) h;exact⟨this.1,this.2.mono (by omega)⟩
 .split at h
  .simp only[gJ,mL] at h
   obtain⟨rfl,rfl⟩:=h;exact⟨uU N,(jh s [] m N 0 (by omega) (by simp) (by simp)).mono (by omega)⟩
  .simp only[gJ,mL] at h
   obtain⟨rfl,rfl⟩:=h;have:=Cr m;exact⟨uU N,by simp only;omega,by simp,by simp⟩
theorem Ct (s m:Bs) (q:Option Bs) (f:Option Adr) (N M:Nat) (p:Auth×Moor.Way×Option Bs) (k:9*m.length+90<=N) (g:(q.getD []).length<=N) (i:∀b,f=some b->Small N M b) (h:dS hostTell s m q f=.ok p):ri N (M+m.length+1) p:=by
 unfold dS at h;split at h
 .grind[Cp]
 .split at h
  .grind[Cq]
  .have j:=uX m
   cases d:(if ao s=true then cu hostTell s (cW m) else dR hostTell s m) with
   |error e=>grind
   |ok c=>
    rw[d] at h;simp only[gJ] at h;rw[<-h];split at d
    .have a:=rh s _ c.1 c.2 N (by omega) d
     exact⟨a.1,a.2.mono (by omega),g⟩
    .have a:=Cs s m c.1 c.2 N (by omega) d
     exact⟨a.1,a.2.mono (by omega),g⟩
theorem oH (s m:Bs):(aq s m).length=m.length:=by grind[aq]
theorem ng (s:Int) (o:Option Bs):((o.map (ah s)).getD []).length<=3*(o.getD []).length:=by
 cases o with
 |none=>simp
 |some t=>exact iT s t
theorem uY (s m:Bs) (q f:Option Bs) (d:Option Adr) (N M:Nat) (a:Adr) (j:s.length<=N) (r:9*m.length+90<=N) (n:3*(q.getD []).length<=N) (o:3*(f.getD []).length<=N) (i:∀b,d=some b->Small N M b) (h:eB hostTell s m q f d=.ok a):Small N (M+m.length+1) a:=by
 unfold eB at h;have l:=ng (bE s) q;have k:=ng 1 f;cases g:dS hostTell s (aq s m) (q.map (ah (bE s))) d with
 |error e=>grind
 |ok p=>rw[g] at h;simp only[gJ] at h;have c:=Ct s (aq s m) _ d N M p (by grind[oH]) (by omega) i g;rw[oH] at c;rw[<-h];exact⟨j,c.1.e,c.1.d,c.1.h,c.1.p,c.2.1.text,c.2.1.count,c.2.1.g,c.2.2,by simp only;omega⟩
theorem kj (t:Bs) (e:Option Adr) (N M:Nat) (a:Adr) (q:9*t.length+90<=N) (g:∀b,e=some b->Small N M b) (h:bL hostTell t e=.ok a):Small N (M+t.length+1) a:=by
 unfold bL at h;have d:=rq t;obtain⟨k,l,m,o⟩:=vD (dE t);generalize ej (dE t)=c at*;have f:∀{x:Adr} {M':Nat},Small N M' x->M'<=M+t.length+1->Small N (M+t.length+1) x:=λh i=>⟨h.s,h.e,h.d,h.h,h.p,h.text,bu h.count i,h.g,h.q,h.f⟩;unfold iu at h;split at h
 .refine f (uY c.s c.i c.q c.f _ N M a (by omega) (by omega) (by omega) (by omega) ?_ h) (by omega)
  intro b j;cases e with
  |none=>simp at j
  |some n=>grind
 .split at h
  .simp at h
  .rename_i b
   have d:=g b rfl;split at h
   .split at h
    .simp only[gJ] at h
     rw[<-h];have p:=ng 1 c.f;refine f (M':=M) ?_ (by omega);exact⟨d.s,d.e,d.d,d.h,d.p,d.text,d.count,d.g,d.q,by simp only;omega⟩
    .simp at h
   .exact f (uY b.s c.i c.q c.f _ N M a d.s (by omega) (by omega) (by omega) g h) (by omega)
end Go.Moor
namespace Go.Proofs
open Go.RowKit Go.Moor Go.Proofs.Tryz Go.Moor
def fe (o:Option Bs) (e:Ending):Prop:=
 match o with
 |some t=>e=.returned (.tuple #[.string ⟨t.toArray⟩,.bool true])
 |none=>∃x,e=.returned (.tuple #[.string x,.bool false])
theorem IC:∀c:Fin 256,pY.contains c.val.toUInt8=eL c.val.toUInt8:=by decide+kernel
theorem ID (c:UInt8):pY.contains c=eL c:=by have h:=IC ⟨c.toNat,c.toNat_lt⟩;simp only at h;rwa[show c.toNat.toUInt8=c by simp] at h
theorem badS_fin:∀c:Fin 256,dp c.val.toUInt8=(eL c.val.toUInt8||(decide (c.val<32)||(decide (c.val=37)||decide (126<c.val)))):=by decide+kernel
theorem xX (c:UInt8):dp c=(eL c||(decide (c.toNat<32)||(decide (c.toNat=37)||decide (126<c.toNat)))):=by have h:=badS_fin ⟨c.toNat,c.toNat_lt⟩;simp only at h;rwa[show c.toNat.toUInt8=c by simp] at h
theorem xY (m:Bs) (c:UInt8):Lib.hasSuffix (m++ [c]) [93]=decide (c=93):=by
 unfold Lib.hasSuffix;rw[ki,BH,kX];constructor
 .simp_all
 .grind
theorem IE (a:List Int) (h:∀p∈a,iB p):an a=((a.map Int.toNat).map λp=>Value.int .i64 (p:Nat)).toArray:=by unfold an;rw[qK];congr 1;refine List.map_congr_left λp b=>?_;have:=(h p b).1;simp;omega
theorem IF (s:ByteArray) (T:Bool) (w:World) (hs:s.size<=2000) (u:Lib.hasPrefix s.data.toList [91]=true):Calls prog 67 #[.string s,.bool T] w fun e w'=>fe (gc (s.data.toList.drop 1)) e/\Bl w w':=by
 obtain⟨l,v⟩:=am s.data.toList;have q:Hid (l.length=s.size):=hI (by rw[v,bT];rfl);have H:Hid (∀(k:Nat) (h:k<s.size) (f:k<l.length),l[k]=s[k]):=by intro k h f;subst v;simp;rfl
 have J:Hid (∀i j:Nat,s.extract i j=⟨((l.drop i).take (j- i)).toArray⟩):=by intro i j;rw[v];exact fJ s i j
 rw[<-v] at u⊢;clear v;rw[oX,kX] at u;obtain⟨r,c⟩:∃r,l=91::r:=by
  cases l with
  |nil=>simp at u
  |cons x r=>grind
 have V:0<s.size:=by rw[<-q.out,c];simp
 obtain⟨k,z⟩:∃k,s.size=k+1:=⟨s.size- 1,by omega⟩;have b6:((s[0].toNat:Int)==91)=true:=by
  have f:0<l.length:=by rw[q.out];exact V
  rw[<-H.out 0 V f];have:l[0]?=some 91:=by rw[c];rfl
  rw[bY f] at this;rw[eh this];rfl
 have Y:k<s.size:=by omega
 have a8:k<l.length:=by rw[q.out];exact Y
 have X:=hI (H k Y a8);have A:Hid (l.drop 1=r):=hI (by rw[c];rfl);suffices b2:∀d:Option Bs,Hid (d=gc (l.drop 1))->Calls prog 67 #[.string s,.bool T] w fun e w'=>fe d e/\Bl w w' from b2 _ rfl
 intro d I;by_cases t:s[k]=93
 .have b4:0<k:=by
   obtain h|h:=oB k
   .simp_all
   .exact h
  obtain⟨m,E⟩:∃m,r=m++ [93]:=by have o:r.length=k:=(by have:=q.out;rw[c,z] at this;simpa using this);have f:r≠[]:=(by intro h;rw[h] at o;simp at o;omega);refine⟨r.dropLast,?_⟩;have K:=BA f;rw[<-K];have h4:r.getLast f=93:=(by rw[<-t,<-X.out,List.getLast_eq_getElem];simp only[c,o];rw[List.getElem_cons,dif_neg (by omega)]);rw[h4];simp
  have a9:m.length+1=k:=by have:=q.out;rw[c,z,E] at this;simpa using this
  have HX:Hid (s.extract 1 k=⟨m.toArray⟩):=by show _=_;rw[J.out 1 k,A.out,E,PM (by omega),cg (by omega)]
  have M:Hid (d=match fw m with|some a=>some ([91]++(et (a.map Int.toNat)++ [93]))|none=>none):=by
   show _=_;have S:=xY m 93;have a2:Lib.trimSuffix (m++ [93]) [93]=m:=by unfold Lib.trimSuffix;rw[S];simp
   rw[I.out,A.out,E];unfold gc;rw[S,ae (by simp),a2];cases fw m<;>rfl
  have D:Hid (CP 116 #[.string (s.extract 1 k)] w (sn (fw m))):=by show Calls _ _ _ _ _;have:=Ii (s.extract 1 k) w (by simp;omega);rw[HX.out] at this⊢;rw[<-JS];exact this
  have a6:(s[k].toNat:Int)=93:=by rw[t];rfl
  have a3:(s.size:Int)- 1=(k:Int):=by omega
  have b7:((s.size:Int)==1)=false:=by rw[aL];omega
  have b8:(1:Int)<=(k:Int):=by omega
  have b9:(k:Int)<=(s.size:Int):=by omega
  clear c E a9 t u A I J H z;cases g:fw m with
  |none=>have P:Hid (d=none):=hI (by rw[M.out,g]);rw[g] at D;clear g;go_enter func67,ntmps67;go_wp2_with fail;refine af D ?_;rintro e b ⟨⟨G,R,rfl⟩,n⟩;have y:=n.size;have C:Hid ((b.alloc (.cells (an zero8) 34)).heap[b.heap.size]?=some (.cells (an zero8) 34 (0,0))):=dO b _;have F:Hid ((prog.info? 34).map (·.size)=some (an G).size):=hI (by rw[kx,R];exact nK);have N:Hid ((an zero8).size=(an G).size):=hI (by rw[kx G,R];rfl);go_wp2_with(refine aY rfl 34 _ _ rfl b.heap.size (an G) rfl rfl 34 (an zero8) C F N (gS _) ?_);go_ret2;rw[P.out];exact⟨⟨_,rfl⟩,aZ (n.alloc y _) y _⟩
  |some a=>
   obtain⟨L,a0⟩:=tj m a g;have a4:Hid (d=some ([91]++(et (a.map Int.toNat)++ [93]))):=hI (by rw[M.out,g]);rw[g] at D;have a5:Hid (∀W,CB 117 #[.agg (an a)] W (.string ⟨(et (a.map Int.toNat)).toArray⟩)):=by
    intro W;rw[IE a a0];exact Jv (a.map Int.toNat) (by grind) (fun p hp=>by
     grind[iB]) W
   have a1:=uS (a.map Int.toNat) (by grind);have a7:Hid ((⟨#[91]⟩:ByteArray)++⟨(et (a.map Int.toNat)).toArray⟩++⟨#[93]⟩=⟨([91]++(et (a.map Int.toNat)++ [93])).toArray⟩):=(by show _=_;have e1:(⟨#[91]⟩:ByteArray)++⟨(et (a.map Int.toNat)).toArray⟩=⟨([91]++et (a.map Int.toNat)).toArray⟩:=aP [91] _;rw[e1];exact(aP _ [93]).trans (by rfl));have hz:(⟨(et (a.map Int.toNat)).toArray⟩:ByteArray).size<=82:=(by rw[al];exact a1);generalize(⟨(et (a.map Int.toNat)).toArray⟩:ByteArray)=B at*;have b0:(⟨#[91]⟩:ByteArray).size=1:=rfl;have b1:(⟨#[93]⟩:ByteArray).size=1:=rfl;have g0:∀W:World,(Op.stringOp .add ⟨#[91]⟩ B).run prog W=.ok (.string (⟨#[91]⟩++B)) W:=fun W=>bm W _ _ (by omega);have g1:∀W:World,(Op.stringOp .add (⟨#[91]⟩++B) ⟨#[93]⟩).run prog W=.ok (.string (⟨#[91]⟩++B++⟨#[93]⟩)) W:=fun W=>bm W _ _ (by grind);have F:Hid ((prog.info? 34).map (·.size)=some (an a).size):=hI (by rw[kx,L];exact nK);have N:Hid ((an zero8).size=(an a).size):=hI (by rw[kx a,L];rfl);clear g a0 L a1 hz b0 b1 M;go_enter func67,ntmps67;go_wp2_with fail;refine af D ?_;rintro e b ⟨O,n⟩;have O:e=_:=O;subst O;have y:=n.size;have C:Hid ((b.alloc (.cells (an zero8) 34)).heap[b.heap.size]?=some (.cells (an zero8) 34 (0,0))):=dO b _;have b3:=hI (bH _ b.heap.size (an zero8) (an a) 34 (0,0) C);have Q:Hid (Bl w ((b.alloc (.cells (an zero8) 34)).setRow b.heap.size (an a))):=aZ (n.alloc y _) y _;clear n;go_wp2_with(first|refine aY rfl 34 _ _ rfl b.heap.size (an a) rfl rfl 34 (an zero8) C F N (gS _) ?_|refine cb rfl 34 _ rfl b.heap.size rfl 34 (an a) (0,0) _ b3 underlying34 rfl F ?_);refine mR (a5 _) fun w2 Z=>?_;have b5:=hI (Q.out.trans (Z.mono Q.out.size));clear Z;go_wp2;go_ret2;rw[a4.out];refine⟨?_,b5⟩;show _=Ending.returned (.tuple #[.string ⟨([91]++(et (a.map Int.toNat)++ [93])).toArray⟩,.bool true]);rw[<-a7.out];rfl
 .have P:Hid (d=none):=by
   show _=_;rw[I.out,A.out];unfold gc;rw[ab];intro h;by_cases U:r=[]
   .grind[Lib.hasSuffix]
   .have K:=BA U
    rw[<-K,xY,kX] at h;apply t;have o:r.length=k:=(by have:=q.out;rw[c,z] at this;simpa using this);rw[<-X.out,<-h,List.getLast_eq_getElem];have b4:0<k:=(by rw[<-o];exact iK.2 U);simp only[c,o];rw[List.getElem_cons,dif_neg (by omega)]
  have a6:¬(s[k].toNat:Int)=93:=by intro h;exact t (cU.1 (by grind))
  have a3:(s.size:Int)- 1=(k:Int):=by omega
  clear c t u A I J H z;go_enter func67,ntmps67;go_wp2;go_ret2;rw[P.out];exact⟨⟨_,rfl⟩,ai _ _⟩
theorem xZ (c:UInt8) (w:World):Calls prog 110 #[.string ⟨#[0,9,10,13,32,35,47,58,60,62,63,64,91,92,93,94,124]⟩,.int .u8 c.toNat] w λe w'=>e=.returned (.bool (eL c))/\w'=w:=by have h:=kv ⟨#[0,9,10,13,32,35,47,58,60,62,63,64,91,92,93,94,124]⟩ c w (by decide);have e:(⟨#[0,9,10,13,32,35,47,58,60,62,63,64,91,92,93,94,124]⟩:ByteArray).L.contains c=eL c:=ID c;rwa[e] at h
theorem ya (s:ByteArray) (h:Lib.hasPrefix s.data.toList [91]=false):(¬(0:Int)<(s.size:Int))\/((0:Int)<(s.size:Int)/\∃a:0<s.size,((s[0].toNat:Int)==91)=false):=by
 by_cases a:0<s.size
 .right
  refine⟨by omega,a,?_⟩;rw[aL];intro c;have:s[0]=91:=cU.1 (by grind);rw[oX,uv] at h;apply h;have b:0<s.L.length:=by rw[bT];exact a
  rw[mO,bY b,<-this];rfl
 .left
  omega
theorem IG (s:ByteArray) (w:World) (E:s.size<=2000) (o:Lib.hasPrefix s.data.toList [91]=false):Calls prog 67 #[.string s,.bool false] w fun e w'=>fe (ie s.data.toList) e/\Bl w w':=by
 have z:=hI (hZ s 0 w (by omega));have v:=hI fun c n=>xZ c n;suffices x:∀d:Option Bs,Hid (d=ie s.data.toList)->Calls prog 67 #[.string s,.bool false] w fun e w'=>fe d e/\Bl w w' from x _ rfl
 intro d m;rcases ya s o with u|⟨u,C,B⟩;all_goals
  go_enter func67,ntmps67;go_wp2_with fail;go_loopw [9] (fun i wr=>∃k:Nat,k<=s.size/\i=Iv (k:Nat)/\(∀(j:Nat) (b:j<s.size),j<k->eL s[j]=false)/\wr=w) (fun i _=>s.size-(intOf i).toNat)
  case atStart=>exact⟨0,aR _,rfl,fun j b h=>by omega,rfl⟩
  case round=>
   obtain⟨k,D,rfl,l,r⟩:=hrel;obtain rfl:=r.symm;have g:=hI l;clear l;by_cases t:k<s.size
   .have f:Hid _:=v s[k] w
    cases a:eL s[k] with
    |true=>have A:Hid (d=none):=(by show _=_;rw[m.out];exact ae (wS s k t a));rw[a] at f;clear a;go_wp2_with fail;refine m0 f ?_;go_wp2;go_ret2;rw[A.out];exact⟨⟨_,rfl⟩,ai _ _⟩
    |false=>
     have p:Hid (∀(j:Nat) (b:j<s.size),j<k+1->eL s[j]=false):=by
      intro j b h;by_cases e:j=k
      .subst e;exact a
      .exact g j b (by omega)
     rw[a] at f;clear a;go_wp2_with fail;refine m0 f ?_;go_wp2;go_roundw
     case rel=>exact⟨k+1,by omega,by go_num,p.out,trivial⟩
     case measure=>grind[intOf]
   .have q:Hid (d=some (ah 0 s.data.toList)):=by
     show _=_;rw[m.out];unfold ie;rw[ab];rw[wT s (fun j b=>g.out j b (by omega))];simp
    go_wp2_with fail;refine mH z fun n y=>?_;go_wp2;go_ret2;rw[q.out];exact⟨rfl,y⟩
theorem IH (s:ByteArray) (k:Nat) (h:k<s.size) (a:dp s[k]=true):s.data.toList.any dp=true:=by rw[qQ];exact⟨s[k],ef (i:=k) (by rw[jK];exact PL h),a⟩
theorem II (s:ByteArray) (h:∀(j:Nat) (a:j<s.size),dp s[j]=false):s.data.toList.any dp=false:=by rw[uq];intro x c;rw[oz] at c;obtain⟨j,a⟩:=c;rw[jK,aT] at a;obtain⟨g,d⟩:=a;have f:=h j g;rw[<-d];intro e;have b:dp s[j]=true:=e;rw[f] at b;cases b
theorem IJ (c:UInt8) (h:dp c=true):eL c=true\/(eL c=false/\(c.toNat:Int)<32)\/(eL c=false/\¬(c.toNat:Int)<32/\((c.toNat:Int)==37)=true)\/(eL c=false/\¬(c.toNat:Int)<32/\((c.toNat:Int)==37)=false/\(126:Int)<(c.toNat:Int)):=by grind[xX]
theorem IK (c:UInt8) (h:dp c=false):eL c=false/\¬(c.toNat:Int)<32/\((c.toNat:Int)==37)=false/\¬(126:Int)<(c.toNat:Int):=by grind[xX]
theorem lower_len (u:Bs):(Lib.toLowerA u).length=u.length:=by simp[Lib.toLowerA]
theorem IL:cn []=[[]]:=by decide
end Go.Proofs
