import Derived.Test.YtkcnageeamappaaGreatDoorXAGoOn
set_option maxHeartbeats 32000000
set_option maxRecDepth 8000
set_option linter.unusedSimpArgs false
namespace Go.Moor
open Go
def jj (m:Bs) (q:Option Bs) (b:Adr):Way×Option Bs:=
 if aC (bd (bI m)).1 then(aV sFile [] m,q)
 else if m.head? =some 47 then(aV sFile (cN b.w.g) m,q)
 else dc sFile m q b
end Go.Moor
namespace Go.Proofs
open Go.RowKit Go.Moor Go.Proofs.Tryz Go.Moor
theorem CK (a:Adr) (v:Value) (w:World) (z:bh w v a.w.g) (s:∀x∈a.w.g,x.length<=1000000):Calls prog 303 #[.agg (av a v)] w fun e w'=>(∃u,e=.returned u/\bh w u (cN a.w.g)/\(∀g n c,u=.slice (some ⟨g,0,none⟩) n c->∃B C,v=.slice (some ⟨g,0,none⟩) B C))/\Bl w w':=by
 obtain⟨R,⟨X,T,L,O,N⟩,⟨V,M,segs⟩,D,fr⟩:=a;unfold av;simp only at z s⊢;have q:Hid (∀o:Obj,Bl w (w.alloc o)):=fun o=>(ai _ _).alloc .refl o;obtain⟨⟨I,b,rfl,f,H,t⟩,m⟩:=z;unfold maxLen at H;generalize D.isSome=W at*;generalize D.getD []=P at*;generalize fr.isSome=U at*;generalize fr.getD []=Q at*;have l:bh w (.slice none 0 0) []:=⟨⟨none,0,rfl,.refl,aR _,fun h=>absurd rfl h⟩,fun g n c h=>by cases h⟩;match segs,f,t,s,m with
 | [],f,_,_,_=>have d:Hid (bh w (.slice none 0 0) (cN [])):=l;clear l;show Calls prog _ #[.agg #[_,_,_,_,_,_,_,_,.slice I 0 b,_,_,_,_]] w _;go_enter func303,ntmps303;go_wp2;go_ret;exact⟨⟨_,rfl,d,fun g n c h=>by cases h⟩,q _⟩
 |x::r,f,t,s,m=>
  obtain⟨g,rfl,F⟩:=t (by simp);have G:=F 0 x rfl;have S:=nm G;have k:=hI fun K=>vh x K (by grind);have J:1<=b:=by simp at f;omega
  cases i:ek x with
  |true=>
   have d:Hid (bh w (.slice (some (Ad g 0)) 1 b) (cN (x::r))):=by
    have p:cN (x::r)=[x]:=(by unfold cN;rw[ae ⟨by simp,i⟩];rfl);show bh _ _ _;rw[p];refine⟨⟨some (Ad g 0),b,rfl,J,by grind[maxLen],fun _=>⟨g,rfl,fun j y E=>?_⟩⟩,fun A B C h=>by injection h with h _ _;injection h with h;injection h with h _;subst h;exact m _ _ _ rfl⟩;cases j with
    |zero=>grind
    |succ j=>simp at E
   rw[i] at k;show Calls prog _ #[.agg #[_,_,_,_,_,_,_,_,.slice (some (Ad g 0)) (r.length+1) b,_,_,_,_]] w _;go_enter func303,ntmps303;go_wp21;refine m0 (k _) ?_;go_wp2;go_ret;exact⟨⟨_,rfl,d,fun A n c h=>by simp_all⟩,q _⟩
  |false=>have d:Hid (bh w (.slice none 0 0) (cN (x::r))):=(by have p:cN (x::r)=[]:=(by unfold cN;rw[ab (by simp[i])]);show bh _ _ _;rw[p];exact l);rw[i] at k;show Calls prog _ #[.agg #[_,_,_,_,_,_,_,_,.slice (some (Ad g 0)) (r.length+1) b,_,_,_,_]] w _;go_enter func303,ntmps303;go_wp21;refine m0 (k _) ?_;go_wp2;go_ret;exact⟨⟨_,rfl,d,fun A n c h=>by cases h⟩,q _⟩
def lR (k:Nat) (sc:Bs) (c1 c2 c3 c4 c5 c11 c12:Value) (p:Moor.Way×Option Bs) (w':World):Prop:=
 ∃v,w'.heap[k]?=some (.cells #[.string ⟨sc.toArray⟩,c1,c2,c3,c4,c5,.bool p.1.o,.string ⟨p.1.text.toArray⟩,v,.bool p.2.isSome,.string ⟨(p.2.getD []).toArray⟩,c11,c12] 77 (0,0))/\bh w' v p.1.g
theorem CL {w:World} {a:Option Go.Addr} {n c:Nat} {segs:List Bs} (h:bh w (.slice a n c) segs):n=segs.length/\(segs≠[]->∃g,a=some ⟨g,0,none⟩/\∀(j:Nat) x,segs[j]?=some x->Ce w g j (.string ⟨x.toArray⟩)):=by obtain⟨⟨f,e,b,_,_,d⟩,_⟩:=h;injection b with e1 e2 e3;subst e1;exact⟨e2,d⟩
theorem CM (m:Bs):Lib.trimPrefix m [47]=bI m:=by
 unfold Lib.trimPrefix bI Lib.hasPrefix;cases m with
 |nil=>rfl
 |cons c m=>grind
theorem vj (m:Bs):Lib.hasPrefix m [47]=decide (m.head? =some 47):=by
 cases m with
 |nil=>rfl
 |cons c m=>
  simp only[Lib.hasPrefix,List.isPrefixOf,Bt,List.head?_cons];by_cases a:c=47
  .subst a;rfl
  .grind
theorem CO (m:Bs):(bI m).length<=m.length:=by
 unfold bI;split
 .simp
 .omega
theorem CR (k:Nat) (m:Bs) (q:Option Bs) (b:Adr) (z:Value) (F E B D I c6 c7 c8 H J:Value) (w:World) (hm:m.length<=100000) (hk:w.heap[k]?=some (.cells #[.string ⟨sFile.toArray⟩,F,E,B,D,I,c6,c7,c8,.bool q.isSome,.string ⟨(q.getD []).toArray⟩,H,J] 77 (0,0))) (hb:bh w z b.w.g) (b6:le k z) (b4:b.w.g.length<=1000000) (U:∀x∈b.w.g,x.length<=1000000) (a4:Env2 w):Calls prog 279 #[.pointer (some ⟨k,0,none⟩),.string ⟨m.toArray⟩,.agg (av b z)] w fun e w'=>e=.returned (.tuple #[])/\But k w w'/\lR k sFile F E B D I H J (jj m q b) w':=by
 have b5:=(aT.1 hk).1;have K:=hI fun f=>by
  have:=strings_CutPrefix (Bv m) ⟨#[47]⟩ f;rw[show(⟨#[47]⟩:ByteArray).data.toList=[47] from rfl,show(Bv m).data.toList=m from rfl,CM,vj] at this;exact this
 have M:Hid (∀f,CB 302 #[Sv (bI m)] f (.bool (aC (bd (bI m)).1))):=fun f=>by
  refine(Cz (bI m) f (by grind[CO])).mono ?_;rintro e w' ⟨rfl,n,rfl⟩;exact⟨rfl,ko _ _ _⟩
 have a9:Hid (∀(s:List Bs) (j:Option Go.Addr) (l:Nat) f,Bl w f->bh f (.slice j s.length l) s->s.length<=1000000->(∀x∈s,x.length<=1000000)->Calls prog 163 #[Pt k,.slice j s.length l,Sv m] f fun e w'=>e=.returned (.tuple #[])/\But k w w'/\lR k sFile F E B D I H J (aV sFile s m,q) w'):=by intro s j l f i hs hl N;refine(km k sFile m F E B D I c6 c7 c8 _ _ H J j l s f hm hl N ((i.block k b5).trans hk) (CL hs).2 (a4.below i)).mono ?_;rintro e w' ⟨rfl,G,v,h2,h3⟩;exact⟨rfl,(But.of_below i).trans G,v,h2,jN h3⟩
 have d4:Hid (∀f,Bl w f->Calls prog 303 #[.agg (av b z)] f fun e w'=>(∃j l,e=.returned (.slice j (cN b.w.g).length l)/\bh w' (.slice j (cN b.w.g).length l) (cN b.w.g))/\Bl w w'):=by intro f i;refine(CK b z f (ei hb i) U).mono ?_;rintro e w' ⟨⟨u,rfl,hu,_⟩,G⟩;have c9:=ei hu G;obtain⟨⟨j,l,rfl,_,_,_⟩,_⟩:=hu;exact⟨⟨j,l,rfl,c9⟩,i.trans (G.mono i.size)⟩
 have d0:Hid (∀f,Bl w f->Calls prog 280 #[Pt k,Sv m,.agg (av b z)] f fun e w'=>e=.returned (.tuple #[])/\But k w w'/\lR k sFile F E B D I H J (dc sFile m q b) w'):=by intro f i;refine(vl k sFile m q b z F E B D I c6 c7 c8 H J f hm ((i.block k b5).trans hk) (ei hb i) b6 b4 U (a4.below i)).mono ?_;rintro e w' ⟨rfl,G,hv⟩;exact⟨rfl,(But.of_below i).trans G,hv⟩
 have d3:Hid (∀f:World,bh f (.slice none 0 0) []):=fun f=>⟨⟨none,0,rfl,aG _,aR _,fun h=>absurd rfl h⟩,fun g n c h=>by cases h⟩;have b0:Hid ((cN b.w.g).length<=1000000/\∀x∈cN b.w.g,x.length<=1000000):=by
  unfold cN;split
  .exact⟨by simp;omega,fun x N=>U x (uh N)⟩
  .exact⟨by simp,fun x N=>by cases N⟩
 have C:Hid (jj m q b=if aC (bd (bI m)).1 then(aV sFile [] m,q) else if m.head? =some 47 then(aV sFile (cN b.w.g) m,q) else dc sFile m q b):=rfl;have a2:Hid (∀o:Obj,Bl w (w.alloc o)):=fun o=>(ai _ _).alloc (aG _) o;generalize a7:av b z=AC at*;have d1:∃T R W X Y S Z x7 x8 Q V a0 a1,AC=#[T,R,W,X,Y,S,Z,x7,x8,Q,V,a0,a1]:=⟨_,_,_,_,_,_,_,_,_,_,_,_,_,a7.symm⟩;obtain⟨T,R,W,X,Y,S,Z,x7,x8,Q,V,a0,a1,rfl⟩:=d1;clear hk a4 hb b4 U hm b6 a7;cases y:aC (bd (bI m)).1 with
 |true=>
  have O:Hid (jj m q b=(aV sFile [] m,q)):=by show _=_;rw[C.out,ae y]
  rw[y] at M;clear y C;generalize bI m=tm at*;generalize decide (m.head? =some 47)=A at*;go_enter func279,ntmps279;go_wp2_with fail;refine(K _).mono ?_;rintro e f ⟨rfl,a5⟩;obtain rfl:=a5.symm;go_wp2_with fail;refine(M _).mono ?_;rintro e a ⟨rfl,p⟩;have r:=(a2 _).trans (p.mono (by simp));have b7:=a9 [] none 0 a r (d3 a) (by simp) (by simp);have a3:Hid _:=b7;clear b7 p r;go_wp2_with fail;refine af a3 ?_;rintro e w3 ⟨rfl,L,P⟩;have t:Hid _:=And.intro L P;clear L P;go_wp2;rw[O.out];exact bS (v:=.tuple #[]) (oR rfl _ _ _) rfl ⟨rfl,t.out.1,t.out.2⟩
 |false=>
  rw[y] at M;by_cases A:m.head? =some 47
  .have O:Hid (jj m q b=(aV sFile (cN b.w.g) m,q)):=by show _=_;rw[C.out,ab (by simp[y]),ae A]
   rw[dC A] at K;clear y C A;generalize bI m=tm at*;go_enter func279,ntmps279;go_wp2_with fail;refine(K _).mono ?_;rintro e f ⟨rfl,a5⟩;obtain rfl:=a5.symm;go_wp2_with fail;refine(M _).mono ?_;rintro e a ⟨rfl,p⟩;have r:=(a2 _).trans (p.mono (by simp));have d:=(p.block w.heap.size (by simp)).trans (cj w _ _);have y0:Ce a w.heap.size 0 T:=aa d 0;have y1:Ce a w.heap.size 1 R:=aa d 1;have y2:Ce a w.heap.size 2 W:=aa d 2;have y3:Ce a w.heap.size 3 X:=aa d 3;have y4:Ce a w.heap.size 4 Y:=aa d 4;have y5:Ce a w.heap.size 5 S:=aa d 5;have y6:Ce a w.heap.size 6 Z:=aa d 6;have y7:Ce a w.heap.size 7 x7:=aa d 7;have y8:Ce a w.heap.size 8 x8:=aa d 8;have y9:Ce a w.heap.size 9 Q:=aa d 9;have a8:Ce a w.heap.size 10 V:=aa d 10;have b1:Ce a w.heap.size 11 a0:=aa d 11;have a6:Ce a w.heap.size 12 a1:=aa d 12;have d5:=hI r;clear p r d;go_wp2_with fail;refine(d4 a d5).mono ?_;rintro e w3 ⟨⟨j,l,rfl,c0⟩,b3⟩;have a3:Hid _:=a9 (cN b.w.g) j l w3 b3 c0 b0.out.1 b0.out.2;clear c0 b3 y0 y1 y2 y3 y4 y5 y6 y7 y8 y9 a8 b1 a6;go_wp2_with fail;refine af a3 ?_;rintro e w4 ⟨rfl,b8,b9⟩;have t:Hid _:=And.intro b8 b9;clear b8 b9;go_wp2;rw[O.out];exact bS (v:=.tuple #[]) (oR rfl _ _ _) rfl ⟨rfl,t.out.1,t.out.2⟩
  .have O:Hid (jj m q b=dc sFile m q b):=by show _=_;rw[C.out,ab (by simp[y]),ab A]
   rw[ee A] at K;clear y C A;generalize bI m=tm at*;go_enter func279,ntmps279;go_wp2_with fail;refine(K _).mono ?_;rintro e w ⟨rfl,rfl⟩;go_wp2_with fail;refine(M _).mono ?_;rintro e a ⟨rfl,p⟩;have r:=(a2 _).trans (p.mono (by simp));have d:=(p.block w.heap.size (by simp)).trans (cj w _ _);have y0:Ce a w.heap.size 0 T:=aa d 0;have y1:Ce a w.heap.size 1 R:=aa d 1;have y2:Ce a w.heap.size 2 W:=aa d 2;have y3:Ce a w.heap.size 3 X:=aa d 3;have y4:Ce a w.heap.size 4 Y:=aa d 4;have y5:Ce a w.heap.size 5 S:=aa d 5;have y6:Ce a w.heap.size 6 Z:=aa d 6;have y7:Ce a w.heap.size 7 x7:=aa d 7;have y8:Ce a w.heap.size 8 x8:=aa d 8;have y9:Ce a w.heap.size 9 Q:=aa d 9;have a8:Ce a w.heap.size 10 V:=aa d 10;have b1:Ce a w.heap.size 11 a0:=aa d 11;have a6:Ce a w.heap.size 12 a1:=aa d 12;have d2:Hid _:=d0 a r;clear p r d;go_wp2_with fail;refine af d2 ?_;rintro e w3 ⟨rfl,L,P⟩;have t:Hid _:=And.intro L P;clear L P;go_wp2;rw[O.out];exact bS (v:=.tuple #[]) (oR rfl _ _ _) rfl ⟨rfl,t.out.1,t.out.2⟩
def Tryz.BaseOk (w:World) (k:Nat) (p:Option Go.Addr) (ob:Option Adr):Prop:=
 match ob with
 |none=>p=none
 |some b=>∃kb bv,p=some ⟨kb,0,none⟩/\kb≠k/\w.heap[kb]?=some (.cells (av b bv) 77 (0,0))/\bh w bv b.w.g/\le k bv/\b.w.g.length<=1000000/\∀x∈b.w.g,x.length<=1000000
theorem Tryz.BaseOk.but {w w':World} {k:Nat} {p:Option Go.Addr} {a:Option Adr} (h:BaseOk w k p a) (c:But k w w'):BaseOk w' k p a:=by
 cases a with
 |none=>exact h
 |some b=>obtain⟨g,i,n,d,f,l,e,m,j⟩:=h;exact⟨g,i,n,d,(c.block g (aT.1 f).1 d).trans f,gp l c e,e,m,j⟩
theorem Tryz.BaseOk.below {w w':World} {k:Nat} {p:Option Go.Addr} {a:Option Adr} (h:BaseOk w k p a) (b:Bl w w'):BaseOk w' k p a:=h.but (But.of_below b)
def iq (k:Nat) (w':World):Prop:=∃cs:Array Value,w'.heap[k]?=some (.cells cs 77 (0,0))/\cs.size=13/\cs.all (·.oneCell')=true
theorem nj (n c d b i l e m f g j a k:Value) (h:(n.oneCell'&&c.oneCell'&&d.oneCell'&&b.oneCell'&&i.oneCell'&&l.oneCell'&&e.oneCell'&&m.oneCell'&&f.oneCell'&&g.oneCell'&&j.oneCell'&&a.oneCell'&&k.oneCell')=true):(#[n,c,d,b,i,l,e,m,f,g,j,a,k]:Array Value).all (·.oneCell')=true:=by simp_all
def gL (k:Nat) (sc:Bs) (c11 c12:Value) (o:Except Int (Auth×Moor.Way×Option Bs)) (e:Ending) (w':World):Prop:=
 match o with
 | .error n=>∃x y te ve,e=.returned (.iface 96 (.agg #[.int .i64 n,.string x,.string y,.iface te ve]))
 | .ok (a,y,q)=>e=.returned .nilIface/\∃v,w'.heap[k]?=some (.cells #[.string ⟨sc.toArray⟩,.string ⟨a.e.toArray⟩,.string ⟨a.d.toArray⟩,.bool a.has,.string ⟨a.h.toArray⟩,.int .i64 a.p,.bool y.o,.string ⟨y.text.toArray⟩,v,.bool q.isSome,.string ⟨(q.getD []).toArray⟩,c11,c12] 77 (0,0))/\bh w' v y.g
theorem lQ {k:Nat} {c:Bs} {b d:Value} {o:Except Int (Auth×Moor.Way×Option Bs)} {e:Ending} {w':World} (h:gL k c b d o e w'):∃v,e=.returned v:=by
 cases o with
 |error n=>obtain⟨x,y,g,f,rfl⟩:=h;exact⟨_,rfl⟩
 |ok p=>obtain⟨a,y,q⟩:=p;obtain⟨rfl,_⟩:=h;exact⟨_,rfl⟩
theorem CI {k:Nat} {g:Bs} {d f c m i j b l:Value} {B:Nat} {o:Except Int (Value×List Bs)} {e:Ending} {w':World} (h:oM k g d f c m i j b l B o e w'):∃v,e=.returned v:=by
 cases o with
 |error n=>obtain⟨x,y,r,q,rfl⟩:=h;exact⟨_,rfl⟩
 |ok p=>obtain⟨a,y⟩:=p;obtain⟨rfl,_⟩:=h;exact⟨_,rfl⟩
theorem CJ (k:Nat) (m:Bs) (q:Option Bs) (r:Option Adr) (S:Option Go.Addr) (G H F i j:Value) (w:World) (hm:m.length<=100000) (C:w.heap[k]?=some (.cells #[.string ⟨sFile.toArray⟩,.string ⟨#[]⟩,.string ⟨#[]⟩,.bool false,.string ⟨#[]⟩,.int .i64 (-1),G,H,F,.bool q.isSome,.string ⟨(q.getD []).toArray⟩,i,j] 77 (0,0))) (R:(G.oneCell'&&H.oneCell'&&F.oneCell'&&i.oneCell'&&j.oneCell')=true) (a4:29<=k) (J:BaseOk w k S r) (M:Env2 w):Calls prog 244 #[.pointer (some ⟨k,0,none⟩),.string ⟨m.toArray⟩,.pointer S] w fun e w'=>But k w w'/\gL k sFile i j (ez hostTell m q r) e w'/\(∀n,ez hostTell m q r=.error n->iq k w'):=by
 have j3:Ce w k 3 (.bool false):=aa C 3;have i3:=aj C 3;have g:=aD w k 3 _ 77 (.bool true) C;obtain⟨W,o⟩:=am (w.setCell (Ad k 3) (.bool true));rw[<-o] at g;have b7:Hid (iq k W):=⟨_,g,rfl,nj _ _ _ _ _ _ _ _ _ _ _ _ _ (by simp only[fx] at R;obtain⟨⟨⟨⟨a6,a7⟩,a8⟩,c4⟩,c2⟩:=R;rw[a6,a7,a8,c4,c2];rfl)⟩;clear R;have B:But k w W:=by rw[o];exact(But.of_below (ai _ _)).setCell 3 _
 have a0:=hI B;have z:=M.but B a4;have D:=hI (strings_CutPrefix ⟨m.toArray⟩ ⟨#[47,47]⟩ W);cases f:List.isPrefixOf [47,47] m with
 |true=>
  have ht:Lib.trimPrefix m [47,47]=m.drop 2:=by unfold Lib.trimPrefix;rw[jO,f];rfl
  rw[ht,jO,f] at D;have A:Hid (ez hostTell m q r=match ji sFile (m.drop 2) (.string ⟨#[]⟩) with| .error n=>.error n| .ok p=>.ok (ey (if aC (bd (m.drop 2)).1 then [] else((dQ hostTell (bd (m.drop 2)).1).getD [])),⟨false,[],p.2⟩,q)):=by
   show _=_;unfold ez ji;rw[ae f];simp only;cases K:aC (bd (m.drop 2)).1 with
   |true=>rfl
   |false=>
    simp only[ge,fO];cases T:dQ hostTell (bd (m.drop 2)).1 with
    |none=>rfl
    |some h=>rfl
  have b8:=hI (CH k sFile (m.drop 2) _ _ _ _ _ G H F _ _ i j W (by grind) g a4 z);clear f ht C M g z B J;go_enter func244,ntmps244;go_wp2_with fail;rw[<-o];refine D.out.mono ?_;rintro e w1 ⟨rfl,t⟩;obtain rfl:=t.symm;clear o;go_wp2_with fail;refine b8.out.mono ?_;rintro e s ⟨l,c,hx⟩;obtain⟨ev,rfl⟩:=CI c;have HX:Hid (∀n,ez hostTell m q r=.error n->iq k s):=by
   intro n hn;rw[A.out] at hn;cases c5:ji sFile (m.drop 2) (.string ⟨#[]⟩) with
   |error n2=>obtain⟨cs,I,f⟩:=b7;exact⟨cs,(hx n2 c5).trans I,f⟩
   |ok p=>grind
  have u:Hid (gL k sFile i j (ez hostTell m q r) (.returned ev) s):=by
   show gL _ _ _ _ _ _ _;rw[A.out];unfold ji at c⊢;cases K:aC (bd (m.drop 2)).1 with
   |true=>rw[K] at c;obtain⟨I,v,y,x⟩:=c;exact⟨I,v,y,jN x⟩
   |false=>
    rw[K] at c;simp only[ge,fO] at c⊢;cases T:dQ hostTell (bd (m.drop 2)).1 with
    |none=>rw[T] at c;exact c
    |some h=>rw[T] at c;obtain⟨I,v,y,x⟩:=c;exact⟨I,v,y,jN x⟩
  have Q:=hI (a0.out.trans l);clear c l hx;go_wp2;go_ret;exact⟨Q,u,HX⟩
 |false=>
  rw[jO,f] at D;cases r with
  |none=>have c3:S=none:=J;subst c3;have A:Hid (ez hostTell m q none=.ok (ey [],aV sFile [] m,q)):=(by show _=_;unfold ez;rw[ab (by simp[f])]);have c0:Hid (Calls prog 163 #[Pt k,.slice none 0 0,.string ⟨m.toArray⟩] W fun e w'=>e=.returned (.tuple #[])/\But k W w'/\∃v,w'.heap[k]?=some (.cells #[.string ⟨sFile.toArray⟩,.string ⟨#[]⟩,.string ⟨#[]⟩,.bool true,.string ⟨#[]⟩,Iv (-1),.bool false,.string ⟨#[]⟩,v,.bool q.isSome,.string ⟨(q.getD []).toArray⟩,i,j] 77 (0,0))/\w'.ownsRow W.heap.size 9 1 v (bO sFile [] m).length (aW (bO sFile [] m))):=km k sFile m _ _ _ _ _ G H F _ _ i j none 0 [] W hm (by simp) (by simp) g (by simp) z;clear f C M g z B J;generalize Lib.trimPrefix m [47,47]=tp at*;go_enter func244,ntmps244;go_wp2_with fail;rw[<-o];refine D.out.mono ?_;rintro e w1 ⟨rfl,t⟩;obtain rfl:=t.symm;clear o;go_wp2_with fail;refine c0.out.mono ?_;rintro e s ⟨rfl,l,v,y,x⟩;have u:Hid (gL k sFile i j (.ok (ey [],aV sFile [] m,q)) (.returned .nilIface) s):=⟨rfl,v,y,jN x⟩;have Q:=hI (a0.out.trans l);clear y x l;go_wp2;go_ret;rw[A.out];exact⟨Q,u,fun n h=>by cases h⟩
  |some b=>
   have b9:=J.but B;obtain⟨d,bv,rfl,b2,a,a9,a1,b1,b0⟩:=b9;have A:Hid (ez hostTell m q (some b)=.ok (ey b.t.h,(jj m q b).1,(jj m q b).2)):=by
    show _=_;unfold ez jj;rw[ab (by simp[f])];simp only;cases K:aC (bd (bI m)).1 with
    |true=>rfl
    |false=>grind
   have b6:=a;have k4:Ce W k 4 (.string ⟨#[]⟩):=aa g 4;have f4:=aj g 4;have g4:=aD W k 4 _ 77 (.string ⟨b.t.h.toArray⟩) g;obtain⟨V,N⟩:=am (W.setCell (Ad k 4) (.string ⟨b.t.h.toArray⟩));rw[<-N] at g4;have E:But k W V:=(by rw[N];exact(But.of_below (ai _ _)).setCell 4 _);have b5:=(E.block d (aT.1 a).1 b2).trans a;have c1:=hI (CR k m q b bv _ _ _ _ _ G H F i j V hm g4 (gp a9 E a1) a1 b1 b0 (z.but E a4));have c9:=hI (a0.out.trans E);generalize L:av b bv=AC at*;have b3:∃Y U x2 x3 O X x6 x7 x8 P Z a2 a3,AC=#[Y,U,x2,x3,O,X,x6,x7,x8,P,Z,a2,a3]:=⟨_,_,_,_,_,_,_,_,_,_,_,_,_,L.symm⟩;obtain⟨Y,U,x2,x3,O,X,x6,x7,x8,P,Z,a2,a3,rfl⟩:=b3;have y0:Ce W d 0 Y:=aa a 0;have y1:Ce W d 1 U:=aa a 1;have y2:Ce W d 2 x2:=aa a 2;have y3:Ce W d 3 x3:=aa a 3;have y4:Ce W d 4 O:=aa a 4;have y5:Ce W d 5 X:=aa a 5;have y6:Ce W d 6 x6:=aa a 6;have y7:Ce W d 7 x7:=aa a 7;have y8:Ce W d 8 x8:=aa a 8;have y9:Ce W d 9 P:=aa a 9;have d1:Ce W d 10 Z:=aa a 10;have d2:Ce W d 11 a2:=aa a 11;have d0:Ce W d 12 a3:=aa a 12;have d4:k≠d:=fun h=>b2 h.symm;have b4:(Value.string ⟨b.t.h.toArray⟩)=O:=(by simp only[av,Array.mk.injEq,og] at L;exact L.2.2.2.2.1);subst b4;clear f C M g z B J a a9 a1 b1 b0 b5 E L b6 g4;generalize Lib.trimPrefix m [47,47]=tp at*;generalize a5:(⟨b.t.h.toArray⟩:ByteArray)=d3 at*;have HH:=hI a5;clear a5;go_enter func244,ntmps244;go_wp2_with fail;rw[<-o];refine D.out.mono ?_;rintro e w1 ⟨rfl,t⟩;have t:=t.symm;subst t;clear o;go_wp2_with fail;rw[<-N];clear N;refine af c1.out ?_;rintro e s ⟨rfl,l,c⟩;have u:Hid (But k w s/\gL k sFile i j (.ok (ey b.t.h,(jj m q b).1,(jj m q b).2)) (.returned .nilIface) s):=(by refine⟨c9.out.trans l,rfl,?_⟩;rw[<-HH.out] at c;exact c);clear l c;go_wp2;go_ret;rw[A.out];exact⟨u.out.1,u.out.2,fun n h=>by cases h⟩
end Go.Proofs
namespace Go.Moor
open Go
def iS (q:Option Bs):Except Int (Auth×Way)->Except Int (Auth×Way×Option Bs)
 | .error n=>.error n
 | .ok p=>.ok (p.1,p.2,q)
end Go.Moor
namespace Go.Proofs
open Go.RowKit Go.Moor Go.Proofs.Tryz Go.Moor
theorem DF (m:Bs):Lib.trimLeftB m 47=cW m:=by rfl
theorem vI (m:Bs):(cW m).length<=m.length:=(mJ _).length_le
theorem vJ (m:Bs) (w:World):Calls prog 247 #[.string ⟨m.toArray⟩,.string ⟨#[47]⟩] w λe w'=>e=.returned (.string ⟨(cW m).toArray⟩)/\w'=w:=by have:=strings_TrimLeft_one (Bv m) 47 (by decide) w;rwa[show(Bv m).data.toList=m from rfl,DF] at this
theorem vK {k:Nat} {d:Bs} {b f:Value} {B:Nat} {q:Option Bs} {o:Except Int (Auth×Moor.Way)} {e:Ending} {w':World} (h:nl k d (.bool q.isSome) (.string ⟨(q.getD []).toArray⟩) b f B o e w'):gL k d b f (iS q o) e w':=by
 have c:=vu h;cases o with
 |error n=>exact c
 |ok p=>obtain⟨a,y⟩:=p;exact c
theorem DG (k:Nat) (a m:Bs) (q:Option Bs) (b:Adr) (I:Value) (O L K l r:Value) (w:World) (S:m.length<=100000) (d:w.heap[k]?=some (.cells #[.string ⟨a.toArray⟩,.string ⟨#[]⟩,.string ⟨#[]⟩,.bool false,.string ⟨#[]⟩,.int .i64 (-1),O,L,K,.bool q.isSome,.string ⟨(q.getD []).toArray⟩,l,r] 77 (0,0))) (b0:(O.oneCell'&&L.oneCell'&&K.oneCell'&&l.oneCell'&&r.oneCell')=true) (c2:29<=k) (f:bh w I b.w.g) (R:le k I) (a4:b.w.g.length<=1000000) (X:∀x∈b.w.g,x.length<=1000000) (U:Env2 w):Calls prog 245 #[.pointer (some ⟨k,0,none⟩),.string ⟨m.toArray⟩,.agg (av b I)] w fun e w'=>But k w w'/\gL k a l r (eA hostTell a m q b) e w'/\(∀n,eA hostTell a m q b=.error n->iq k w'):=by
 have a5:=(aT.1 d).1;have d3:Hid (iq k w):=⟨_,d,rfl,nj _ _ _ _ _ _ _ _ _ _ _ _ _ (by simp only[fx] at b0;obtain⟨⟨⟨⟨a6,a7⟩,a8⟩,d1⟩,c4⟩:=b0;rw[a6,a7,a8,d1,c4];rfl)⟩;clear b0;have c3:Hid (∀o:Obj,Bl w (w.alloc o)):=fun o=>(ai _ _).alloc .refl o;have N:=hI fun c=>strings_CutPrefix (Bv m) ⟨#[47,47]⟩ c;have a2:=hI fun c=>iw (Bv a) c;have c1:Hid (∀(t:Bs) c,t.length<=100000->Bl w c->Calls prog 246 #[Pt k,Sv t] c fun e w'=>But k w w'/\gL k a l r (iS q (cu hostTell a t)) e w'/\(∀n,iS q (cu hostTell a t)=.error n->iq k w')):=by
  intro t c T h1;refine(rk k a t _ _ _ _ _ O L K _ _ l r c T ((h1.block k a5).trans d) c2 (U.below h1)).mono ?_;rintro e w' ⟨W,g,J⟩;refine⟨(But.of_below h1).trans W,vK g,fun n hn=>?_⟩;cases b9:cu hostTell a t with
  |error n2=>obtain⟨cs,h3,h4⟩:=d3;exact⟨cs,(J n2 b9).trans ((h1.block k a5).trans h3),h4⟩
  |ok p=>rw[b9] at hn;cases hn
 have j0:Ce w k 0 (Sv a):=aa d 0;cases s:List.isPrefixOf [47,47] m with
 |true=>
  have T:Lib.trimPrefix m [47,47]=m.drop 2:=by unfold Lib.trimPrefix;rw[jO,s];rfl
  rw[T,jO,s] at N;have b5:(m.drop 2).length<=100000:=by rw[cm];omega
  generalize b2:av b I=AC at*;have d0:∃y x1 x2 Y Z x5 z u A B C D E,AC=#[y,x1,x2,Y,Z,x5,z,u,A,B,C,D,E]:=⟨_,_,_,_,_,_,_,_,_,_,_,_,_,b2.symm⟩;obtain⟨y,x1,x2,Y,Z,x5,z,u,A,B,C,D,E,rfl⟩:=d0;cases M:ao a with
  |true=>rw[M] at a2;have H:Hid (eA hostTell a m q b=iS q (cu hostTell a (cW (m.drop 2)))):=hI (by unfold eA;rw[ae s,ae M];cases cu hostTell a (cW (m.drop 2))<;>rfl);have c5:=hI fun c=>vJ (m.drop 2) c;have d2:=bu (vI _) b5;clear s T d U f R a4 X S b2 b5 M;generalize cW (m.drop 2)=tm at*;generalize m.drop 2=m2 at*;go_enter func245,ntmps245;go_wp2_with fail;refine mR (N _) fun c i=>?_;obtain rfl:=i.symm;go_wp2_with fail;refine mR (a2 _) fun c i=>?_;obtain rfl:=i.symm;go_wp2_with fail;refine mR (c5 _) fun c i=>?_;obtain rfl:=i.symm;have b4:Hid _:=c1 tm _ d2 (c3 (.cells #[y,x1,x2,Y,Z,x5,z,u,A,B,C,D,E] 77));go_wp2_with fail;refine af b4 ?_;rintro e G ⟨f,g,J⟩;obtain⟨ev,rfl⟩:=lQ g;have F:Hid _:=And.intro f (And.intro g J);clear f g J;go_wp2;go_ret;rw[H.out];exact F
  |false=>rw[M] at a2;have H:Hid (eA hostTell a m q b=iS q (cu hostTell a (m.drop 2))):=hI (by unfold eA;rw[ae s,ab (by simp[M])];cases cu hostTell a (m.drop 2)<;>rfl);clear s T d U f R a4 X S b2 M;generalize m.drop 2=m2 at*;go_enter func245,ntmps245;go_wp2_with fail;refine mR (N _) fun c i=>?_;obtain rfl:=i.symm;go_wp2_with fail;refine mR (a2 _) fun c i=>?_;obtain rfl:=i.symm;have b4:Hid _:=c1 m2 _ b5 (c3 (.cells #[y,x1,x2,Y,Z,x5,z,u,A,B,C,D,E] 77));go_wp2_with fail;refine af b4 ?_;rintro e G ⟨f,g,J⟩;obtain⟨ev,rfl⟩:=lQ g;have F:Hid _:=And.intro f (And.intro g J);clear f g J;go_wp2;go_ret;rw[H.out];exact F
 |false=>
  rw[jO,s] at N;have a0:=hI fun c=>by
   have:=strings_HasPrefix (Bv m) ⟨#[47]⟩ c;rwa[show(⟨#[47]⟩:ByteArray).data.toList=[47] from rfl,show(Bv m).data.toList=m from rfl,vj] at this
  have j1:Ce w k 1 (Sv []):=aa d 1;have j2:Ce w k 2 (Sv []):=aa d 2;have j3:Ce w k 3 (.bool false):=aa d 3;have j4:Ce w k 4 (Sv []):=aa d 4;have j5:Ce w k 5 (Iv (-1)):=aa d 5;have i1:=aj d 1;have i2:=aj d 2;have i3:=aj d 3;have i4:=aj d 4;have i5:=aj d 5;obtain⟨o,ho⟩:=am (.cells (av b I) 77:Obj);have b7:=d;have g1:=aD _ k 1 _ 77 (Sv b.t.e) b7;have g2:=aD _ k 2 _ 77 (Sv b.t.d) g1;have g3:=aD _ k 3 _ 77 (.bool b.t.has) g2;have g4:=aD _ k 4 _ 77 (Sv b.t.h) g3;have g5:=aD _ k 5 _ 77 (Iv b.t.p) g4;have c0:=(((((But.of_below (k:=k) (ai w.heap.size w)).setCell 1 (Sv b.t.e)).setCell 2 (Sv b.t.d)).setCell 3 (.bool b.t.has)).setCell 4 (Sv b.t.h)).setCell 5 (Iv b.t.p);obtain⟨V,hV⟩:=am ((((((w.setCell (Ad k 1) (Sv b.t.e)).setCell (Ad k 2) (Sv b.t.d)).setCell (Ad k 3) (.bool b.t.has)).setCell (Ad k 4) (Sv b.t.h)).setCell (Ad k 5) (Iv b.t.p)).alloc o);have a1:But k w V:=by rw[hV];exact c0.alloc o
  have b1:V.heap[k]?=some (.cells #[Sv a,Sv b.t.e,Sv b.t.d,.bool b.t.has,Sv b.t.h,Iv b.t.p,O,L,K,.bool q.isSome,Sv (q.getD []),l,r] 77 (0,0)):=by rw[hV,nk _ _ k (by simpa using a5)];exact g5
  have b3:=U.but a1 c2;have b8:=hI a1;have c9:Hid (Calls prog 163 #[Pt k,.slice none 0 0,Sv m] V fun e w'=>e=.returned (.tuple #[])/\But k w w'/\lR k a (Sv b.t.e) (Sv b.t.d) (.bool b.t.has) (Sv b.t.h) (Iv b.t.p) l r (aV a [] m,q) w'):=by refine mR (km k a m _ _ _ _ _ O L K _ _ l r none 0 [] V S (by simp) (by simp) b1 (by simp) b3) ?_;rintro w' ⟨W,v,s,h3⟩;exact⟨rfl,b8.out.trans W,v,s,jN h3⟩
  have b6:Hid (Calls prog 280 #[Pt k,Sv m,.agg (av b I)] V fun e w'=>e=.returned (.tuple #[])/\But k w w'/\lR k a (Sv b.t.e) (Sv b.t.d) (.bool b.t.has) (Sv b.t.h) (Iv b.t.p) l r (dc a m q b) w'):=by refine mR (vl k a m q b I _ _ _ _ _ O L K l r V S b1 (gp f a1 R) R a4 X b3) ?_;rintro w' ⟨W,hv⟩;exact⟨rfl,b8.out.trans W,hv⟩
  have H:Hid (eA hostTell a m q b=if m.head? =some 47 then .ok (b.t,aV a [] m,q) else .ok (b.t,(dc a m q b).1,(dc a m q b).2)):=by show _=_;unfold eA;rw[ab (by simp[s])]
  have HY:Hid (∀p G,But k w G/\lR k a (Sv b.t.e) (Sv b.t.d) (.bool b.t.has) (Sv b.t.h) (Iv b.t.p) l r p G->But k w G/\gL k a l r (.ok (b.t,p.1,p.2)) (.returned .nilIface) G):=fun p G h=>⟨h.1,rfl,h.2⟩;have a3:∃y z u A B C D E,av b I=#[y,Sv b.t.e,Sv b.t.d,.bool b.t.has,Sv b.t.h,Iv b.t.p,z,u,A,B,C,D,E]:=⟨_,_,_,_,_,_,_,_,rfl⟩;obtain⟨y,z,u,A,B,C,D,E,a3⟩:=a3;rw[a3] at ho b6⊢;subst ho;clear g1 g2 g3 g4 g5 c0 d b7 b1 b3 a1 U f R a4 X S a3 s;have Q:=hI hV;clear hV;generalize Lib.trimPrefix m [47,47]=tp at*;by_cases P:m.head? =some 47
  .have a9:Hid (eA hostTell a m q b=.ok (b.t,aV a [] m,q)):=hI (by rw[H.out,ae P])
   rw[dC P] at a0;clear H P;go_enter func245,ntmps245;go_wp2_with fail;refine mR (N _) fun c i=>?_;obtain rfl:=i.symm;go_wp2_with fail;rw[<-Q.out];refine mR (a0 _) fun c i=>?_;obtain rfl:=i.symm;clear Q;go_wp2_with fail;refine mR c9 ?_;rintro G ⟨f,g⟩;have F:Hid _:=HY _ _ (And.intro f g);clear f g;go_wp2;go_ret;rw[a9.out];exact⟨F.out.1,F.out.2,fun n h=>by cases h⟩
  .have a9:Hid (eA hostTell a m q b=.ok (b.t,(dc a m q b).1,(dc a m q b).2)):=hI (by rw[H.out,ab P])
   rw[ee P] at a0;clear H P;have j:V.heap[w.heap.size]?=some (.cells #[y,Sv b.t.e,Sv b.t.d,.bool b.t.has,Sv b.t.h,Iv b.t.p,z,u,A,B,C,D,E] 77 (0,0)):=by have:=cj (((((w.setCell (Ad k 1) (Sv b.t.e)).setCell (Ad k 2) (Sv b.t.d)).setCell (Ad k 3) (.bool b.t.has)).setCell (Ad k 4) (Sv b.t.h)).setCell (Ad k 5) (Iv b.t.p)) #[y,Sv b.t.e,Sv b.t.d,.bool b.t.has,Sv b.t.h,Iv b.t.p,z,u,A,B,C,D,E] 77;rw[<-Q.out] at this;simpa using this
   have y0:Ce V w.heap.size 0 y:=aa j 0;have y1:Ce V w.heap.size 1 (Sv b.t.e):=aa j 1;have y2:Ce V w.heap.size 2 (Sv b.t.d):=aa j 2;have y3:Ce V w.heap.size 3 (.bool b.t.has):=aa j 3;have y4:Ce V w.heap.size 4 (Sv b.t.h):=aa j 4;have y5:Ce V w.heap.size 5 (Iv b.t.p):=aa j 5;have y6:Ce V w.heap.size 6 z:=aa j 6;have y7:Ce V w.heap.size 7 u:=aa j 7;have y8:Ce V w.heap.size 8 A:=aa j 8;have y9:Ce V w.heap.size 9 B:=aa j 9;have d4:Ce V w.heap.size 10 C:=aa j 10;have d5:Ce V w.heap.size 11 D:=aa j 11;have d6:Ce V w.heap.size 12 E:=aa j 12;clear j;go_enter func245,ntmps245;go_wp2_with fail;refine mR (N _) fun c i=>?_;obtain rfl:=i.symm;go_wp2_with fail;rw[<-Q.out];refine m0 (a0 _) ?_;clear Q;go_wp2_with fail;refine mR b6 ?_;rintro G ⟨f,g⟩;have F:Hid _:=HY _ _ (And.intro f g);clear f g;go_wp2;go_ret;rw[a9.out];exact⟨F.out.1,F.out.2,fun n h=>by cases h⟩
theorem cD:(prog.info? 77).map (·.size)=some 13:=by kernel_rfl
theorem iP (b:Adr) (v:Value) (h:v.oneCell'=true):(av b v).all (·.oneCell')=true:=by unfold av;exact nj _ _ _ _ _ _ _ _ _ _ _ _ _ (by rw[h];rfl)
theorem Df (k:Nat) (c m:Bs) (q:Option Bs) (v:Option Adr) (L:Option Go.Addr) (D C G j l:Value) (w:World) (o:m.length<=100000) (g:w.heap[k]?=some (.cells #[.string ⟨c.toArray⟩,.string ⟨#[]⟩,.string ⟨#[]⟩,.bool false,.string ⟨#[]⟩,.int .i64 (-1),D,C,G,.bool q.isSome,.string ⟨(q.getD []).toArray⟩,j,l] 77 (0,0))) (i:(D.oneCell'&&C.oneCell'&&G.oneCell'&&j.oneCell'&&l.oneCell')=true) (J:29<=k) (E:BaseOk w k L v) (r:Env2 w):Calls prog 208 #[.pointer (some ⟨k,0,none⟩),.string ⟨m.toArray⟩,.pointer L] w fun e w'=>But k w w'/\gL k c j l (dS hostTell c m q v) e w'/\(∀n,dS hostTell c m q v=.error n->iq k w'):=by
 have b7:k<w.heap.size:=(aT.1 g).1;have O:w.cell? ⟨k,0,none⟩=some (.string ⟨c.toArray⟩):=aa g 0;by_cases u:c=sFile
 .subst u
  have z:Hid (dS hostTell sFile m q v=ez hostTell m q v):=hI (by unfold dS;rw[ae rfl]);have Y:=hI (CJ k m q v L D C G j l w o g i J E r);clear g i E r o;go_enter func208,ntmps208;go_wp2_with fail;refine Y.out.mono ?_;rintro e w2 ⟨h,d,f⟩;obtain⟨V,rfl⟩:=lQ d;have A:Hid _:=And.intro h (And.intro d f);clear h d f;go_wp2;go_ret;rw[z.out];exact A
 .have K:=dV c _ u
  have x:Hid (∀B,Calls Tryz.prog 126 #[.string ⟨c.toArray⟩] B fun e w'=>e=.returned (.bool (ao c))/\w'=B):=fun B=>iw ⟨c.toArray⟩ B;unfold sFile at K;cases v with
  |some b=>have z:Hid (dS hostTell c m q (some b)=eA hostTell c m q b):=hI (by unfold dS;rw[ab u]);obtain⟨kb,M,rfl,b8,a3,a2,a4,a5,a1⟩:=E;have b4:=hI (DG k c m q b M D C G j l w o g i J a2 a4 a5 a1 r);have b0:=hI a3;have b2:Hid ((prog.info? 77).map (·.size)=some (av b M).size):=cD;generalize av b M=AC at*;obtain⟨s,t⟩:∃s:ByteArray,s=⟨c.toArray⟩:=⟨_,rfl⟩;rw[<-t] at K O x;clear g i r o a3 a2 a4 a5 a1 u t;go_enter func208,ntmps208;go_wp2_with(refine cb rfl 77 _ rfl kb rfl 77 AC (0,0) _ b0 underlying77 rfl b2 ?_);refine af b4 ?_;rintro e w2 ⟨h,d,f⟩;obtain⟨V,rfl⟩:=lQ d;have A:Hid _:=And.intro h (And.intro d f);clear h d f;go_wp2;go_ret;rw[z.out];exact A
  |none=>
   have b3:L=none:=E;subst b3;cases F:ao c with
   |true=>
    rw[F] at x;have z:Hid (dS hostTell c m q none=iS q (cu hostTell c (cW m))):=by show _=_;unfold dS;rw[ab u];simp only[F,eV];cases cu hostTell c (cW m)<;>rfl
    have b1:=hI fun B=>vJ m B;have a0:Hid (iq k w):=⟨_,g,rfl,nj _ _ _ _ _ _ _ _ _ _ _ _ _ (by simp only[fx] at i;obtain⟨⟨⟨⟨T,U⟩,N⟩,Q⟩,P⟩:=i;rw[T,U,N,Q,P];rfl)⟩;have Y:Hid (Calls prog 246 #[Pt k,Sv (cW m)] w fun e w'=>But k w w'/\gL k c j l (iS q (cu hostTell c (cW m))) e w'/\(∀n,iS q (cu hostTell c (cW m))=.error n->iq k w')):=by
     refine(rk k c (cW m) _ _ _ _ _ D C G _ _ j l w (bu (vI m) o) g J r).mono ?_;rintro e w' ⟨Z,d,f⟩;refine⟨Z,vK d,fun n I=>?_⟩;cases H:cu hostTell c (cW m) with
     |error W=>obtain⟨R,S,X⟩:=a0;exact⟨R,(f W H).trans S,X⟩
     |ok p=>rw[H] at I;cases I
    obtain⟨s,t⟩:∃s:ByteArray,s=⟨c.toArray⟩:=⟨_,rfl⟩;rw[<-t] at K O x;generalize cW m=tm at*;clear g i r o u t F E;go_enter func208,ntmps208;go_wp2_with fail;refine mR (x _) fun B b5=>?_;obtain rfl:=b5.symm;go_wp2_with fail;refine m0 (b1 _) ?_;go_wp2_with fail;refine af Y ?_;rintro e w2 ⟨h,d,f⟩;obtain⟨V,rfl⟩:=lQ d;have A:Hid _:=And.intro h (And.intro d f);clear h d f;go_wp2;go_ret;rw[z.out];exact A
   |false=>
    rw[F] at x;have z:Hid (dS hostTell c m q none=iS q (dR hostTell c m)):=by show _=_;unfold dS;rw[ab u];simp only[F,ge,fO];cases dR hostTell c m<;>rfl
    have a0:Hid (iq k w):=⟨_,g,rfl,nj _ _ _ _ _ _ _ _ _ _ _ _ _ (by simp only[fx] at i;obtain⟨⟨⟨⟨T,U⟩,N⟩,Q⟩,P⟩:=i;rw[T,U,N,Q,P];rfl)⟩;have b6:Hid (Calls prog 248 #[Pt k,Sv m] w fun e w'=>But k w w'/\gL k c j l (iS q (dR hostTell c m)) e w'/\(∀n,iS q (dR hostTell c m)=.error n->iq k w')):=by
     refine(Dn k c m D C G _ _ j l w o g J r).mono ?_;rintro e w' ⟨Z,d,f⟩;refine⟨Z,?_,fun n I=>?_⟩
     .cases a9:dR hostTell c m with
      |error n=>rw[a9] at d;exact d
      |ok p=>rw[a9] at d;obtain⟨a,y⟩:=p;exact d
     .cases H:dR hostTell c m with
      |error W=>obtain⟨R,S,X⟩:=a0.out;exact⟨R,(f W H).trans S,X⟩
      |ok p=>rw[H] at I;cases I
    obtain⟨s,t⟩:∃s:ByteArray,s=⟨c.toArray⟩:=⟨_,rfl⟩;rw[<-t] at K O x;clear g i r o u t F E;go_enter func208,ntmps208;go_wp2_with fail;refine m0 (x _) ?_;go_wp2_with fail;refine af b6 ?_;rintro e w2 ⟨h,d,f⟩;obtain⟨V,rfl⟩:=lQ d;have A:Hid _:=And.intro h (And.intro d f);clear h d f;go_wp2;go_ret;rw[z.out];exact A
def ag:Array Value:=#[.string ⟨#[]⟩,.string ⟨#[]⟩,.string ⟨#[]⟩,.bool false,.string ⟨#[]⟩,.int .i64 0,.bool false,.string ⟨#[]⟩,.slice none 0 0,.bool false,.string ⟨#[]⟩,.bool false,.string ⟨#[]⟩]
def eN (o:Except Int Adr) (e:Ending) (w':World):Prop:=
 match o with
 | .error n=>∃(cs:Array Value) (x y:ByteArray) (te:TypeId) (ve:Value),e=.returned (.tuple #[.agg cs,.iface 96 (.agg #[.int .i64 n,.string x,.string y,.iface te ve])])/\cs.size=13/\cs.all (·.oneCell')=true
 | .ok a=>∃v,e=.returned (.tuple #[.agg (av a v),.nilIface])/\bh w' v a.w.g
def oN (sc:Bs) (q f:Option Bs):Array Value:=#[.string ⟨sc.toArray⟩,.string ⟨#[]⟩,.string ⟨#[]⟩,.bool false,.string ⟨#[]⟩,.int .i64 (-1),.bool false,.string ⟨#[]⟩,.slice none 0 0,.bool q.isSome,.string ⟨(q.getD []).toArray⟩,.bool f.isSome,.string ⟨(f.getD []).toArray⟩]
theorem nn {w:World} {g:Nat} {t:TypeId} (h:w.heap[g]?=some (.cells ag t (0,0))):(Ce w g 0 (.string ⟨#[]⟩)/\Ce w g 1 (.string ⟨#[]⟩)/\Ce w g 2 (.string ⟨#[]⟩)/\Ce w g 3 (.bool false)/\Ce w g 4 (.string ⟨#[]⟩)/\Ce w g 5 (.int .i64 0)/\Ce w g 6 (.bool false)/\Ce w g 7 (.string ⟨#[]⟩)/\Ce w g 8 (.slice none 0 0)/\Ce w g 9 (.bool false)/\Ce w g 10 (.string ⟨#[]⟩)/\Ce w g 11 (.bool false)/\Ce w g 12 (.string ⟨#[]⟩))/\w.frozen? ⟨g,0,none⟩=false/\w.frozen? ⟨g,1,none⟩=false/\w.frozen? ⟨g,2,none⟩=false/\w.frozen? ⟨g,3,none⟩=false/\w.frozen? ⟨g,4,none⟩=false/\w.frozen? ⟨g,5,none⟩=false/\w.frozen? ⟨g,6,none⟩=false/\w.frozen? ⟨g,7,none⟩=false/\w.frozen? ⟨g,8,none⟩=false/\w.frozen? ⟨g,9,none⟩=false/\w.frozen? ⟨g,10,none⟩=false/\w.frozen? ⟨g,11,none⟩=false/\w.frozen? ⟨g,12,none⟩=false:=
 ⟨⟨aa h 0,aa h 1,aa h 2,aa h 3,aa h 4,aa h 5,aa h 6,aa h 7,aa h 8,aa h 9,aa h 10,aa h 11,aa h 12⟩,aj h 0,aj h 1,aj h 2,aj h 3,aj h 4,aj h 5,aj h 6,aj h 7,aj h 8,aj h 9,aj h 10,aj h 11,aj h 12⟩
abbrev vm (w:World) (g:Nat) (a0 a1 a2 a3 a4 a5 a6 a7 a8 a9 a10 a11 a12:Value):World:=(((((((((((((w.setCell ⟨g,0,none⟩ a0).setCell ⟨g,1,none⟩ a1).setCell ⟨g,2,none⟩ a2).setCell ⟨g,3,none⟩ a3).setCell ⟨g,4,none⟩ a4).setCell ⟨g,5,none⟩ a5).setCell ⟨g,6,none⟩ a6).setCell ⟨g,7,none⟩ a7).setCell ⟨g,8,none⟩ a8).setCell ⟨g,9,none⟩ a9).setCell ⟨g,10,none⟩ a10).setCell ⟨g,11,none⟩ a11).setCell ⟨g,12,none⟩ a12)
theorem lS {w:World} {g:Nat} {t:TypeId} (h:w.heap[g]?=some (.cells ag t (0,0))) (i e o m k n a b f c d l j:Value):(vm w g i e o m k n a b f c d l j).heap[g]?=some (.cells #[i,e,o,m,k,n,a,b,f,c,d,l,j] t (0,0)):=by unfold ag at h;have h:=aD _ g 0 _ t i h;have h:=aD _ g 1 _ t e h;have h:=aD _ g 2 _ t o h;have h:=aD _ g 3 _ t m h;have h:=aD _ g 4 _ t k h;have h:=aD _ g 5 _ t n h;have h:=aD _ g 6 _ t a h;have h:=aD _ g 7 _ t b h;have h:=aD _ g 8 _ t f h;have h:=aD _ g 9 _ t c h;have h:=aD _ g 10 _ t d h;have h:=aD _ g 11 _ t l h;have h:=aD _ g 12 _ t j h;simpa using h
theorem setRow_other (w:World) (g:Nat) (a:Array Value) (j:Nat) (h:j≠g):(w.setRow g a).heap[j]?=w.heap[j]?:=by simp_all[World.setRow,Array.getElem?_modify,Ne.symm]
theorem np {w:World} {W:World} {g:Nat} (h:Bl W w) (a:W.heap.size<=g) (j f p n l o b c i d e m k:Value):Bl W (vm w g j f p n l o b c i d e m k):=
 ((((((((((((h.setCell a j).setCell a f).setCell a p).setCell a n).setCell a l).setCell a o).setCell a b).setCell a c).setCell a i).setCell a d).setCell a e).setCell a m).setCell a k
theorem vn (c:Cuts) (i:Option Adr) (T:Option Go.Addr) (w:World) (O:c.i.length<=100000) (Z:(c.q.getD []).length<=100000) (hf:(c.f.getD []).length<=100000) (b7:∀k,w.heap.size<=k->BaseOk w k T i) (a4:Env2 w):Calls prog 157 #[.agg (bx c),.pointer T] w fun e w'=>eN (eB hostTell c.s c.i c.q c.f i) e w'/\Bl w w':=by
 obtain⟨b,m,q,f⟩:=c;simp only at O Z hf;unfold bx;simp only;obtain⟨W,G⟩:=am ((w.alloc (.cells #[Sv b,Sv m,.bool q.isSome,Sv (q.getD []),.bool f.isSome,Sv (f.getD [])] 137)).alloc (.cells ag 77));have a2:Hid (Bl w W):=by rw[G];exact((ai _ _).alloc .refl _).alloc (by simp) _
 have b8:W.heap.size=w.heap.size+2:=by rw[G];simp
 have r:=hI b8;have HV:=hI (a4.below a2);have c9:=hI fun d=>vL (Bv b) d;have HT:Hid (∀(o:Option Bs) (set:Int) w0,(o.getD []).length<=100000->Bl W w0->Calls prog 103 #[.agg #[.bool o.isSome,Sv (o.getD [])],Iv set] w0 fun e w'=>e=.returned (.agg #[.bool (o.map (ah set)).isSome,Sv ((o.map (ah set)).getD [])])/\Bl W w'/\Bl w0 w'):=by intro o set w0 ho h0;refine mR (ro o set w0 (by omega) (HV.out.below h0).env) fun w' H=>?_;exact⟨rfl,h0.trans (H.mono h0.size),H⟩
 have K:Hid (∀d,Bl W d->Ce d w.heap.size 0 (Sv b)/\Ce d w.heap.size 1 (Sv m)/\Ce d w.heap.size 2 (.bool q.isSome)/\Ce d w.heap.size 3 (Sv (q.getD []))/\Ce d w.heap.size 4 (.bool f.isSome)/\Ce d w.heap.size 5 (Sv (f.getD []))/\d.heap[w.heap.size+1]?=some (.cells ag 77 (0,0))):=by intro d l;have h2:=lX w (.cells #[Sv b,Sv m,.bool q.isSome,Sv (q.getD []),.bool f.isSome,Sv (f.getD [])] 137) (.cells ag 77);rw[<-G] at h2;have A:=(l.block w.heap.size (by omega)).trans h2.1;have k1:=(l.block (w.heap.size+1) (by omega)).trans h2.2;exact⟨aa A 0,aa A 1,aa A 2,aa A 3,aa A 4,aa A 5,k1⟩
 have e4:=hI a4.env.size;have d6:Hid (∀d,Bl W d->Calls prog 164 #[Sv b,Sv m] d fun e w'=>e=.returned (Sv (aq b m))/\Bl W w'/\Bl d w'):=by intro d l;refine mR (vp (Bv b) (Bv m) d (by rw[al];omega) (HV.out.below l).env) fun w' H=>?_;exact⟨rfl,l.trans (H.mono l.size),H⟩
 have b0:(aq b m).length<=100000:=by
  unfold aq;split
  .simpa using O
  .exact O
 have c4:Hid (∀k d,w.heap.size+2<=k->Bl W d->d.heap[k]?=some (.cells (oN b (q.map (ah (bE b))) (f.map (ah 1))) 77 (0,0))->Calls prog 208 #[Pt k,Sv (aq b m),.pointer T] d fun e w'=>Bl W w'/\gL k b (.bool (f.map (ah 1)).isSome) (Sv ((f.map (ah 1)).getD [])) (dS hostTell b (aq b m) (q.map (ah (bE b))) i) e w'/\(∀n,dS hostTell b (aq b m) (q.map (ah (bE b))) i=.error n->iq k w')):=by intro k d hk l hh;have c0:=a2.out.trans (l.mono (by omega));refine(Df k b (aq b m) (q.map (ah (bE b))) i T _ _ _ _ _ d b0 hh rfl (by have:=e4.out;omega) ((b7 k (by omega)).below c0) (HV.out.below l)).mono ?_;rintro e w' ⟨e3,E,F⟩;exact⟨l.trans ((e3.below (jF (aT.1 hh).1)).mono (by omega)),E,F⟩
 have Q:Hid (eB hostTell b m q f i=match dS hostTell b (aq b m) (q.map (ah (bE b))) i with| .error n=>.error n| .ok p=>.ok ⟨b,p.1,p.2.1,p.2.2,f.map (ah 1)⟩):=by show _=_;unfold eB;cases dS hostTell b (aq b m) (q.map (ah (bE b))) i<;>rfl
 have L:Hid (oN b (q.map (ah (bE b))) (f.map (ah 1))=#[Sv b,Sv [],Sv [],.bool false,Sv [],Iv (-1),.bool false,Sv [],.slice none 0 0,.bool q.isSome,Sv ((q.map (ah (bE b))).getD []),.bool f.isSome,Sv ((f.map (ah 1)).getD [])]):=by show _=_;unfold oN;rw[Bu,Bu]
 have e7:=hI Z;have e6:=hI hf;clear a4 b7 O Z hf b0 b8;go_enter func157,ntmps157;go_upto_region 1 with fail;unfold ag at G;rw[<-G];obtain⟨d0,d1,d2,d3,d4,d5,_⟩:=K.out W (ai _ _);have m1:W.heap.size≠w.heap.size:=by have:=r.out;omega
 have m2:w.heap.size≠W.heap.size:=by have:=r.out;omega
 clear G;go_cut [6] (fun s6 wx=>∃k,s6=Pt k/\w.heap.size+2<=k/\Bl W wx/\wx.heap[k]?=some (.cells (oN b (q.map (ah (bE b))) (f.map (ah 1))) 77 (0,0)))
 case first=>
  go_region_held3 (fun w'=>w'.cell? ⟨w.heap.size,0,none⟩=some (.string ⟨b.toArray⟩)/\w'.cell? ⟨w.heap.size,2,none⟩=some (.bool q.isSome)/\w'.cell? ⟨w.heap.size,3,none⟩=some (.string ⟨(q.getD []).toArray⟩)/\w'.cell? ⟨w.heap.size,4,none⟩=some (.bool f.isSome)/\w'.cell? ⟨w.heap.size,5,none⟩=some (.string ⟨(f.getD []).toArray⟩)) (go_keep) (first|(go_at_call 104;refine af (c9.out _) ?_;rintro e d ⟨rfl,a0⟩;have a0:=a0.symm;subst a0)|(go_at_call_of 103 (Value.int .i64 (bE b));refine af (HT.out q (bE b) _ e7.out (by first|exact du rfl rfl rfl rfl|exact((ai _ W).alloc (aG _) _).drew)) ?_;rintro e d ⟨rfl,u,M⟩;obtain⟨y0,y1,y2,y3,y4,y5,y6⟩:=K.out d u;have J:Hid (Below W.heap.size W d):=u;have n1:d.heap.size≠w.heap.size:=(by have:=r.out;have:=u.size;omega);have n2:w.heap.size≠d.heap.size:=(by have:=r.out;have:=u.size;omega);(try(have a9:d.heap[W.heap.size]?=some (.cells ag 77 (0,0)):=(M.block W.heap.size (by simp)).trans (cj W _ _);have a8:Hid (d.heap[W.heap.size]?=some (.cells ag 77 (0,0))):=a9;clear a9));clear u M y6)|(go_at_call 103;refine af (HT.out f 1 _ e6.out (by first|exact J.out|exact J.out.alloc J.out.size _)) ?_;rintro e h ⟨rfl,t,c2⟩;obtain⟨z0,z1,z2,z3,z4,z5,z6⟩:=K.out h t;have C:Hid (Below W.heap.size W h):=t;(first|(have z:h.heap[d.heap.size]?=some (.cells ag 77 (0,0)):=(c2.block d.heap.size (by simp)).trans (cj d _ _);have e2:Hid (h.heap[d.heap.size]?=some (.cells ag 77 (0,0))):=z;obtain⟨⟨p0,p1,p2,p3,p4,p5,p6,p7,p8,p9,e0,c5,e9⟩,r0,r1,r2,r3,r4,r5,r6,r7,r8,r9,c6,d8,b9⟩:=nn z;clear z)|(have z:h.heap[W.heap.size]?=some (.cells ag 77 (0,0)):=(c2.block W.heap.size (aT.1 a8.out).1).trans a8.out;have a7:Hid (h.heap[W.heap.size]?=some (.cells ag 77 (0,0))):=z;obtain⟨⟨p0,p1,p2,p3,p4,p5,p6,p7,p8,p9,e0,c5,e9⟩,r0,r1,r2,r3,r4,r5,r6,r7,r8,r9,c6,d8,b9⟩:=nn z;clear z)|skip);clear t c2 z6))
  all_goals(go_wp2_with fail;go_meet)
  case rel=>exact⟨h.heap.size,rfl,by have:=C.out.size;have:=r.out;omega,C.out.alloc C.out.size _,by rw[L.out];exact cj h _ _⟩
  case rel=>exact⟨d.heap.size,rfl,by have:=J.out.size;have:=r.out;omega,np C.out J.out.size _ _ _ _ _ _ _ _ _ _ _ _ _,by rw[L.out];exact lS e2.out _ _ _ _ _ _ _ _ _ _ _ _ _⟩
  case rel=>exact⟨W.heap.size,rfl,by have:=r.out;omega,np C.out (aG _) _ _ _ _ _ _ _ _ _ _ _ _ _,by rw[L.out];exact lS a7.out _ _ _ _ _ _ _ _ _ _ _ _ _⟩
  case rel=>exact⟨W.heap.size,rfl,by have:=r.out;omega,np C.out (aG _) _ _ _ _ _ _ _ _ _ _ _ _ _,by rw[L.out];exact lS a7.out _ _ _ _ _ _ _ _ _ _ _ _ _⟩
 case rest=>
  obtain⟨k,rfl,c8,a3,a1⟩:=hcut;have e5:=hI a3;have d9:=hI a1;obtain⟨y0,y1,y2,y3,y4,y5,y6⟩:=K wc a3;have e1:=hI ((aT.1 a1).1);clear a3 a1 y6 d0 d1 d2 d3 d4 d5 L;go_wp2_with fail;refine mR (d6 wc e5) ?_;rintro d ⟨u,M⟩;have a5:Hid _:=c4 k d c8 u ((M.block k e1).trans d9);clear u M y0 y1 y2 y3 y4 y5;go_wp2_with fail;refine af a5 ?_;rintro e h ⟨t,E,F⟩;have hz:=(K h t).2.2.2.2.2.2;have R:=hI hz;have b3:Hid (Below w.heap.size w h):=a2.out.trans (t.mono (by have:=r.out;omega));cases B:dS hostTell b (aq b m) (q.map (ah (bE b))) i with
  |error n=>
   rw[B] at E F;have Y:Hid (eB hostTell b m q f i=.error n):=hI (by rw[Q.out,B]);obtain⟨x,y,te,ve,rfl⟩:=E;obtain⟨g,b5,S,b6⟩:=F n rfl;have V:=hI b5;have s:Hid ((prog.info? 77).map (·.size)=some g.size):=hI (by rw[S];exact cD);have N:Hid (ag.size=g.size):=hI (by rw[S];rfl);have I:=hI b6;have e8:=hI S;clear b5 S b6 F hz t B a5 Q;go_wp2_with(first|refine cb rfl 77 _ rfl k rfl 77 g (0,0) _ V underlying77 rfl s ?_|refine aY rfl 77 _ _ rfl (w.heap.size+1) g rfl rfl 77 ag R s N I ?_);(try simp only[Exit.inBlock,Exit.then]);have X:=bQ (P:=prog) (h.setRow (w.heap.size+1) g) (w.heap.size+1) 77 77 g (0,0) _ (bH h (w.heap.size+1) ag g 77 (0,0) R) underlying77 rfl s;refine aO (v:=.tuple #[.agg g,.iface 96 (.agg #[Iv n,.string x,.string y,.iface te ve])]) ?_ rfl ⟨?_,aZ b3 (iI _) _⟩
   .rw[bR rfl]
    simp[asAddr,Result.andThen,X]
   .rw[Y.out]
    exact⟨_,_,_,_,_,rfl,e8,I⟩
  |ok p=>
   obtain⟨a,y,D⟩:=p;rw[B] at E;have Y:Hid (eB hostTell b m q f i=.ok ⟨b,a,y,D,f.map (ah 1)⟩):=hI (by rw[Q.out,B]);obtain⟨rfl,v,hv,U⟩:=E;have b4:v.oneCell'=true:=(by obtain⟨⟨sp,f1,rfl,_⟩,_⟩:=U;rfl);have V:Hid (h.heap[k]?=some (.cells (av ⟨b,a,y,D,f.map (ah 1)⟩ v) 77 (0,0))):=hv;have I:Hid ((av ⟨b,a,y,D,f.map (ah 1)⟩ v).all (·.oneCell')=true):=iP _ _ b4;have s:Hid ((prog.info? 77).map (·.size)=some (av ⟨b,a,y,D,f.map (ah 1)⟩ v).size):=cD;have N:Hid (ag.size=(av ⟨b,a,y,D,f.map (ah 1)⟩ v).size):=rfl;have f0:Hid (∀g,bh (h.setRow (w.heap.size+1) g) v y.g):=by intro g;have c3:=iO U.2 hz (by decide);have d7:But (w.heap.size+1) h (h.setRow (w.heap.size+1) g):=⟨rfl,rfl,rfl,by simp,fun j _ hn=>setRow_other h (w.heap.size+1) g j hn⟩;exact gp U d7 c3
   clear F hz t B a5 Q hv U b4;obtain⟨g,a6⟩:=am (av ⟨b,a,y,D,f.map (ah 1)⟩ v);rw[<-a6] at V I s N;have c7:=hI a6;clear a6;go_wp2_with(first|refine cb rfl 77 _ rfl k rfl 77 g (0,0) _ V underlying77 rfl s ?_|refine aY rfl 77 _ _ rfl (w.heap.size+1) g rfl rfl 77 ag R s N I ?_);(try simp only[Exit.inBlock,Exit.then]);have X:=bQ (P:=prog) (h.setRow (w.heap.size+1) g) (w.heap.size+1) 77 77 g (0,0) _ (bH h (w.heap.size+1) ag g 77 (0,0) R) underlying77 rfl s;refine aO (v:=.tuple #[.agg g,.nilIface]) ?_ rfl ⟨?_,aZ b3 (iI _) _⟩
   .rw[bR rfl]
    simp[asAddr,Result.andThen,X]
   .rw[Y.out]
    exact⟨v,by rw[c7.out],f0 g⟩
end Go.Proofs
