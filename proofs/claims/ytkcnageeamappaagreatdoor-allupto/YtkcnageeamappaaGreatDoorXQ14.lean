import Derived.Test.YtkcnageeamappaaGreatDoorXQ13
set_option maxHeartbeats 32000000
set_option maxRecDepth 8000
set_option linter.unusedSimpArgs false
namespace Go.Proofs
open Go.RowKit Go.Moor Go.Proofs.Tryz Go.Moor
theorem yc {α:Type} (a:List α) (h:a≠[]) (d:α):a[a.length- 1]?=some (a.getLastD d):=by grind[List.getLast?_eq_none_iff]
theorem IM (s:ByteArray) (w:World) (hs:s.size<=2000) (d0:Lib.hasPrefix s.data.toList [91]=false):Calls prog 67 #[.string s,.bool true] w fun e w'=>fe (fU (aQ s.data.toList)) e/\Bl w w':=by
 have b8:=hI (sq s w (by omega));have e3:=hI fun c o=>xZ c o;have b6:(aQ s.data.toList).length<=2000:=by have:=mn s.data.toList.length s.data.toList .refl;rw[bT] at this;exact bu this hs
 have e2:=ya s d0;clear d0;generalize aQ s.data.toList=u at*;obtain⟨f,a4⟩:∃f:ByteArray,f=⟨u.toArray⟩:=⟨_,rfl⟩;rw[<-a4] at b8;have i0:f.size<=2000:=by rw[a4,al];exact b6
 have c4:Hid (f.data.toList=u):=hI (by rw[a4]);clear a4;obtain⟨L,hL⟩:=am (Lib.toLowerA u);have c3:L.length<=2000:=by rw[hL,lower_len];exact b6
 obtain⟨y,N⟩:∃y:ByteArray,y=⟨L.toArray⟩:=⟨_,rfl⟩;have d3:Hid (∀o,Calls Tryz.prog 118 #[.string f] o fun e w'=>e=.returned (.string y)/\Below o.heap.size o w'):=by intro o;have:=sr f o (by omega);rw[c4.out,<-hL,<-N] at this;exact this
 have h8:y.size<=2000:=by rw[N,al];exact c3
 have f5:Hid (y.data.toList=L):=hI (by rw[N]);have d9:Hid (∀o,Calls prog 78 #[.string y,.int .u8 46] o fun e w'=>(∃v,e=.returned v/\w'.ownsRow o.heap.size 9 1 v (ar 46 L).length (aW (ar 46 L)))/\Bl o w'):=by intro o;have:=ss y 46 o (by omega);rwa[f5.out] at this
 have c2:Hid (y.toList.isEmpty=L.isEmpty):=hI (by rw[N,cG]);have g9:=hI N;have b7:=hI hL;have a9:=hI c3;clear hL N b6 c3;suffices f0:∀B:Option Bs,Hid (B=fU u)->Calls prog 67 #[.string s,.bool true] w fun e w'=>fe B e/\Bl w w' from f0 _ rfl
 intro B b0;obtain⟨br,c8⟩:=am (false:Bool);go_enter func67,ntmps67;go_upto_region 1 with fail;go_cut [22] from 15 to 22 (fun b U=>b=.bool br/\U=w)
 case first=>
  rcases e2 with h0|⟨h0,A,H⟩;all_goals
   go_wp2;go_meet;exact⟨by rw[c8],rfl⟩
 case rest=>
 obtain⟨rfl,E⟩:=hcut;obtain rfl:=E.symm;subst c8;clear e2;go_wp2_with fail;refine mR b8 fun V O=>?_;have HB:=hI O;have f2:=O.size;clear O b8;go_wp2_with fail;go_loopw [11] (fun i wr=>∃k:Nat,k<=f.size/\i=Iv (k:Nat)/\(∀(j:Nat) (l:j<f.size),j<k->dp f[j]=false)/\wr=V) (fun i _=>f.size-(intOf i).toNat)
 case atStart=>exact⟨0,aR _,rfl,fun j l h=>by omega,rfl⟩
 case round=>
  obtain⟨k,hk,rfl,d6,g6⟩:=hrel;obtain rfl:=g6.symm;have a6:=hI d6;clear d6;by_cases f7:k<f.size
  .have HF:Hid _:=e3 f[k] V
   cases K:dp f[k] with
   |true=>
    have t:Hid (B=none):=(by show _=_;rw[b0.out];have:=IH f k f7 K;rw[c4.out] at this;unfold fU;rw[this];simp);rcases IJ _ K with A|⟨A,H⟩|⟨A,H,Q⟩|⟨A,H,Q,h4⟩;all_goals
     rw[A] at HF;clear K;go_wp2_with fail;refine af HF.out ?_;rintro e W0 ⟨rfl,q⟩;have q:=q.symm;subst q;go_wp2;go_ret2;rw[t.out];exact⟨⟨_,rfl⟩,HB.out⟩
   |false=>
    have e8:Hid (∀(j:Nat) (l:j<f.size),j<k+1->dp f[j]=false):=by
     intro j l h;by_cases e:j=k
     .subst e;exact K
     .exact a6.out j l (by omega)
    obtain⟨A,H,Q,h4⟩:=IK _ K;rw[A] at HF;clear K;go_wp2_with fail;refine af HF.out ?_;rintro e W0 ⟨rfl,q⟩;have q:=q.symm;subst q;go_wp2;go_roundw
    case rel=>exact⟨k+1,by omega,by go_num,e8.out,trivial⟩
    case measure=>(simp[intOf];try omega)
  .have g5:Hid (u.any dp=false):=by
    have:=II f (fun j l=>a6.out j l (by omega));rw[c4.out] at this;exact this
   clear a6 e3;go_wp2_with fail;refine af (d3.out V) ?_;rintro e V1 ⟨rfl,O⟩;have d1:Hid (Below w.heap.size w V1):=HB.out.trans (O.mono f2);clear O d3;go_wp2_with fail;refine af (d9.out V1) ?_;rintro e m ⟨⟨v,rfl,D⟩,b2⟩;have a0:Hid (Below w.heap.size w m):=d1.out.trans (b2.mono d1.out.size);obtain⟨d,P⟩:∃d,d=ar 46 L:=⟨_,rfl⟩;rw[<-P] at D;have a1:d≠[]:=(by rw[P];exact hO 46 L);have f3:0<d.length:=iK.2 a1;obtain⟨i2,a7,rfl,g4,g7,c9⟩:=dF D;obtain⟨g,hg,e0⟩:=c9 f3;subst hg;have e1:g<m.heap.size:=(D.lt g rfl).2;have d4:d.length<=2001:=by rw[P];have:=lY 46 L;have:=a9.out;omega
   have Z:Hid (∀(j:Nat) x,d[j]?=some x->m.cell? ⟨g,j,none⟩=some (.string ⟨x.toArray⟩)):=fun j x l=>e0 j _ (by unfold aW;rw[fy,l];rfl);have b9:Hid (d=ar 46 L):=P;have f1:Hid (∀x∈d,x.length<=4000):=(by intro x hx;rw[b9.out] at hx;have:=hR 46 L x hx;have:=a9.out;omega);have e5:Hid (g<m.heap.size):=e1;have g0:Hid (d≠[]):=a1;clear b2 D e0 P c9 e1 d9;obtain⟨z,hz⟩:∃z,z=d.getLastD []:=⟨_,rfl⟩;have b4:Hid (d[d.length- 1]?=some z):=(by show _=_;rw[hz];exact yc d a1 []);obtain⟨n,hn⟩:∃n,d.length=n+1:=⟨d.length- 1,by omega⟩;have cz:m.cell? ⟨g,n,none⟩=some (.string ⟨z.toArray⟩):=(by have h:=b4.out;rw[show d.length- 1=n by omega] at h;exact Z.out n z h);have c7:d.getLast? =some z:=(by have:=b4.out;rw[<-qR] at this;exact this);obtain⟨r,c5⟩:∃r:Bool,r=(decide (1<d.length)&&z.isEmpty):=⟨_,rfl⟩;have W:Hid (cn L=if r then d.dropLast else d):=by
    show _=_;unfold cn;rw[<-b9.out,c7];have e:(1<d.length/\some z=some ([]:List UInt8))↔r=true:=by rw[c5,fx,kX,ol];simp
    by_cases hd:r=true
    .rw[ae (e.2 hd),ae hd]
    .rw[ab (fun h=>hd (e.1 h)),ab hd]
   have c6:(⟨z.toArray⟩:ByteArray).toList.isEmpty=z.isEmpty:=(by rw[cG]);obtain⟨zb,e4⟩:∃zb:ByteArray,zb=⟨z.toArray⟩:=⟨_,rfl⟩;rw[<-e4] at cz c6;have b5:Hid (r=(decide (1<d.length)&&z.isEmpty)):=c5;have d2:Hid (zb.toList.isEmpty=z.isEmpty):=c6;have g1:(d.length:Int)- 1=(n:Int):=(by omega);have f6:n<d.length:=(by omega);have d7:Hid (d.length=n+1):=hn;clear c7 c5 c6 e4 hz a1 hn b4;go_upto_region 28 with fail;go_cut [109] from 98 to 130 (fun b U=>b=.bool r/\U=m)
   case first=>
    by_cases A:1<d.length
    .have e7:(1:Int)<(d.length:Int):=by omega
     have HD:Hid (r=z.isEmpty):=(by show _=_;rw[b5.out,dC A];rfl);cases g3:z.isEmpty;all_goals
      have T:=d2.out;rw[g3] at T HD;go_wp2;go_meet;exact⟨by rw[HD.out],rfl⟩
    .have e7:¬(1:Int)<(d.length:Int):=by omega
     have HD:Hid (r=false):=(by show _=_;rw[b5.out,ee A];rfl);go_wp2;go_meet;exact⟨by rw[HD.out],rfl⟩
   case rest=>
   obtain⟨rfl,E⟩:=hcut;have E:=E.symm;subst E;go_upto_if 109 with fail
   go_cut [13] from 98 to 130 (fun a U=>∃R,a=.slice (some ⟨g,0,none⟩) (cn L).length R/\(cn L).length<=R/\U=m)
   case first=>
    cases r with
    |true=>have S:Hid ((cn L).length=n):=(by show _=_;rw[W.out,ae rfl,lF,d7.out];rfl);have i3:(0:Int)<=(n:Int):=(by omega);have i1:(n:Int)<=(a7:Int):=(by omega);go_wp2;go_meet;exact⟨a7,by rw[S.out],by rw[S.out];omega,rfl⟩
    |false=>have S:Hid ((cn L).length=d.length):=(by show _=_;rw[W.out,ab (by simp)]);go_wp2;go_meet;exact⟨a7,by rw[S.out],by rw[S.out];omega,rfl⟩
   case rest=>
   obtain⟨R,rfl,h9,E⟩:=hcut;have E:=E.symm;subst E;have c0:Hid (∀(j:Nat) x,(cn L)[j]?=some x->m.cell? ⟨g,j,none⟩=some (.string ⟨x.toArray⟩)):=by
    intro j x l;rw[W.out] at l;split at l
    .refine Z.out j x ?_
     rw[BN] at l;split at l
     .exact l
     .cases l
    .exact Z.out j x l
   have c1:Hid (∀x∈cn L,x.length<=4000):=(by intro x hx;have:=rM L x hx;have:=a9.out;omega);have i4:(cn L).length<=2001:=by
    rw[W.out];split
    .rw[lF];omega
    .exact d4
   have a8:=pi L;have d5:Hid (cn L≠[]):=a8;have h7:0<(cn L).length:=iK.2 a8;have a2:Hid (u≠[]->B=if gx ((cn L).getLastD []) then(dy (cn L)).map (fun a=>gN a.toNat) else some L):=(by intro G;rw[b0.out];unfold fU;rw[ab G,g5.out,ab (by simp),<-b7.out]);have X:Hid (u=[]->B=none/\gx ((cn L).getLastD [])=false/\L=[]):=by
    intro G;have C:L=[]:=(by rw[b7.out,G];rfl);refine⟨?_,?_,C⟩
    .rw[b0.out];unfold fU;rw[ae G]
    .rw[C,IL];decide
   have e9:Hid (L=[]->u=[]):=(by intro h;have H:=b7.out;rw[h] at H;have Q:=aB List.length H;rw[lower_len] at Q;exact oy.1 Q.symm);generalize cn L=p at*;clear a8 W b5 g0 Z f1 d2 cz g1 f6 d7 b9 g4 g7 d4;obtain⟨I,T⟩:∃I,I=p.getLastD []:=⟨_,rfl⟩;obtain⟨M,g8⟩:∃M,p.length=M+1:=⟨p.length- 1,by omega⟩;have a3:=yc p d5.out ([]:List UInt8);rw[<-T,show p.length- 1=M by omega] at a3;have f8:=c0.out M I a3;have f4:=c1.out I (ef a3);obtain⟨Y,a5⟩:∃Y:ByteArray,Y=⟨I.toArray⟩:=⟨_,rfl⟩;rw[<-a5] at f8;rw[<-T] at a2 X;have f9:Hid (Calls Tryz.prog 119 #[.string Y] m fun e w'=>e=.returned (.bool (gx I))/\w'=m):=(by have:=Ji Y m (by rw[a5,al];omega);rw[a5] at this⊢;exact this);have e6:Hid (Calls Tryz.prog 120 #[.slice (some ⟨g,0,none⟩) p.length R] m fun e w'=>sd (dy p) e/\Below m.heap.size m w'):=Hw p _ R m d5.out (by omega) c1.out ⟨g,rfl,e5.out,c0.out⟩;have h6:(p.length:Int)- 1=(M:Int):=(by omega);have h5:M<p.length:=(by omega);clear T g8 a3 f4 a5 c0 c1;go_wp2_with fail;refine af f9.out ?_;rintro e W0 ⟨rfl,q⟩;have q:=q.symm;subst q;cases J:gx I with
   |false=>
    rw[J] at a2;have i5:Hid _:=c2.out;by_cases C:L=[]
    .have t:Hid (B=none):=(X.out (e9.out C)).1
     have g2:y.toList.isEmpty=true:=(by rw[c2.out,C];rfl);clear C J;go_wp2;go_ret2;rw[t.out];exact⟨⟨_,rfl⟩,a0.out⟩
    .have t:Hid (B=some L):=by
      show _=_;rw[a2.out (fun h=>C (X.out h).2.2)];rfl
     have g2:y.toList.isEmpty=false:=by
      rw[c2.out];cases L with
      |nil=>exact absurd rfl C
      |cons=>rfl
     clear C J;go_wp2;go_ret2;rw[t.out];refine⟨?_,a0.out⟩;show _=Ending.returned (.tuple #[.string ⟨L.toArray⟩,.bool true]);rw[<-g9.out];rfl
   |true=>
    have G:u≠[]:=fun h=>by
     have:=(X.out h).2.1;rw[J] at this;cases this
    have t:Hid (B=(dy p).map (fun a=>gN a.toNat)):=(by show _=_;rw[a2.out G,J];rfl);clear J G;go_wp2_with fail;refine af e6.out ?_;rintro e V3 ⟨F,b3⟩;have d8:Hid (Below w.heap.size w V3):=a0.out.trans (b3.mono a0.out.size);clear b3;cases D:dy p with
    |none=>rw[D] at F t;have F:e=_:=F;subst F;clear D;go_wp2;go_ret2;rw[t.out];exact⟨⟨_,rfl⟩,d8.out⟩
    |some a=>rw[D] at F t;have F:e=_:=F;subst F;clear D;go_wp2;go_ret2;rw[t.out];exact⟨rfl,d8.out⟩
theorem pH (s:ByteArray) (a:Bool) (w:World) (c:s.size<=2000):Calls prog 67 #[.string s,.bool a] w λe w'=>fe (hostTell s.data.toList a) e/\Bl w w':=by
 unfold hostTell;by_cases b:Lib.hasPrefix s.L [91]=true
 .rw[ae b]
  exact IF s a w c b
 .have d:Lib.hasPrefix s.L [91]=false:=by simpa using b
  rw[ab b];cases a with
  |true=>exact IM s w c d
  |false=>exact IG s w c d
end Go.Proofs
