import Derived.Test.YtkcnageeamappaaGreatDoorXASegs2
set_option maxHeartbeats 32000000
set_option maxRecDepth 8000
set_option linter.unusedSimpArgs false
namespace Go.Proofs
open Go.RowKit Go.Moor Go.Proofs.Tryz Go.Moor
theorem Jb:∀c:Fin 256,((Lib.lowerB c.val.toUInt8).toNat:Int)=if 65<=c.val/\c.val<=90 then(c.val:Int)+32 else(c.val:Int):=by decide+kernel
theorem Jc (c:UInt8):((Lib.lowerB c).toNat:Int)=if 65<=c.toNat/\c.toNat<=90 then(c.toNat:Int)+32 else(c.toNat:Int):=by
 have h:=Jb ⟨c.toNat,c.toNat_lt⟩;simp only at h;have e:c.toNat.toUInt8=c:=by simp
 rwa[e] at h
theorem sr (s:ByteArray) (w:World) (E:s.size<=35184372088832):Calls prog 118 #[.string s] w fun e w'=>e=.returned (.string ⟨(Lib.toLowerA s.data.toList).toArray⟩)/\Bl w w':=by
 obtain⟨l,d⟩:=am s.data.toList;have D:l.length=s.size:=by rw[d,bT];rfl
 have p:Hid (∀(k:Nat) (h:k<s.size) (c:k<l.length),l[k]=s[k]):=by intro k h c;subst d;simp;rfl
 rw[<-d];clear d;go_enter func118,ntmps118;go_wp2_with fail;go_loopw [3,4] (fun o i wr=>∃k:Nat,k<=s.size/\i=Iv k/\o=.string ⟨(Lib.toLowerA (l.take k)).toArray⟩/\Bl w wr) (fun _ i _=>s.size-(intOf i).toNat)
 case atStart=>exact⟨0,aR _,rfl,rfl,ai _ _⟩
 case round=>
  obtain⟨k,C,rfl,rfl,(b:Hid _)⟩:=hrel;by_cases v:k<s.size
  .have c:k<l.length:=by omega
   have q:=p k v c;have j:Hid ((⟨(Lib.toLowerA (l.take k)).toArray⟩:ByteArray)++⟨#[Lib.lowerB s[k]]⟩=⟨(Lib.toLowerA (l.take (k+1))).toArray⟩):=(by show _=_;rw[iz l k c,q];unfold Lib.toLowerA;rw[kg];exact aP _ [Lib.lowerB s[k]]);have u:(⟨(Lib.toLowerA (l.take k)).toArray⟩:ByteArray).size<=s.size:=(by rw[al];unfold Lib.toLowerA;rw[gX,cL];omega);have a:=Jc s[k];have B:=s[k].toNat_lt;generalize(⟨(Lib.toLowerA (l.take k)).toArray⟩:ByteArray)=m at*;have g:Hid (∀W:World,(Op.stringOp .add m ⟨#[Lib.lowerB s[k]]⟩).run prog W=.ok (.string (m++⟨#[Lib.lowerB s[k]]⟩)) W):=fun W=>bm W _ _ (by show _+1<=_;omega);clear u q p;by_cases f:65<=s[k].toNat/\s[k].toNat<=90
   .rw[ae f] at a
    have n:(65:Int)<=(s[k].toNat:Int):=(by omega);have y:(s[k].toNat:Int)<=90:=(by omega);have t:=pK (Lib.lowerB s[k]) ((s[k].toNat:Int)+32) a wr;have A:=g.out;generalize Lib.lowerB s[k]=x at*;clear a f;go_wp2;go_roundw
    case rel=>exact⟨k+1,by omega,by go_num,aB Value.string j,b.out.alloc b.out.size _⟩
    case measure=>grind[intOf]
   .rw[ab f] at a
    have t:=pK (Lib.lowerB s[k]) (s[k].toNat:Int) a wr;have A:=g.out;have z:¬(65:Int)<=(s[k].toNat:Int)\/((65:Int)<=(s[k].toNat:Int)/\¬(s[k].toNat:Int)<=90):=(by omega);generalize Lib.lowerB s[k]=x at*;clear a f;rcases z with n|⟨n,y⟩;all_goals
     go_wp2;go_roundw
     case rel=>exact⟨k+1,by omega,by go_num,aB Value.string j,b.out.alloc b.out.size _⟩
     case measure=>grind[intOf]
  .have r:Hid (l.take k=l):=cg (by omega)
   rw[r.out];go_wp2;go_ret;exact⟨rfl,b⟩
theorem fJ (s:ByteArray) (i j:Nat):(s.extract i j)=⟨((s.data.toList.drop i).take (j- i)).toArray⟩:=by apply BV;apply qT;rw[ByteArray.data_extract,Array.toList_extract,PN]
theorem Jd (c:UInt8) (l:List UInt8) (f i:Nat) (k:f<=i) (b:i<l.length) (g:∀(j:Nat) (d:j<l.length),f<=j->j<i->¬l[j]=c) (a:l[i]=c):ar c (l.drop f)=(l.drop f).take (i- f)::ar c (l.drop (i+1)):=by
 have e:l.drop f=(l.drop f).take (i- f)++c::l.drop (i+1):=by
  conv=>lhs;rw[<-la (i- f) (l.drop f)]
  rw[fQ,show f+(i- f)=i by omega,ch b,a]
 rw[e,ks c _ _ (λx h=>?_)]
 .rw[<-e]
 .grind[List.mem_iff_getElem?,List.getElem?_eq_some_iff]
theorem Je (c:UInt8) (l:List UInt8) (f:Nat) (b:∀(j:Nat) (a:j<l.length),f<=j->¬l[j]=c):ar c (l.drop f)=[l.drop f]:=by grind[nD,List.mem_iff_getElem?]
theorem ss (s:ByteArray) (c:UInt8) (w:World) (hs:s.size<=4294967281):Calls prog 78 #[.string s,.int .u8 c.toNat] w fun e w'=>(∃v,e=.returned v/\w'.ownsRow w.heap.size 9 1 v (ar c s.data.toList).length (aW (ar c s.data.toList)))/\Bl w w':=by
 obtain⟨T,Q,W,V,S⟩:=fA tk;obtain⟨l,q⟩:=am s.data.toList;have b2:l.length=s.size:=by rw[q,bT];rfl
 have HG:Hid (∀(k:Nat) (h:k<s.size) (p:k<l.length),l[k]=s[k]):=by intro k h p;subst q;simp;rfl
 have P:Hid (∀i j:Nat,s.extract i j=(Bv ((l.drop i).take (j- i)))):=by intro i j;rw[q];exact fJ s i j
 rw[<-q];clear q;go_enter func78,ntmps78;go_wp2_with fail;go_loopw [5,6,7] (fun v f i wr=>∃(a k:Nat) (d:List (List UInt8)),a<=k/\k<=s.size/\d.length<=a/\f=Iv a/\i=Iv k/\wr.ownsRow w.heap.size 9 1 v d.length (aW d)/\d++ar c (l.drop a)=ar c l/\(∀(j:Nat) (b:j<l.length),a<=j->j<k->¬l[j]=c)/\Bl w wr) (fun _ _ i _=>s.size-(intOf i).toNat)
 case atStart=>exact⟨0,0,[],.refl,aR _,.refl,rfl,rfl,⟨rfl,.inl ⟨rfl,rfl⟩⟩,rfl,fun j b r p=>by omega,ai _ _⟩
 case round=>
  obtain⟨a,k,d,a9,B,a1,rfl,rfl,N,X,R,G⟩:=hrel;obtain⟨sp,b0,rfl,_⟩:=dF N;have M:=hI G;have O:=hI N;have J:=hI X;have F:=hI R;have U:=G.size;clear G N X R;by_cases a4:k<s.size
  .have p:k<l.length:=by omega
   have C:=HG k a4 p;by_cases t:s[k]=c
   .have a7:((s[k].toNat:Int)==(c.toNat:Int))=true:=by rw[t];simp
    have A:=hI (P a k);have E:Hid ((d++ [(l.drop a).take (k- a)])++ar c (l.drop (k+1))=ar c l):=(by show _=_;rw[<-J.out,Jd c l a k a9 p F.out (C.trans t)];simp);generalize(l.drop a).take (k- a)=D at*;obtain⟨m,n⟩:=am (s.extract a k:ByteArray);have K:=hI (n.trans A);have a3:=n.symm;have a8:(a:Int)<=(k:Int):=(by omega);have b1:(k:Int)<=(s.size:Int):=(by omega);have a2:(0:Int)<=(a:Int):=(by omega);have o:=O.out.alloc (.cells #[.string m] 9);clear C n A t;go_wp2_with(at_builtin;refine kf _ rfl _ _ 28 rfl w.heap.size 9 T (Sv []) 1 16 underlying28 Q W V S rfl (by decide) _ _ _ rfl o (Ad wr.heap.size 0) 1 1 [.string m] rfl rfl ?c1 ?c2 (by decide) ?c3 ?c4 ?c5 _ rfl ?_)
    case c1=>
     intro j u b;match j,b with
     |0,b=>simp at b;subst b;exact ew wr #[.string m] 9 0
    case c2=>intro u x;simp at x;subst x;rfl
    case c3=>unfold maxLen;omega
    case c4=>omega
    case c5=>simp;omega
    intro g Y Z y z L a5;have H:=hI y;have I:=hI ((M.out.alloc U _).grown z (by simp;omega) (fun k B=>(o.lt k B).1));clear y z o L;go_wp2;go_roundw
    case rel=>refine⟨k+1,k+1,d++ [D],.refl,by omega,by simp;omega,by go_num,by go_num,?_,E,fun j b r p=>by omega,I⟩;rw[cC,kn];have e:aW [D]=[.string m]:=(by rw[K.out];rfl);rw[e];exact H
    case measure=>(simp[intOf];try omega)
   .have a7:((s[k].toNat:Int)==(c.toNat:Int))=false:=by
     rw[aL];intro h;exact t (cU.1 (by omega))
    have a0:Hid (∀(j:Nat) (b:j<l.length),a<=j->j<k+1->¬l[j]=c):=by
     intro j b r h3;by_cases e:j=k
     .subst e;rw[C];exact t
     .exact F j b r (by omega)
    clear C;go_wp2;go_roundw
    case rel=>exact⟨a,k+1,d,by omega,by omega,a1,rfl,by go_num,O,J,a0,M⟩
    case measure=>(simp[intOf];try omega)
  .have a6:k=s.size:=by omega
   subst a6;have E:Hid (d++ [l.drop a]=ar c l):=by show _=_;rw[<-J.out,Je c l a (fun j b r=>F.out j b r (by omega))]
   have A:Hid (s.extract a s.size=(Bv (l.drop a))):=(by show _=_;rw[P.out a s.size,cg (by rw[cm];omega)]);generalize l.drop a=D at*;obtain⟨m,n⟩:=am (s.extract a s.size:ByteArray);have K:=hI (n.trans A);have a3:=n.symm;have a8:(a:Int)<=(s.size:Int):=(by omega);have a2:(0:Int)<=(a:Int):=(by omega);have o:=O.out.alloc (.cells #[.string m] 9);clear n A;go_wp2_with(at_builtin;refine kf _ rfl _ _ 28 rfl w.heap.size 9 T (Sv []) 1 16 underlying28 Q W V S rfl (by decide) _ _ _ rfl o (Ad wr.heap.size 0) 1 1 [.string m] rfl rfl ?c1 ?c2 (by decide) ?c3 ?c4 ?c5 _ rfl ?_)
   case c1=>
    intro j u b;match j,b with
    |0,b=>simp at b;subst b;exact ew wr #[.string m] 9 0
   case c2=>intro u x;simp at x;subst x;rfl
   case c3=>unfold maxLen;omega
   case c4=>omega
   case c5=>simp;omega
   intro g Y Z y z L a5;have H:=hI y;have I:=hI ((M.out.alloc U _).grown z (by simp;omega) (fun k B=>(o.lt k B).1));clear y z o L;go_wp2;go_ret;refine⟨⟨_,rfl,?_⟩,I⟩;rw[<-E.out,cC,kn];have e:aW [D]=[.string m]:=(by rw[K.out];rfl);rw[e];exact H
theorem Jf:∀c:Fin 256,decide (aw c.val<10)=decide (48<=c.val/\c.val<=57):=by decide+kernel
theorem yi (c:UInt8):decide (aw c.toNat<10)=refDigit c:=Jf ⟨c.toNat,c.toNat_lt⟩
theorem Jg (l:List UInt8):iV 10 l=l.all refDigit:=by simp[iV,yi]
theorem Jh (l:List UInt8):gx l=if l=[] then false else if l.all refDigit then true else if Lib.hasPrefix l [48,120] then iV 16 (l.drop 2) else false:=by
 unfold gx;by_cases d:l=[]
 .subst d;rfl
 .rw[ab d]
  by_cases c:Lib.hasPrefix l [48,120]=true
  .have f:¬l.all refDigit=true:=by
    intro h;match l,c,h with
    | [],c,_=>grind
    | [a],c,_=>grind[Lib.hasPrefix]
    |a::b::r,c,h=>simp[Lib.hasPrefix] at c;rw[gI] at h;have:=h b (by simp);rw[<-c.2] at this;exact absurd this (by decide)
   rw[ae c,ab f,ae c]
  .rw[ab c,Jg]
   have e:l.isEmpty=false:=(by cases l with|nil=>grind|cons=>rfl);rw[e];by_cases g:l.all refDigit=true
   .grind
   .grind
theorem Ji (s:ByteArray) (w:World) (hs:s.size<=35184372088832):Calls prog 119 #[.string s] w fun e w'=>e=.returned (.bool (gx s.data.toList))/\w'=w:=by
 obtain⟨l,f⟩:=am s.data.toList;have Z:l.length=s.size:=by rw[f,bT];rfl
 have R:Hid (∀(k:Nat) (h:k<s.size) (m:k<l.length),l[k]=s[k]):=by intro k h m;subst f;simp;rfl
 have U:Hid (∀i j:Nat,s.extract i j=(Bv ((l.drop i).take (j- i)))):=by intro i j;rw[f];exact fJ s i j
 have v:s.toList.isEmpty=l.isEmpty:=by rw[f,cG]
 rw[<-f,Jh];have N:=hI fun c F=>nI c F;have a0:=hI fun c F=>pF c F;have Q:=hI Z;clear f;by_cases y:l=[]
 .rw[ae y]
  rw[y] at v;have a6:s.toList.isEmpty=true:=v;clear v;go_enter func119,ntmps119;go_wp2;go_ret;exact⟨rfl,rfl⟩
 .rw[ab y]
  have he:l.isEmpty=false:=by cases l with|nil=>exact absurd rfl y|cons=>rfl
  rw[he] at v;suffices Y:∀n:Bool,Hid (l.all refDigit=true->n=true)->Hid (l.all refDigit=false->n=if Lib.hasPrefix l [48,120] then iV 16 (l.drop 2) else false)->Calls prog 119 #[.string s] w fun e w'=>e=.returned (.bool n)/\w'=w from Y _ (fun h=>ae h) (fun h=>ab (by simp[h]))
  intro n I O;go_enter func119,ntmps119;go_wp2_with fail;go_loopw [3,4] (fun o i wr=>∃k:Nat,k<=s.size/\i=Iv k/\o=.bool ((l.take k).all refDigit)/\wr=w) (fun _ i _=>s.size-(intOf i).toNat)
  case atStart=>exact⟨0,aR _,rfl,rfl,rfl⟩
  case round=>
   obtain⟨k,W,rfl,rfl,B⟩:=hrel;obtain rfl:=B.symm;by_cases C:k<s.size
   .have m:k<l.length:=by omega
    have q:=R k C m;have J:Hid ((l.take (k+1)).all refDigit=((l.take k).all refDigit&&refDigit s[k])):=(by show _=_;rw[iz l k m,List.all_append,q];simp);have V:Hid _:=N s[k] w;generalize(l.take k).all refDigit=ac at*;generalize refDigit s[k]=d at*;clear q;go_wp2_with fail;refine mR V fun W0 X=>?_;obtain rfl:=X.symm;cases ac with
    |true=>
     go_wp2;go_roundw
     case rel=>exact⟨k+1,by omega,by go_num,by rw[J.out];rfl,trivial⟩
     case measure=>(simp[intOf];try omega)
    |false=>
     go_wp2;go_roundw
     case rel=>exact⟨k+1,by omega,by go_num,by rw[J.out];rfl,trivial⟩
     case measure=>(simp[intOf];try omega)
   .have S:l.take k=l:=cg (by omega)
    rw[S];clear S;cases G:l.all refDigit with
    |true=>have z:=I G;subst z;go_wp2;go_ret;exact⟨rfl,rfl⟩
    |false=>
     have z:=O G;have A:Hid _:=z;clear z I O G N;by_cases m:s.size<2
     .have T:(s.size:Int)<2:=by omega
      have t:Hid (n=false):=by
       show _=_;rw[A.out,ab];intro g;match l,g,Q.out with
       | [],g,_=>simp[Lib.hasPrefix] at g
       | [a],g,_=>simp[Lib.hasPrefix] at g
       |a::b::r,_,f=>simp at f;omega
      go_wp2;go_ret;rw[t.out];exact⟨rfl,rfl⟩
     .have T:¬(s.size:Int)<2:=by omega
      have a4:(2:Int)<=(s.size:Int):=(by omega);have L:((s.extract 0 2).toList==[48,120])=Lib.hasPrefix l [48,120]:=by
       rw[U.out 0 2,cG];show(List.take 2 (List.drop 0 l)==[48,120])=_;match l,Q.out with
       | [],f=>simp at f;omega
       | [a],f=>simp at f;omega
       |a::b::r,_=>
        simp[Lib.hasPrefix];rw[ki];simp;constructor
        .rintro⟨rfl,rfl⟩;exact⟨rfl,rfl⟩
        .rintro⟨rfl,rfl⟩;exact⟨rfl,rfl⟩
      cases g:Lib.hasPrefix l [48,120] with
      |false=>
       rw[g] at L;have t:Hid (n=false):=by show _=_;rw[A.out,ab (by simp[g])]
       clear g;go_wp2;go_ret;rw[t.out];exact⟨rfl,rfl⟩
      |true=>
       rw[g] at L;have t:Hid (n=iV 16 (l.drop 2)):=by show _=_;rw[A.out,ae g]
       clear g A;go_wp2_with fail;go_loopw [6] (fun i wr=>∃k:Nat,2<=k/\k<=s.size/\i=Iv k/\(∀(j:Nat) (p:j<l.length),2<=j->j<k->aw l[j].toNat<16)/\wr=w) (fun i _=>s.size-(intOf i).toNat)
       case atStart=>exact⟨2,.refl,by omega,rfl,fun j p x m=>by omega,rfl⟩
       case round=>
        obtain⟨k,a5,W,rfl,P,B⟩:=hrel;obtain rfl:=B.symm;have K:=hI P;clear P;by_cases C:k<s.size
        .have m:k<l.length:=by omega
         have q:=R k C m;have D:Hid _:=a0 s[k] w;by_cases u:aw s[k].toNat<16
         .have E:=(ln _ u).2.1
          have a3:Hid (∀(j:Nat) (p:j<l.length),2<=j->j<k+1->aw l[j].toNat<16):=by
           intro j p x h3;by_cases e:j=k
           .subst e;rw[q];exact u
           .exact K j p x (by omega)
          generalize cR s[k]=r at*;clear q u;go_wp2_with fail;refine m0 D ?_;go_wp2;go_roundw
          case rel=>exact⟨k+1,by omega,by omega,by go_num,a3,trivial⟩
          case measure=>(simp[intOf];try omega)
         .have E:=pJ _ u
          have a1:Hid (iV 16 (l.drop 2)=false):=(by show _=_;unfold iV;rw[il];intro H;rw[gI] at H;have:=H l[k] (ef (i:=k- 2) (by grind));rw[q] at this;exact u (by simpa using this));rw[E] at D;clear q u E;go_wp2_with fail;refine m0 D ?_;go_wp2;go_ret;rw[t.out,a1.out];exact⟨rfl,rfl⟩
        .have a2:Hid (iV 16 (l.drop 2)=true):=by
          show _=_;unfold iV;rw[gI];intro c M;rw[oz] at M;obtain⟨j,p⟩:=M;rw[ox] at p;obtain⟨x,m⟩:=dN.1 p;have:=K (2+j) x (by omega) (by omega);rw[m] at this;simpa using this
         go_wp2;go_ret;rw[t.out,a2.out];exact⟨rfl,rfl⟩
theorem yj (x:List UInt8) (d:dY x=none):∀(b:List (List UInt8)) (a:Int),x∈b->dZ a b=none
 | [],_,h=>by cases h
 |y::b,a,h=>by
  unfold dZ;cases c:dY y with
  |none=>rfl
  |some n=>
   rcases cM.1 h with rfl|h
   .rw[d] at c;cases c
   .exact yj x d b _ h
theorem Jj (v:Int) (l:List UInt8) (k:Nat) (h:k<l.length):bJ 10 255 v (l.drop k)=if aw l[k].toNat<10 then(if v*10+aw l[k].toNat<=255 then bJ 10 255 (v*10+aw l[k].toNat) (l.drop (k+1)) else none) else none:=by rw[ch h];rfl
theorem Jk (c:UInt8) (h:refDigit c=true):aw c.toNat=(c.toNat:Int)- 48/\aw c.toNat<10/\48<=(c.toNat:Int)/\(c.toNat:Int)<=57:=by unfold refDigit at h;rw[kX] at h;unfold aw;rw[ae (by omega)];omega
theorem Jl (c:UInt8) (h:refDigit c=false):¬aw c.toNat<10:=by grind[yi]
def sw (o:Option Int) (e:Ending):Prop:=
 match o with
 |some n=>e=.returned (.tuple #[.int .i64 n,.bool true])
 |none=>∃m:Int,e=.returned (.tuple #[.int .i64 m,.bool false])
theorem Jm (s:ByteArray) (w:World) (hs:s.size<=4000):Calls prog 171 #[.string s] w λe w'=>sw (cB s.data.toList) e/\Bl w w':=by
 have HSP:Hid (Calls Tryz.prog 78 #[.string s,.int .u8 46] w λe w'=>(∃v,e=.returned v/\w'.ownsRow w.heap.size 9 1 v (ar 46 s.data.toList).length (aW (ar 46 s.data.toList)))/\Below w.heap.size w w'):=ss s 46 w (by omega);have HDI:Hid (∀(c:UInt8) w1,Calls Tryz.prog 173 #[.int .u8 c.toNat] w1 λe w'=>e=.returned (.bool (refDigit c))/\w'=w1):=λc w1=>nI c w1;have HLB:Hid (∀x∈ar 46 s.data.toList,x.length<=4000):=λx hx=>by
  have:=hR 46 s.data.toList x hx;rw[bT] at this;exact bu this hs
 have HLC:Hid ((ar 46 s.data.toList).length<=4001):=by have:=lY 46 s.data.toList;rw[bT] at this;exact bu this (by show s.size+1<=_;omega)
 unfold cB;generalize ar 46 s.data.toList=ls at*;have HRN:Hid (∀x∈ls,dY x=none->(if ls.length=4 then dZ 0 ls else none)=none):=by
  intro x hx h;split
  .exact yj x h ls 0 hx
  .rfl
 suffices key:∀res:Option Int,Hid (∀x∈ls,dY x=none->res=none)->Hid (¬ls.length=4->res=none)->Hid (ls.length=4->res=dZ 0 ls)->Calls Tryz.prog 171 #[.string s] w λe w'=>sw res e/\Below w.heap.size w w' from key _ HRN.out (λh=>ab h) (λh=>ae h)
 intro res HN1 HN2 HN3;clear HRN;go_enter Tryz.func171,Tryz.ntmps171;go_wp2_with fail;refine HSP.out.mono ?_;rintro e w1 ⟨⟨v,rfl,ho⟩,b1⟩;obtain⟨sp,cap,hv,hnc,hcm,hrow⟩:=dF ho;subst hv;have HB1:Hid (Below w.heap.size w w1):=b1;have hlc:=HLC.out;have HROW:Hid (∀(j:Nat) x,ls[j]?=some x->∃g,sp=some ⟨g,0,none⟩/\w1.cell? ⟨g,j,none⟩=some (.string ⟨x.toArray⟩)):=by intro j x hj;have hlt:=(dN.1 hj).1;obtain⟨g,hg,hc⟩:=hrow (by omega);exact⟨g,hg,hc j _ (by unfold aW;rw[fy,hj];rfl)⟩
 clear b1 ho hrow;go_wp2_with fail;go_loopw [5,6] (λa i wr=>∃(q:Nat) (x:Int),q<=ls.length/\i=.int .i64 q/\a=.int .i64 x/\(q<=4->dZ x (ls.drop q)=dZ 0 ls/\0<=x/\x<256^q)/\wr=w1) (λ_ i _=>ls.length-(intOf i).toNat)
 case atStart=>exact⟨0,0,aR _,rfl,rfl,λ_=>⟨rfl,by omega,by decide⟩,rfl⟩
 case round=>
  obtain⟨q,x,hq,rfl,rfl,hacc,hwr⟩:=hrel;have hwr:=hwr.symm;subst hwr;have HACC:Hid (q<=4->dZ x (ls.drop q)=dZ 0 ls/\0<=x/\x<256^q):=hacc;clear hacc;by_cases hlt:q<ls.length
  .obtain⟨p,hp⟩:∃p,ls[q]?=some p:=⟨ls[q],bY hlt⟩
   obtain⟨g,hsp,cp⟩:=HROW.out q p hp;subst hsp;have HPM:Hid (p∈ls):=ef hp;have hpl:=HLB.out p HPM.out;have HSTEP:Hid (∀n:Int,dY p=some n->dZ x (ls.drop q)=dZ (x*256+n) (ls.drop (q+1))):=by intro n hn;obtain⟨h1,h2⟩:=dN.1 hp;rw[ch h1,h2];unfold dZ;rw[hn];cases ls.drop (q+1)<;>rfl
   obtain⟨pb,hpb⟩:∃pb:ByteArray,pb=⟨p.toArray⟩:=⟨_,rfl⟩;rw[<-hpb] at cp;have hpz:pb.size=p.length:=(by rw[hpb];exact al p);have HPG:Hid (∀(k:Nat) (h:k<pb.size) (h2:k<p.length),p[k]=pb[k]):=by intro k h h2;subst hpb;rfl
   have hpe:pb.toList.isEmpty=p.isEmpty:=(by rw[hpb,cG]);clear hp hpb;go_wp2_with fail;go_loopw [7,8] (λa i wr=>∃(k:Nat) (v:Int),k<=pb.size/\i=.int .i64 k/\a=.int .i64 v/\0<=v/\v<=255/\bJ 10 255 v (p.drop k)=bJ 10 255 0 p/\(2<=k->¬p.head? =some 48)/\wr=w1) (λ_ i _=>pb.size-(intOf i).toNat)
   case atStart=>exact⟨0,0,aR _,rfl,rfl,by omega,by omega,rfl,λh=>by omega,rfl⟩
   case round=>
    obtain⟨k,v,hk,rfl,rfl,hv0,hv1,hdig,hhead,hwr⟩:=hrel;have hwr:=hwr.symm;subst hwr;have HDG:Hid (bJ 10 255 v (p.drop k)=bJ 10 255 0 p):=hdig;have HHE:Hid (2<=k->¬p.head? =some 48):=hhead;clear hdig hhead;by_cases hkl:k<pb.size
    .have h2:k<p.length:=by omega
     have hg:=HPG.out k hkl h2;have HD:Hid _:=HDI.out pb[k] w1;have hst:=Jj v p k h2;rw[hg] at hst;have HST:Hid _:=hst;have HPD:Hid (bJ 10 255 0 p=none->dY p=none):=by
      intro h;unfold dY;split
      .rfl
      .split
       .rfl
       .exact h
     clear hst hg;cases hd:refDigit pb[k] with
     |false=>have HRES:Hid (res=none):=HN1.out p HPM.out (HPD.out (by rw[<-HDG.out,HST.out,ab (Jl _ hd)]));rw[hd] at HD;clear hd;go_wp2_with fail;refine af HD.out ?_;rintro e W0 ⟨rfl,hw0⟩;have hw0:=hw0.symm;subst hw0;go_wp2;go_ret2;rw[HRES.out];exact⟨⟨_,rfl⟩,HB1.out⟩
     |true=>
      obtain⟨e1,e2,e3,e4⟩:=Jk _ hd;rw[hd] at HD;have hsub:IntKind.u8.wrap ((pb[k].toNat:Int)- 48)=(pb[k].toNat:Int)- 48:=by simp only[IntKind.wrap,IntKind.bits,IntKind.signed];simp;omega
      have hk0:(0:Int)<=(k:Int):=(by omega);have HH0:Hid (∀h:0<pb.size,p.head? =some pb[0]):=(by intro h;have h3:0<p.length:=(by omega);have:=HPG.out 0 h h3;rw[mO,bY h3,this]);by_cases hA:k=1/\p.head? =some 48
      .obtain⟨hk1,hh⟩:=hA
       have HRES:Hid (res=none):=HN1.out p HPM.out (by
        unfold dY;split
        .rfl
        .rw[ae ⟨hh,by omega⟩])
       have h0:0<pb.size:=(by omega);have hp0:=HH0.out h0;rw[hh] at hp0;have hp00:pb[0]=48:=(eh hp0).symm;have hpb0:((pb[0].toNat:Int)==48)=true:=(by rw[hp00];rfl);subst hk1;clear hd e1 e2 e3 e4 hsub hp0 hp00 hh;go_wp2_with fail;refine af HD.out ?_;rintro e W0 ⟨rfl,hw0⟩;have hw0:=hw0.symm;subst hw0;go_wp2;go_ret2;rw[HRES.out];exact⟨⟨_,rfl⟩,HB1.out⟩
      .have hB:((k:Int)==1)=false\/(((k:Int)==1)=true/\∃h0:0<pb.size,((pb[0].toNat:Int)==48)=false):=by
        by_cases h1:k=1
        .right
         have h0:0<pb.size:=(by omega);refine⟨by rw[h1];rfl,h0,?_⟩;rw[aL];intro h;exact hA ⟨h1,by rw[HH0.out h0];exact aB some (cU.1 (by show pb[0].toNat=48;omega))⟩
        .left
         rw[aL];omega
       have HHN:Hid (2<=k+1->¬p.head? =some 48):=by
        intro h3 h4;by_cases h1:k=1
        .exact hA ⟨h1,h4⟩
        .exact HHE.out (by omega) h4
       have hst:=HST.out;rw[ae e2,e1] at hst;obtain⟨n,hn⟩:∃n:Int,n=(pb[k].toNat:Int)- 48:=⟨_,rfl⟩;rw[<-hn] at hst hsub;have hn0:0<=n/\n<=9:=(by omega);obtain⟨hna,hnb⟩:=hn0;have hnn:(pb[k].toNat:Int)- 48=n:=hn.symm;have hw1:wrap64 (10*v)=10*v:=(by unfold wrap64;omega);have hw2:wrap64 (10*v+n)=10*v+n:=(by unfold wrap64;omega);clear hd e1 e2 hn HST hA HH0 HHE;by_cases hbig:10*v+n<=255
       .rw[ae (by omega)] at hst
        have HDN:Hid (bJ 10 255 (10*v+n) (p.drop (k+1))=bJ 10 255 0 p):=(by show _=_;rw[<-HDG.out,hst,show v*10+n=10*v+n by omega]);clear hst;rcases hB with hB|⟨hB,h0,hB2⟩;all_goals
         go_wp2_with fail;refine af HD.out ?_;rintro e W0 ⟨rfl,hw0⟩;have hw0:=hw0.symm;subst hw0;go_wp2;go_roundw
         case rel=>exact⟨k+1,10*v+n,by omega,by go_num,by go_num,by omega,by omega,HDN.out,HHN.out,trivial⟩
         case measure=>(simp[intOf];try omega)
       .rw[ab (by omega)] at hst
        have HRES:Hid (res=none):=HN1.out p HPM.out (HPD.out (by rw[<-HDG.out,hst]));clear hst;rcases hB with hB|⟨hB,h0,hB2⟩;all_goals
         go_wp2_with fail;refine af HD.out ?_;rintro e W0 ⟨rfl,hw0⟩;have hw0:=hw0.symm;subst hw0;go_wp2;go_ret2;rw[HRES.out];exact⟨⟨_,rfl⟩,HB1.out⟩
    .by_cases hpn:p=[]
     .have HRES:Hid (res=none):=HN1.out p HPM.out (by rw[hpn];rfl)
      have hpe2:pb.toList.isEmpty=true:=(by rw[hpe,hpn];rfl);clear hpe hpn;go_wp2;go_ret2;rw[HRES.out];exact⟨⟨_,rfl⟩,HB1.out⟩
     .have hpe2:pb.toList.isEmpty=false:=by
       rw[hpe];cases p with
       |nil=>exact absurd rfl hpn
       |cons=>rfl
      have HPD:Hid (dY p=some v):=(by show _=_;have h:=HDG.out;rw[eW (by omega)] at h;unfold dY;rw[ab hpn,ab (λh2=>HHE.out (by omega) h2.1),<-h];rfl);clear hpe;go_wp2;go_roundw
      case rel=>
       refine⟨q+1,_,by omega,by go_num,rfl,λh4=>?_,trivial⟩;obtain⟨a1,a2,a3⟩:=HACC.out (by omega);have a4:x<16777216:=oq a3 (by
        have:(256:Int)^q<=256^3:=by have h5:q=0\/q=1\/q=2\/q=3:=(by omega);rcases h5 with rfl|rfl|rfl|rfl<;>decide
        exact this)
       have e:wrap64 (wrap64 (256*x)+v)=x*256+v:=(by unfold wrap64;omega);rw[e];refine⟨by rw[<-a1,HSTEP.out v HPD.out],by omega,?_⟩;rw[ot];omega
      case measure=>(simp[intOf];try omega)
  .have hqe:q=ls.length:=by omega
   subst hqe;by_cases h4:ls.length=4
   .obtain⟨a1,a2,a3⟩:=HACC.out (by omega)
    have HRES:Hid (res=some x):=(by show _=_;rw[HN3.out h4,<-a1,eW (aG _)];rfl);have hl4:((ls.length:Int)==4)=true:=(by rw[h4];rfl);clear a1 a2 a3;go_wp2;go_ret2;rw[HRES.out];exact⟨by first|rfl|(show _=_;simp[h4]),HB1.out⟩
   .have HRES:Hid (res=none):=HN2.out h4
    have hl4:((ls.length:Int)==4)=false:=(by rw[aL];omega);go_wp2;go_ret2;rw[HRES.out];exact⟨⟨x,by first|rfl|simp[h4]⟩,HB1.out⟩
theorem yg:∀(k n:Nat) (w:World),k<=40->n<16^(k+1)->n<4294967296->Calls Tryz.prog 172 #[.int .i64 n] w λe w'=>e=.returned (.string ⟨(cH 16 k n).toArray⟩)/\∃c,w'=w.drewN c
 |k,n,w,hk40,hn,hn2=>by
  by_cases h:n<16
  .have b:=hI (wI n (by omega))
   have a:Hid (cH 16 k n=[dm n]):=by
    show _=_;cases k with
    |zero=>rfl
    |succ k=>simp_all[cH]
   rw[a.out];go_enter Tryz.func172,Tryz.ntmps172;go_wp2;go_ret;refine⟨?_,0,rfl⟩;show Ending.returned (.string (rE.extract n (n+1)))=_;rw[b.out]
  .match k,hk40,hn with
   |0,_,hn=>exact absurd (by simpa using hn) h
   |k+1,hk40,hn=>
    have f:n/16<16^(k+1):=(by rw[BF (by omega)];rwa[qP] at hn);have d:=hI λw=>by
     have:=yg k (n/16) w (by omega) f (by omega);rw[show((n/16:Nat):Int)=(n:Int)/16 by omega] at this;exact this
    have b:=hI (wI (n%16) (by omega));have a:Hid (cH 16 (k+1) n=cH 16 k (n/16)++ [dm (n%16)]):=(by show _=_;rw[cH,ab h]);rw[a.out];have m:IntKind.i64.wrap ((n:Int)/16)=(n:Int)/16:=jP _ (by omega) (by omega);have i:(n:Int).tmod 16=(n:Int)%16:=BU (by omega);have g:IntKind.i64.wrap ((n:Int)%16+1)=(n:Int)%16+1:=jP _ (by omega) (by omega);have l:∀W,(Instr.slice 9 (.string ⟨#[48,49,50,51,52,53,54,55,56,57,97,98,99,100,101,102]⟩) (some (.int .i64 ((n:Int)%16))) (some (.int .i64 ((n:Int)%16+1))) none).run Tryz.prog W=.ok (.string ⟨#[dm (n%16)]⟩) W:=λW=>by
     rw[run_slice_string W 9 _ .i64 .i64 _ _ Tryz.underlying9 (by omega) (by omega) (show(n:Int)%16+1<=((16:Nat):Int) by omega),show((n:Int)%16).toNat=n%16 by omega,show((n:Int)%16+1).toNat=n%16+1 by omega];exact aB (λx=>Result.ok (Value.string x) W) b
    have j:(cH 16 k (n/16)).length<=41:=(by have:=kp 16 k (n/16);omega);go_enter Tryz.func172,Tryz.ntmps172;go_wp2_with fail;go_region_with (go_at_call 172;refine(d.out _).mono ?_;rintro e w' ⟨rfl,c,rfl⟩);all_goals
     go_wp2;go_ret;refine⟨?_,_,rfl⟩;show Ending.returned (.string (⟨(cH 16 k (n/16)).toArray⟩++⟨[dm (n%16)].toArray⟩))=_;rw[aP]
theorem su {k:Nat} {w w':World} (d:w'.os=w.os) (b:w'.tape=w.tape) (c:w'.output=w.output) (a:w'.heap=w.heap):Below k w w':=⟨d,b,c,by grind,λ_ _=>by rw[a]⟩
theorem yh (n:Nat) (h:n<10):((dm n).toNat:Int)=48+(n:Int):=by
 have:∀k:Fin 10,((dm k.val).toNat:Int)=48+(k.val:Int):=by decide+kernel
 exact this ⟨n,h⟩
theorem sv:∀(k n:Nat) (w:World),k<=40->n<10^(k+1)->n<4294967296->Calls Tryz.prog 128 #[.int .i64 n] w λe w'=>e=.returned (.string ⟨(cH 10 k n).toArray⟩)/\Below w.heap.size w w'
 |k,n,w,hk40,hn,hn2=>by
  by_cases h:n<10
  .have d:=pK (dm n) (48+(n:Int)) (yh n h) w
   have b:Hid (cH 10 k n=[dm n]):=by
    show _=_;cases k with
    |zero=>rfl
    |succ k=>simp_all[cH]
   rw[b.out];have c:(n:Int)<10:=(by omega);generalize dm n=x at*;go_enter Tryz.func128,Tryz.ntmps128;go_wp2;go_ret;exact⟨rfl,(ai _ _).alloc (aG _) _⟩
  .match k,hk40,hn with
   |0,_,hn=>exact absurd (by simpa using hn) h
   |k+1,hk40,hn=>
    have f:n/10<10^(k+1):=(by rw[BF (by omega)];rwa[qP] at hn);have j:=hI λw=>by
     have:=sv k (n/10) w (by omega) f (by omega);rw[show((n/10:Nat):Int)=(n:Int)/10 by omega] at this;exact this
    have b:Hid (cH 10 (k+1) n=cH 10 k (n/10)++ [dm (n%10)]):=(by show _=_;rw[cH,ab h]);rw[b.out];have t:IntKind.i64.wrap ((n:Int)/10)=(n:Int)/10:=jP _ (by omega) (by omega);have u:(n:Int).tmod 10=(n:Int)%10:=BU (by omega);have r:IntKind.i64.wrap (48+(n:Int)%10)=48+(n:Int)%10:=jP _ (by omega) (by omega);have v:IntKind.u8.wrap (48+(n:Int)%10)=48+(n:Int)%10:=(by simp only[IntKind.wrap,IntKind.bits,IntKind.signed];simp;omega);have m:=yh (n%10) (by omega);have o:((dm (n%10)).toNat:Int)=48+(n:Int)%10:=(by rw[m];omega);have d:∀(W:World) (g:Nat),W.cell? ⟨g,0,none⟩=some (.int .u8 (48+(n:Int)%10))->(convert 47 9 (.slice (some ⟨g,0,none⟩) 1 1)).run Tryz.prog W=.ok (.string ⟨#[dm (n%10)]⟩) W:=by
     intro W g l;exact oo W 47 9 5 ⟨g,0,none⟩ 1 [dm (n%10)] Tryz.underlying47 Tryz.underlying5 Tryz.underlying9 (λi c=>by
      match i,c with
      |0,_=>
       refine l.trans ?_;show some (Value.int .u8 (48+(n:Int)%10))=some (Value.int .u8 ((dm (n%10)).toNat:Int));rw[o])
    have s:(cH 10 k (n/10)).length<=41:=(by have:=kp 10 k (n/10);omega);go_enter Tryz.func128,Tryz.ntmps128;go_wp2_with fail;go_region_with (go_at_call 128;refine(j.out _).mono ?_;rintro e q ⟨rfl,a⟩;first|(have y:q.cell? ⟨w.heap.size,0,none⟩=some (.int .u8 (48+(n:Int)%10)):=(a.cell (p:=⟨w.heap.size,0,none⟩) (by simp)).trans (ew _ #[.int .u8 (48+(n:Int)%10)] 5 0))|skip);all_goals
     go_wp2;go_ret;refine⟨?_,?_⟩
     .rfl
     .first
       |exact((su rfl rfl rfl rfl:Below w.heap.size w w.drew).trans a).alloc a.size _
       |exact((su rfl rfl rfl rfl:Below w.heap.size w w.drew).alloc (aG _) _).trans (a.mono (by simp))
       |exact((su rfl rfl rfl rfl:Below w.heap.size w w.drew).alloc (aG _) _).trans (a.mono (iI _))
theorem Jn (a:List Nat) (i:Nat) (h:i<a.length):eR (a.drop i)=if a[i]=0 then eR (a.drop (i+1))+1 else 0:=by rw[ch h];rfl
theorem yk:∀l:List Nat,eR l<=l.length
 | []=>aG _
 |p::l=>by
  unfold eR;split
  .have:=yk l;simp;omega
  .simp
theorem Jo (a:List Nat) (i:Nat) (h:i<a.length) (f:Int) (s:Nat):cZ (a.drop i) i f s=if s<eR (a.drop i) then cZ (a.drop (i+1)) (i+1) i (eR (a.drop i)) else cZ (a.drop (i+1)) (i+1) f s:=by
 conv=>lhs;rw[ch h]
 rw[ch h];rfl
theorem sx:∀(l:List Nat) (i:Nat) (f:Int) (s:Nat), -1<=f->f+s<=i+l.length-> -1<=(cZ l i f s).1/\(cZ l i f s).1+(cZ l i f s).2<=i+l.length
 | [],i,f,s,h,h2=>⟨h,h2⟩
 |p::l,i,f,s,h,h2=>by
  unfold cZ;have hz:=yk (p::l);simp only[dL] at hz h2⊢;split
  .have:=sx l (i+1) i (eR (p::l)) (by omega) (by omega)
   refine⟨this.1,?_⟩;omega
  .have:=sx l (i+1) f s h (by omega)
   refine⟨this.1,?_⟩;omega
theorem sy (a:List Nat) (i:Nat) (h:i<a.length):bK (a.take (i+1))=if i=0 then pieceTxt a[i] else bK (a.take i)++58::pieceTxt a[i]:=by
 have e:a.take (i+1)=a.take i++ [a[i]]:=by rw[jf,bY h];rfl
 rw[e];unfold bK;rw[kg];have b:((a.take i).map pieceTxt).length=i:=by simp;omega
 generalize(a.take i).map pieceTxt=l at*;cases l with
 |nil=>simp_all[Lib.join_one]
 |cons x r=>rw[ab (by grind)];rw[iL,ou,ou];unfold Lib.joinTail;simp
def cO (ps:List Nat) (f s:Nat) (i:Nat):List UInt8:=
 if i<=f then bK (ps.take i) else if i<=f+s then bK (ps.take f)++ [58,58] else bK (ps.take f)++([58,58]++bK ((ps.drop (f+s)).take (i-(f+s))))
theorem Jp (a:List Nat) (f s i:Nat) (h:i<f) (d:i<a.length):cO a f s (i+1)=if i=0 then pieceTxt a[i] else cO a f s i++58::pieceTxt a[i]:=by have c:cO a f s (i+1)=bK (a.take (i+1)):=ae (by omega);have b:cO a f s i=bK (a.take i):=ae (by omega);rw[c,b];exact sy a i d
theorem Jq (a:List Nat) (f s:Nat) (b:0<s):cO a f s (f+1)=cO a f s f++ [58,58]:=by unfold cO;rw[ab (by omega),ae (by omega),ae (by omega)]
theorem Jr (a:List Nat) (f s i:Nat) (h:f<i) (b:i<f+s):cO a f s (i+1)=cO a f s i:=by unfold cO;rw[ab (by omega),ae (by omega),ab (by omega),ae (by omega)]
theorem Js (a:List Nat) (f s i:Nat) (e:0<s) (h:f+s<=i) (j:i<a.length):cO a f s (i+1)=if i=f+s then cO a f s i++pieceTxt a[i] else cO a f s i++58::pieceTxt a[i]:=by
 have d:i-(f+s)<(a.drop (f+s)).length:=by rw[cm];omega
 have b:=sy (a.drop (f+s)) (i-(f+s)) d;have c:(a.drop (f+s))[i-(f+s)]=a[i]:=by rw[qD];congr 1;omega
 rw[c] at b;unfold cO;rw[ab (by omega),ab (by omega),show i+1-(f+s)=i-(f+s)+1 by omega,b];by_cases g:i=f+s
 .grind
 .grind
theorem Jt (a:List Nat) (f s i:Nat) (b:a.length=8):(cO a f s i).length<=100:=by grind[jw,cO]
theorem Ju (a:List Nat) (f s:Nat) (h:f+s<=8) (c:a.length=8) (b:0<s):cO a f s 8=bK (a.take f)++([58,58]++bK (a.drop (f+s))):=by
 unfold cO;rw[ab (by omega)];split
 .have:f+s=8:=by omega
  rw[this,eW (by omega)];rfl
 .grind[List.length_drop]
theorem Jv (c:List Nat) (h8:c.length=8) (hp:∀p∈c,p<65536) (w:World):Calls prog 117 #[.agg (c.map fun p=>Value.int .i64 (p:Nat)).toArray] w fun e w'=>e=.returned (.string ⟨(et c).toArray⟩)/\Bl w w':=by
 obtain⟨cs,a6⟩:=am ((c.map fun p=>Value.int .i64 (p:Nat)).toArray);rw[<-a6];obtain⟨W,hW⟩:=am (w.alloc (.cells cs 34));have c1:Bl w W:=by rw[hW];exact(ai _ _).alloc (aG _) _
 have hz:W.heap[w.heap.size]?=some (.cells cs 34 (0,0)):=by rw[hW];exact dO w _
 have b8:=(aT.1 hz).1;have a8:Hid (∀(i:Nat) (h:i<c.length) y,Below W.heap.size W y->y.cell? ⟨w.heap.size,i,none⟩=some (.int .i64 (c[i]:Nat))):=by intro i h y b;have k:=(b.block w.heap.size b8).trans hz;unfold World.cell?;simp[k,a6,h]
 have b4:Hid (∀y,Bl W y->Bl w y):=fun y b=>c1.trans (b.mono (jF b8));have HS:Hid (∀(i:Nat) (h:i<c.length) y,CN 172 #[Iv (c[i]:Nat)] y (.string ⟨(pieceTxt c[i]).toArray⟩)):=by intro i h y;have d9:=hp c[i] (mW h);exact yg 3 c[i] y (by omega) (by omega) (by omega)
 have b5:=JV c h8;have a9:Hid (-1<=(cZ c 0 (-1) 1).1/\(cZ c 0 (-1) 1).1+(cZ c 0 (-1) 1).2<=8):=by have:=sx c 0 (-1) 1 (by omega) (by omega);refine⟨this.1,?_⟩;have h2:=this.2;omega
 have V:Hid _:=b5;clear b5 a6 c1 hz;go_enter func117,ntmps117;go_upto_region 1 with fail;rw[<-hW];clear hW;go_wp2_with fail;go_loopw [3,4,5] (fun a b i wr=>∃(k:Nat) (f:Int) (s:Nat),k<=8/\a=Iv f/\b=Iv (s:Nat)/\i=Iv (k:Nat)/\s<=8/\cZ (c.drop k) k f s=cZ c 0 (-1) 1/\wr=W) (fun _ _ i _=>8-(intOf i).toNat)
 case atStart=>exact⟨0, -1,1,aR _,rfl,rfl,rfl,by omega,rfl,rfl⟩
 case round=>
  obtain⟨k,f,s,hk,rfl,rfl,rfl,c0,b7,a4⟩:=hrel;obtain rfl:=a4.symm;have H:=hI b7;clear b7;by_cases e4:k<8
  .have c7:k<c.length:=by omega
   have g:=Jo c k c7 f s;have a2:Hid _:=g;have e2:(k:Int)<8:=(by omega);clear g;go_wp2_with fail;go_loopw [6] (fun n wr=>∃m:Nat,k+m<=8/\n=Iv (m:Nat)/\m+eR (c.drop (k+m))=eR (c.drop k)/\wr=W) (fun n _=>8-(intOf n).toNat)
   case atStart=>grind
   case round=>
    obtain⟨m,hm,rfl,b2,a4⟩:=hrel;obtain rfl:=a4.symm;have a5:=hI b2;clear b2;by_cases d5:k+m<8
    .have b9:k+m<c.length:=by omega
     have c4:(k:Int)+(m:Int)<8:=(by omega);have C:=a8 (k+m) b9 W (ai _ _);have b3:=Jn c (k+m) b9;have c2:Hid _:=b3;clear b3;by_cases Z:c[k+m]=0
     .have d0:Hid (m+1+eR (c.drop (k+(m+1)))=eR (c.drop k)):=by
       show _=_;have r:=a5.out;have h2:=c2.out;rw[ae Z] at h2;rw[show k+(m+1)=k+m+1 by omega];omega
      rw[Z] at C;clear Z;go_wp2;go_roundw
      case rel=>exact⟨m+1,by omega,by go_num,d0,trivial⟩
      case measure=>(simp[intOf];try omega)
     .have X:Hid (m=eR (c.drop k)):=by
       show _=_;have r:=a5.out;have h2:=c2.out;rw[ab Z] at h2;omega
      have e8:(((c[k+m]:Nat):Int)==0)=false:=(by rw[aL];omega);generalize c[k+m]=pk at*;clear Z;have e3:(m:Int)<=8:=(by omega);by_cases P:s<m
      .have a7:(s:Int)<(m:Int):=by omega
       have I:Hid (cZ (c.drop (k+1)) (k+1) k m=cZ c 0 (-1) 1):=(by show _=_;have r:=a2;rw[<-X.out,ae P] at r;rw[<-r];exact H);go_wp2;go_roundw
       case rel=>exact⟨k+1,k,m,by omega,rfl,rfl,by go_num,by omega,I,trivial⟩
       case measure=>(simp[intOf];try omega)
      .have a7:¬(s:Int)<(m:Int):=by omega
       have I:Hid (cZ (c.drop (k+1)) (k+1) f s=cZ c 0 (-1) 1):=(by show _=_;have r:=a2;rw[<-X.out,ab P] at r;rw[<-r];exact H);go_wp2;go_roundw
       case rel=>exact⟨k+1,f,s,by omega,rfl,rfl,by go_num,c0,I,trivial⟩
       case measure=>grind[intOf]
    .have X:Hid (m=eR (c.drop k)):=by
      show _=_;have r:=a5;rw[eW (by omega)] at r;exact r
     have c4:¬(k:Int)+(m:Int)<8:=(by omega);by_cases P:s<m
     .have a7:(s:Int)<(m:Int):=by omega
      have I:Hid (cZ (c.drop (k+1)) (k+1) k m=cZ c 0 (-1) 1):=(by show _=_;have r:=a2;rw[<-X.out,ae P] at r;rw[<-r];exact H);go_wp2;go_roundw
      case rel=>exact⟨k+1,k,m,by omega,rfl,rfl,by go_num,by omega,I,trivial⟩
      case measure=>(simp[intOf];try omega)
     .have a7:¬(s:Int)<(m:Int):=by omega
      have I:Hid (cZ (c.drop (k+1)) (k+1) f s=cZ c 0 (-1) 1):=(by show _=_;have r:=a2;rw[<-X.out,ab P] at r;rw[<-r];exact H);go_wp2;go_roundw
      case rel=>exact⟨k+1,f,s,by omega,rfl,rfl,by go_num,c0,I,trivial⟩
      case measure=>(simp[intOf];try omega)
  .have d1:k=8:=by omega
   subst d1;have a3:Hid ((f,s)=cZ c 0 (-1) 1):=by show _=_;have h:=H;rw[eW (by omega)] at h;exact h
   by_cases K:(bP c 0 0 0 0).2<2
   .have Y:=a3
    rw[V.out,ae K] at Y;injection Y with hf hs;subst hf hs;have HT:Hid (et c=bK c):=ae K;clear K V H a3 a9;go_wp2_with fail;go_loopw [7,8] (fun o i wr=>∃J:Nat,J<=8/\i=Iv (J:Nat)/\o=.string ⟨(bK (c.take J)).toArray⟩/\Bl W wr) (fun _ i _=>8-(intOf i).toNat)
    case atStart=>exact⟨0,aR _,rfl,rfl,ai _ _⟩
    case round=>
     obtain⟨i,hi,rfl,rfl,D⟩:=hrel;have u:=hI D;by_cases c5:i<8
     .have B:i<c.length:=by omega
      have c8:(i:Int)<8:=(by omega);have C:=a8 i B wr D;have M:=sy c i B;have R:=jw (c.take i);have a0:(pieceTxt c[i]).length<=4:=kp 16 3 c[i];have G:(⟨(bK (c.take i)).toArray⟩:ByteArray).size<=40:=(by rw[al];rw[cL] at R;omega);have v:(⟨(pieceTxt c[i]).toArray⟩:ByteArray).size<=4:=(by rw[al];exact a0);have d6:((i:Int)== -1)=false:=(by rw[aL];omega);clear D R a0;by_cases E:i=0
      .subst E
       rw[ae rfl] at M;have q:Hid ((⟨(bK (c.take 0)).toArray⟩:ByteArray)++⟨(pieceTxt c[0]).toArray⟩=⟨(bK (c.take (0+1))).toArray⟩):=by show _=_;rw[M];exact aP [] _
       generalize(⟨(bK (c.take 0)).toArray⟩:ByteArray)=d at*;obtain⟨j,l⟩:=am (⟨(pieceTxt c[0]).toArray⟩:ByteArray);have A:Hid (CN 172 #[Iv (c[0]:Nat)] wr (.string j)):=(by show Calls _ _ _ _ _;rw[l];exact HS 0 B wr);rw[<-l] at q v;have N:∀W:World,(Op.stringOp .add d j).run prog W=.ok (.string (d++j)) W:=fun W=>bm W _ _ (by omega);clear M l G v;go_wp2_with fail;refine af A ?_;rintro e T ⟨rfl,z,rfl⟩;have x:=hI (cr u z);clear C;go_wp2;go_roundw
       case rel=>exact⟨1,by omega,by go_num,aB Value.string q,x⟩
       case measure=>simp[intOf]
      .rw[ab E] at M
       have b6:(0:Int)<(i:Int):=(by omega);have q:Hid ((⟨(bK (c.take i)).toArray⟩:ByteArray)++⟨#[58]⟩++⟨(pieceTxt c[i]).toArray⟩=⟨(bK (c.take (i+1))).toArray⟩):=(by show _=_;have U:(⟨(bK (c.take i)).toArray⟩:ByteArray)++⟨#[58]⟩=⟨(bK (c.take i)++ [58]).toArray⟩:=aP _ [58];rw[U,aP,M];simp);generalize(⟨(bK (c.take i)).toArray⟩:ByteArray)=d at*;obtain⟨j,l⟩:=am (⟨(pieceTxt c[i]).toArray⟩:ByteArray);have A:Hid (CN 172 #[Iv (c[i]:Nat)] wr (.string j)):=(by show Calls _ _ _ _ _;rw[l];exact HS i B wr);rw[<-l] at q v;have L:(⟨#[58]⟩:ByteArray).size=1:=rfl;have g0:∀W:World,(Op.stringOp .add d ⟨#[58]⟩).run prog W=.ok (.string (d++⟨#[58]⟩)) W:=fun W=>bm W _ _ (by omega);have N:∀W:World,(Op.stringOp .add (d++⟨#[58]⟩) j).run prog W=.ok (.string (d++⟨#[58]⟩++j)) W:=fun W=>bm W _ _ (by grind);clear M l G v L E;go_wp2_with fail;refine af A ?_;rintro e T ⟨rfl,z,rfl⟩;have x:=hI (cr u z);clear C;go_wp2;go_roundw
       case rel=>exact⟨i+1,by omega,by go_num,aB Value.string q,x⟩
       case measure=>grind[intOf]
     .have a1:c.take i=c:=cg (by omega)
      rw[a1];clear a1 D;go_wp2;go_ret;rw[HT.out];exact⟨rfl,b4 _ u⟩
   .have Y:=a3
    rw[V.out,ab K] at Y;injection Y with hf hs;have b1:=a9;rw[V.out,ab K] at b1;have HT:Hid (et c=bK (c.take (bP c 0 0 0 0).1)++([58,58]++bK (c.drop ((bP c 0 0 0 0).1+(bP c 0 0 0 0).2)))):=ab K;have d4:2<=(bP c 0 0 0 0).2:=(by omega);have c6:(bP c 0 0 0 0).1+(bP c 0 0 0 0).2<=8:=(by have:=b1.2;simp only at this;omega);generalize(bP c 0 0 0 0).1=F at*;generalize(bP c 0 0 0 0).2=S at*;subst hf hs;clear K V H a3 a9 b1;go_wp2_with fail;go_loopw [7,8] (fun o i wr=>∃J:Nat,J<=8/\i=Iv (J:Nat)/\o=.string ⟨(cO c F s J).toArray⟩/\Bl W wr) (fun _ i _=>8-(intOf i).toNat)
    case atStart=>exact⟨0,aR _,rfl,by rfl,ai _ _⟩
    case round=>
     obtain⟨i,hi,rfl,rfl,D⟩:=hrel;have u:=hI D;by_cases c5:i<8
     .have B:i<c.length:=by omega
      have c8:(i:Int)<8:=(by omega);have C:=a8 i B wr D;have R:=Jt c F s i h8;have a0:(pieceTxt c[i]).length<=4:=kp 16 3 c[i];obtain⟨d,t⟩:=am (⟨(cO c F s i).toArray⟩:ByteArray);obtain⟨j,l⟩:=am (⟨(pieceTxt c[i]).toArray⟩:ByteArray);have G:d.size<=100:=(by rw[t,al];exact R);have v:j.size<=4:=(by rw[l,al];exact a0);have A:Hid (CN 172 #[Iv (c[i]:Nat)] wr (.string j)):=(by show Calls _ _ _ _ _;rw[l];exact HS i B wr);have e5:(0:Int)<=(F:Int):=(by omega);rw[<-t];clear D R a0;by_cases O:i<F
      .have g:=Jp c F s i O B
       have c9:((i:Int)==(F:Int))=false:=(by rw[aL];omega);have d7:¬(F:Int)<=(i:Int):=(by omega);by_cases E:i=0
       .rw[ae E] at g
        have d8:¬(0:Int)<(i:Int):=(by omega);have q:Hid (d++j=⟨(cO c F s (i+1)).toArray⟩):=(by show _=_;have e0:cO c F s i=[]:=(by rw[E];unfold cO;rw[ae (by omega)];rfl);rw[t,l,g,e0];exact aP [] _);have N:∀W:World,(Op.stringOp .add d j).run prog W=.ok (.string (d++j)) W:=fun W=>bm W _ _ (by omega);clear g t l G v E;go_wp2_with fail;refine af A ?_;rintro e T ⟨rfl,z,rfl⟩;have x:=hI (cr u z);clear C;go_wp2;go_roundw
        case rel=>exact⟨i+1,by omega,by go_num,aB Value.string q,x⟩
        case measure=>(simp[intOf];try omega)
       .rw[ab E] at g
        have b0:Hid _:=g;have b6:(0:Int)<(i:Int):=(by omega);clear g E;have q:Hid (d++⟨#[58]⟩++j=⟨(cO c F s (i+1)).toArray⟩):=(by show _=_;have U:(⟨(cO c F s i).toArray⟩:ByteArray)++⟨#[58]⟩=⟨(cO c F s i++ [58]).toArray⟩:=aP _ [58];rw[t,l,b0.out,U,aP];simp);have L:(⟨#[58]⟩:ByteArray).size=1:=rfl;have g0:∀W:World,(Op.stringOp .add d ⟨#[58]⟩).run prog W=.ok (.string (d++⟨#[58]⟩)) W:=fun W=>bm W _ _ (by omega);have N:∀W:World,(Op.stringOp .add (d++⟨#[58]⟩) j).run prog W=.ok (.string (d++⟨#[58]⟩++j)) W:=fun W=>bm W _ _ (by grind);clear L;clear t l G v;go_wp2_with fail;refine af A ?_;rintro e T ⟨rfl,z,rfl⟩;have x:=hI (cr u z);clear C;go_wp2;go_roundw
        case rel=>exact⟨i+1,by omega,by go_num,aB Value.string q,x⟩
        case measure=>grind[intOf]
      .by_cases Q:i=F
       .have g:=Jq c F s (by omega)
        have e7:((i:Int)==(F:Int))=true:=(by rw[dM];omega);have d2:(F:Int)<=(i:Int):=(by omega);have c3:(i:Int)<(F:Int)+(s:Int):=(by omega);have q:Hid (d++⟨#[58,58]⟩=⟨(cO c F s (i+1)).toArray⟩):=(by show _=_;rw[t,Q,g];exact aP _ [58,58]);have L:(⟨#[58,58]⟩:ByteArray).size=2:=rfl;have N:∀W:World,(Op.stringOp .add d ⟨#[58,58]⟩).run prog W=.ok (.string (d++⟨#[58,58]⟩)) W:=fun W=>bm W _ _ (by omega);clear g t l G v L Q O A;go_wp2;go_roundw
        case rel=>exact⟨i+1,by omega,by go_num,aB Value.string q,u⟩
        case measure=>(simp[intOf];try omega)
       .have c9:((i:Int)==(F:Int))=false:=by rw[aL];omega
        have d2:(F:Int)<=(i:Int):=(by omega);by_cases hC:i<F+s
        .have g:=Jr c F s i (by omega) hC
         have c3:(i:Int)<(F:Int)+(s:Int):=(by omega);have q:Hid (d=⟨(cO c F s (i+1)).toArray⟩):=(by show _=_;rw[t,g]);clear g t l G v Q O A hC;go_wp2;go_roundw
         case rel=>exact⟨i+1,by omega,by go_num,aB Value.string q,u⟩
         case measure=>(simp[intOf];try omega)
        .have g:=Js c F s i (by omega) (by omega) B
         have c3:¬(i:Int)<(F:Int)+(s:Int):=(by omega);have b6:(0:Int)<(i:Int):=(by omega);by_cases hD:i=F+s
         .rw[ae hD] at g
          have d3:((i:Int)==(F:Int)+(s:Int))=true:=(by rw[dM];omega);have q:Hid (d++j=⟨(cO c F s (i+1)).toArray⟩):=(by show _=_;rw[t,l,g];exact aP _ _);have N:∀W:World,(Op.stringOp .add d j).run prog W=.ok (.string (d++j)) W:=fun W=>bm W _ _ (by omega);clear g t l G v Q O hC hD;go_wp2_with fail;refine af A ?_;rintro e T ⟨rfl,z,rfl⟩;have x:=hI (cr u z);clear C;go_wp2;go_roundw
          case rel=>exact⟨i+1,by omega,by go_num,aB Value.string q,x⟩
          case measure=>(simp[intOf];try omega)
         .rw[ab hD] at g
          have b0:Hid _:=g;have e6:((i:Int)==(F:Int)+(s:Int))=false:=(by rw[aL];omega);clear g Q O hC hD;have q:Hid (d++⟨#[58]⟩++j=⟨(cO c F s (i+1)).toArray⟩):=(by show _=_;have U:(⟨(cO c F s i).toArray⟩:ByteArray)++⟨#[58]⟩=⟨(cO c F s i++ [58]).toArray⟩:=aP _ [58];rw[t,l,b0.out,U,aP];simp);have L:(⟨#[58]⟩:ByteArray).size=1:=rfl;have g0:∀W:World,(Op.stringOp .add d ⟨#[58]⟩).run prog W=.ok (.string (d++⟨#[58]⟩)) W:=fun W=>bm W _ _ (by omega);have N:∀W:World,(Op.stringOp .add (d++⟨#[58]⟩) j).run prog W=.ok (.string (d++⟨#[58]⟩++j)) W:=fun W=>bm W _ _ (by grind);clear L;clear t l G v;go_wp2_with fail;refine af A ?_;rintro e T ⟨rfl,z,rfl⟩;have x:=hI (cr u z);clear C;go_wp2;go_roundw
          case rel=>exact⟨i+1,by omega,by go_num,aB Value.string q,x⟩
          case measure=>(simp[intOf];try omega)
     .have a1:i=8:=by omega
      subst a1;have HE:Hid _:=Ju c F s c6 h8 (by omega);clear D;go_wp2;go_ret;rw[HT.out,<-HE.out];exact⟨rfl,b4 _ u⟩
end Go.Proofs
