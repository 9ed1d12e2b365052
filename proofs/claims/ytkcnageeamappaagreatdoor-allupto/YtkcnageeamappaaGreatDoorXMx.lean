import Derived.Test.YtkcnageeamappaaGreatDoorXQ14
set_option maxHeartbeats 32000000
set_option maxRecDepth 8000
set_option linter.unusedSimpArgs false
namespace Go.Proofs
open Go.RowKit Go.Moor Go.Proofs.Tryz Go.Moor
theorem qd (s:ByteArray) (w:World):Calls prog 73 #[.string s] w fun e w'=>e=.returned (.int .i64 (cE s.data.toList).1)/\w'=w:=by
 by_cases f:s.L=oS
 .rw[iv s _ f]
  go_enter func73,ntmps73;go_wp2;go_ret;exact⟨rfl,rfl⟩
 by_cases a:s.L=oU
 .rw[iv s _ a]
  go_enter func73,ntmps73;go_wp2;go_ret;exact⟨rfl,rfl⟩
 by_cases d:s.L=oT
 .rw[iv s _ d]
  go_enter func73,ntmps73;go_wp2;go_ret;exact⟨rfl,rfl⟩
 by_cases b:s.L=oV
 .rw[iv s _ b]
  go_enter func73,ntmps73;go_wp2;go_ret;exact⟨rfl,rfl⟩
 by_cases c:s.L=oW
 .rw[iv s _ c]
  go_enter func73,ntmps73;go_wp2;go_ret;exact⟨rfl,rfl⟩
 have g:Hid ((cE s.L).1= -1):=by show _=_;unfold cE;rw[ab (by simp[f,a]),ab (by simp[d,b]),ab c];split<;>rfl
 have i:(s.toList==[104,116,116,112])=false:=gt s _ f;have h:(s.toList==[119,115])=false:=gt s _ a;have l:(s.toList==[104,116,116,112,115])=false:=gt s _ d;have k:(s.toList==[119,115,115])=false:=gt s _ b;have j:(s.toList==[102,116,112])=false:=gt s _ c;go_enter func73,ntmps73;go_wp2;go_ret;rw[g.out];exact⟨rfl,rfl⟩
theorem Lb (s:Bs) (h:s≠sFile):ao s=decide (0<(cE s).1):=by
 unfold ao cE;split
 .rfl
 .grind
theorem kI (s:ByteArray) (w:World):Calls prog 129 #[.string s] w fun e w'=>e=.returned (.bool (ao s.data.toList))/\w'=w:=by
 by_cases a:s.L=sFile
 .rw[iv s _ a]
  go_enter func129,ntmps129;go_wp2;go_ret;exact⟨rfl,rfl⟩
 .have d:(s.toList==[102,105,108,101])=false:=gt s _ a
  have c:Hid _:=qd s w;have b:=hI (Lb _ a);rw[b.out];generalize(cE s.L).1=p at*;go_enter func129,ntmps129;go_wp21;refine m0 c ?_;go_wp2;go_ret;exact⟨rfl,rfl⟩
theorem zB (c:UInt8) (w:World):Calls prog 174 #[.int .u8 c.toNat] w fun e w'=>e=.returned (.bool (ct c))/\w'=w:=by
 have h:=c.toNat_lt;obtain⟨n,b⟩:=am (c.toNat:Nat);have i:Hid (ct c=((decide (65<=n)&&decide (n<=90))||(decide (97<=n)&&decide (n<=122)))):=hI (by rw[b];rfl);rw[<-b];rw[<-b] at h;clear b;rw[i.out];by_cases o:97<=n
 .have j:(97:Int)<=(n:Int):=by omega
  by_cases k:n<=122
  .have g:(n:Int)<=122:=by omega
   have a:Hid (((decide (65<=n)&&decide (n<=90))||(decide (97<=n)&&decide (n<=122)))=true):=hI (by simp;omega);rw[a.out];go_enter func174,ntmps174;go_wp2;go_ret;exact⟨rfl,rfl⟩
  .have g:¬(n:Int)<=122:=by omega
   have d:(65:Int)<=(n:Int):=(by omega);have f:¬(n:Int)<=90:=(by omega);have a:Hid (((decide (65<=n)&&decide (n<=90))||(decide (97<=n)&&decide (n<=122)))=false):=hI (by simp;omega);rw[a.out];go_enter func174,ntmps174;go_wp2;go_ret;exact⟨rfl,rfl⟩
 .have j:¬(97:Int)<=(n:Int):=by omega
  by_cases m:65<=n
  .have d:(65:Int)<=(n:Int):=by omega
   by_cases l:n<=90
   .have f:(n:Int)<=90:=by omega
    have a:Hid (((decide (65<=n)&&decide (n<=90))||(decide (97<=n)&&decide (n<=122)))=true):=hI (by simp;omega);rw[a.out];go_enter func174,ntmps174;go_wp2;go_ret;exact⟨rfl,rfl⟩
   .have f:¬(n:Int)<=90:=by omega
    have a:Hid (((decide (65<=n)&&decide (n<=90))||(decide (97<=n)&&decide (n<=122)))=false):=hI (by simp;omega);rw[a.out];go_enter func174,ntmps174;go_wp2;go_ret;exact⟨rfl,rfl⟩
  .have d:¬(65:Int)<=(n:Int):=by omega
   have a:Hid (((decide (65<=n)&&decide (n<=90))||(decide (97<=n)&&decide (n<=122)))=false):=hI (by simp;omega);rw[a.out];go_enter func174,ntmps174;go_wp2;go_ret;exact⟨rfl,rfl⟩
def gU (l:Bs):Bs:=l.filter λc=>!it c
theorem zC (s:ByteArray) (w:World) (E:s.size<=35184372088832):Calls prog 75 #[.string s] w fun e w'=>e=.returned (.string ⟨(gU s.data.toList).toArray⟩)/\∃p,w'=w.drewN p:=by
 obtain⟨l,g⟩:=am s.data.toList;have F:l.length=s.size:=by rw[g,bT];rfl
 have A:Hid (∀(k:Nat) (h:k<s.size) (b:k<l.length),l[k]=s[k]):=by intro k h b;subst g;simp;rfl
 have y:=hI fun k h=>ky s k h;rw[<-g];clear g;go_enter func75,ntmps75;go_wp2_with fail;go_loopw [3,4] (fun o i wr=>∃k:Nat,k<=s.size/\i=Iv k/\o=.string ⟨(gU (l.take k)).toArray⟩/\∃p,wr=w.drewN p) (fun _ i _=>s.size-(intOf i).toNat)
 case atStart=>exact⟨0,aR _,rfl,rfl,0,rfl⟩
 case round=>
  obtain⟨k,C,rfl,rfl,(r:Hid _)⟩:=hrel;by_cases v:k<s.size
  .have b:k<l.length:=by omega
   have m:=A k v b;have u:(⟨(gU (l.take k)).toArray⟩:ByteArray).size<=s.size:=(by rw[al];have:=lE (fun c=>!it c) (l.take k);rw[cL] at this;unfold gU;omega);have D:(0:Int)<=(k:Int):=(by omega);have I:=y k v;cases a:it s[k] with
   |false=>
    have n:Hid ((⟨(gU (l.take k)).toArray⟩:ByteArray)++⟨#[s[k]]⟩=⟨(gU (l.take (k+1))).toArray⟩):=by
     show _=_;rw[iz l k b,m];unfold gU;rw[List.filter_append];have:List.filter (fun c=>!it c) [s[k]]=[s[k]]:=by simp[a]
     rw[this];exact aP _ [s[k]]
    have d:¬(s[k].toNat:Int)=9/\¬(s[k].toNat:Int)=10/\¬(s[k].toNat:Int)=13:=(by unfold it at a;simp at a;obtain⟨⟨z,b⟩,d⟩:=a;exact⟨fun h=>z (cU.1 (by grind)),fun h=>b (cU.1 (by grind)),fun h=>d (cU.1 (by grind))⟩);obtain⟨f,j,t⟩:=d;have B:((s[k].toNat:Int) !=9)=true:=(by simpa using f);have G:((s[k].toNat:Int) !=10)=true:=(by simpa using j);have H:((s[k].toNat:Int) !=13)=true:=(by simpa using t);clear f j t;generalize(⟨(gU (l.take k)).toArray⟩:ByteArray)=q at*;have J:∀W:World,(Op.stringOp .add q ⟨#[s[k]]⟩).run prog W=.ok (.string (q++⟨#[s[k]]⟩)) W:=fun W=>bm W _ _ (by show _+1<=_;omega);clear u a m;go_wp2;go_roundw
    case rel=>exact⟨k+1,by omega,by go_num,aB Value.string n,r⟩
    case measure=>grind[intOf]
   |true=>
    have n:Hid ((⟨(gU (l.take k)).toArray⟩:ByteArray)=⟨(gU (l.take (k+1))).toArray⟩):=by
     show _=_;rw[iz l k b,m];unfold gU;rw[List.filter_append];have:List.filter (fun c=>!it c) [s[k]]=[]:=by simp[a]
     rw[this,dl]
    have d:((s[k].toNat:Int) !=9)=false\/(((s[k].toNat:Int) !=9)=true/\((s[k].toNat:Int) !=10)=false)\/(((s[k].toNat:Int) !=9)=true/\((s[k].toNat:Int) !=10)=true/\((s[k].toNat:Int) !=13)=false):=(by unfold it at a;simp at a;rcases a with(h|h)|h<;>rw[h]<;>decide);generalize(⟨(gU (l.take k)).toArray⟩:ByteArray)=q at*;clear u a m;rcases d with f|⟨f,j⟩|⟨f,j,t⟩;all_goals
     go_wp2;go_roundw
     case rel=>exact⟨k+1,by omega,by go_num,aB Value.string n,r⟩
     case measure=>grind[intOf]
  .have x:Hid (l.take k=l):=cg (by omega)
   rw[x.out];go_wp2;go_ret;exact⟨rfl,r⟩
end Go.Proofs
namespace Go.Moor
open Go
def cP:Bs->Option Nat
 | []=>some 0
 |37::50::101::l=>(cP l).map (·+1)
 |37::50::69::l=>(cP l).map (·+1)
 |46::l=>(cP l).map (·+1)
 |_::_=>none
theorem Am (p:Bs) (h:be p=[]):p=[]:=by
 unfold be at h;split at h
 .cases h
 .cases h
 .rfl
theorem qk (c:UInt8) (a:c≠37) (p x:Bs) (h:be p=c::x):∃r,p=c::r/\be r=x:=by
 unfold be at h;split at h
 .grind
 .grind
 .cases h
theorem tI (p x:Bs) (h:be p=37::50::101::x):∃r e,p=37::50::e::r/\(e=101\/e=69)/\be r=x:=by
 unfold be at h;split at h
 .grind
 .grind[qk]
 .cases h
theorem tJ (r:Bs):cP (46::r)=(cP r).map (·+1):=by rw[cP]
theorem ql (e:UInt8) (r:Bs) (h:e=101\/e=69):cP (37::50::e::r)=(cP r).map (·+1):=by grind[cP]
theorem An (p:Bs) (n:Nat) (h:cP p=some (n+1)):∃r,cP r=some n/\((p=46::r)\/∃e,(e=101\/e=69)/\p=37::50::e::r):=by
 unfold cP at h;split at h
 .cases h
 .simp_all
 .simp_all
 .simp_all
 .cases h
theorem Ng (p:Bs) (h:cP p=some 0):p=[]:=by
 unfold cP at h;split at h
 .rfl
 .simp_all
 .simp_all
 .simp_all
 .cases h
theorem Nh (r:Bs):be (46::r)=46::be r:=by rfl
theorem Ao (e:UInt8) (r:Bs) (h:e=101\/e=69):be (37::50::e::r)=37::50::101::be r:=by
 obtain rfl|rfl:=h
 .simp[be]
 .simp[be]
theorem Ap (p:Bs) (h:cP p=some 1):be p=[46]\/be p=[37,50,101]:=by
 obtain⟨r,c,a⟩:=An p 0 h;have:=Ng r c;subst this;rcases a with rfl|⟨e,b,rfl⟩
 .left;rfl
 .right;rw[Ao e _ b];rfl
theorem Ni (p:Bs) (h:cP p=some 2):be p=[46,46]\/be p=[46,37,50,101]\/be p=[37,50,101,46]\/be p=[37,50,101,37,50,101]:=by
 obtain⟨r,b,a⟩:=An p 1 h;have d:=Ap r b;rcases a with rfl|⟨e,c,rfl⟩
 .grind[Nh]
 .grind[Ao]
theorem nW (p:Bs) (h:be p=[46]\/be p=[37,50,101]):cP p=some 1:=by
 obtain h|h:=h
 .obtain⟨r,rfl,a⟩:=qk 46 (by decide) p _ h
  have:=Am r a;subst this;rfl
 .obtain⟨r,e,rfl,b,a⟩:=tI p _ h
  have:=Am r a;subst this;rw[ql e _ b];rfl
theorem Nj (p:Bs) (h:be p=[46,46]\/be p=[46,37,50,101]\/be p=[37,50,101,46]\/be p=[37,50,101,37,50,101]):cP p=some 2:=by
 obtain h|h|h|h:=h
 .grind[qk,tJ,nW]
 .grind[qk,tJ,nW]
 .grind[tI,ql,nW]
 .grind[tI,ql,nW]
theorem Aq (p:Bs):bG p=match cP p with|some m=>(if 2<m then 0 else m)|none=>0:=by
 unfold bG;simp only;by_cases c:be p=[46]\/be p=[37,50,101]
 .simp_all[nW]
 .rw[ab c]
  by_cases b:be p=[46,46]\/be p=[46,37,50,101]\/be p=[37,50,101,46]\/be p=[37,50,101,37,50,101]
  .simp_all[Nj]
  .rw[ab b]
   cases a:cP p with
   |none=>rfl
   |some m=>
    match m,a with
    |0,_=>rfl
    |1,a=>grind[Ap]
    |2,a=>grind[Ni]
    |m+3,_=>rfl
theorem Nk (c:UInt8) (l:Bs) (b:c≠46) (a:∀e r,c=37->l=50::e::r->¬(e=101\/e=69)):cP (c::l)=none:=by
 unfold cP;split
 .grind
 .grind
 .grind
 .grind
 .rfl
theorem Nl (a b:Bs) (h:cw a=true):aS (a++58::b)=a.length+1:=by
 have c:∀x∈a,x≠58:=by intro x d e;unfold cw at h;rw[fx,gI] at h;have:=h.2 x d;rw[e] at this;exact absurd this (by decide)
 unfold aS;rw[hJ 58 b a c];simp only;rw[ae h]
theorem Nm (l:Bs) (h:∀x∈l,ex x=true):aS l=0:=by
 have a:∀x∈l,x≠58:=by intro x b c;have:=h x b;rw[c] at this;exact absurd this (by decide)
 unfold aS;rw[jo 58 l a]
theorem Nn (a b:Bs) (c:UInt8) (k:∀x∈a,ex x=true) (l:a=[]->ct c=false) (o:a≠[]->ex c=false/\c≠58):aS (a++c::b)=0:=by
 rcases jR 58 (a++c::b) with i|⟨n,r,j,i⟩
 .grind[aS,jo]
 .rw[j]
  have e:aS (n++58::r)=if cw n=true then n.length+1 else 0:=by unfold aS;rw[hJ 58 r n i]
  rw[e,ab];intro h;unfold cw at h;rw[fx,gI] at h;obtain⟨g,m⟩:=h;obtain⟨t,f,d⟩|⟨t,f,d⟩:=List.append_eq_append_iff.1 j
  .
   cases t with
   |nil=>
    rw[gn] at d;injection d with d _;rw[dl] at f;subst f;cases n with
    |nil=>cases g
    |cons x y=>grind
   |cons x y=>
    injection d with d _;subst d;cases a with
    |nil=>rw[f] at g;have:ct c=true:=g;rw[l rfl] at this;cases this
    |cons u v=>grind
  .cases t with
   |nil=>
    rw[gn] at d;injection d with d _;rw[dl] at f;subst f;cases a with
    |nil=>cases g
    |cons x y=>grind
   |cons x y=>injection d with d _;subst d;have:=k 58 (by rw[f];simp);exact absurd this (by decide)
theorem No (m:Nat) (c:UInt8):cf m [c]=m*10+(c.toNat- 48):=by rfl
theorem Np (l:Bs) (n:Nat) (c:UInt8):cf n (l++ [c])=cf n l*10+(c.toNat- 48):=by rw[wg];generalize cf n l=m;exact No m c
def jX (n:Nat):Nat:=if 65535<n then 65536 else n
theorem Nq (m d:Nat):jX (10*jX m+d)=jX (m*10+d):=by grind[jX]
end Go.Moor
namespace Go.Proofs
open Go.RowKit Go.Moor Go.Proofs.Tryz Go.Moor
theorem ME (a b:UInt8):∃s:ByteArray,s=⟨[a,b].toArray⟩/\∃h:s.size=2,(s[0]'(by omega)).toNat=a.toNat/\(s[1]'(by omega)).toNat=b.toNat:=⟨_,rfl,rfl,rfl,rfl⟩
theorem ja (l:Bs) (w:World):Calls prog 223 #[.string ⟨l.toArray⟩] w fun e w'=>e=.returned (.bool (aC l))/\w'=w:=by
  by_cases h2:l.length=2
  . obtain ⟨a, b, rfl⟩ : ∃ a b, l = [a, b] := by
      match l,h2 with
      | [a,b],_=>simp
    clear h2;obtain⟨s,hs,hsz,ha,hb⟩:=ME a b;rw[<-hs];clear hs;have h0:0<s.size:=(by omega);have h1:1<s.size:=(by omega);have HE:Hid (aC [a,b]=(((decide ((65:Int)<=((s[0]'h0).toNat:Int))&&decide (((s[0]'h0).toNat:Int)<=90))||(decide ((97:Int)<=((s[0]'h0).toNat:Int))&&decide (((s[0]'h0).toNat:Int)<=122)))&&((((s[1]'h1).toNat:Int)==58)||(((s[1]'h1).toNat:Int)==124)))):=by
      show(ct a&&(b==58||b==124))=_;rw[ha,hb];have e1:∀k:Nat,k<256->(b==UInt8.ofNat k)=((b.toNat:Int)==(k:Int)):=by intro k hk;rw[ki,dM,dM,<-cU];rw[PQ hk];omega
      have e58:=e1 58 (by decide);have e124:=e1 124 (by decide);have f58:(b==58)=((b.toNat:Int)==58):=e58;have f124:(b==124)=((b.toNat:Int)==124):=e124;rw[f58,f124];unfold ct;congr 1;congr 1
      .grind
      .grind
    rw[HE.out];clear ha hb HE;generalize hx:(s[0]'h0).toNat=n at*;generalize hy:(s[1]'h1).toNat=c at*;by_cases g1:(97:Int)<=(n:Int);all_goals by_cases g2:(n:Int)<=122
    all_goals by_cases g3:(65:Int)<=(n:Int)
    all_goals by_cases g4:(n:Int)<=90
    all_goals first
      |(exfalso;omega)
      | (cases g5 : ((c : Int) == 58)
         all_goals cases g6:((c:Int)==124)
         all_goals first
          |(exfalso;simp at g5 g6;omega)
          | (go_enter func223, ntmps223
             go_wp2;go_ret;simp[*]))
  . have HE := hI (nh l h2)
    have hsz:=al l;have e2:((l.length:Int)==2)=false:=aL.2 (by omega);go_enter func223,ntmps223;go_wp2;go_ret;rw[HE.out];exact⟨rfl,rfl⟩
theorem dt (b:UInt8) (k:Nat) (a:k<256):(b=UInt8.ofNat k)↔(b.toNat:Int)=(k:Int):=by grind[UInt8.toNat_inj,UInt8.toNat_ofNat_of_lt']
theorem nV (l:Bs) (k:Nat) (h:k<l.length):l.drop k=l[k]::l.drop (k+1):=ch h
theorem mw (l:Bs) (w:World) (Y:l.length<=35184372088832):Calls prog 222 #[.string ⟨l.toArray⟩] w fun e w'=>e=.returned (.int .i64 (bG l))/\w'=w:=by
 obtain⟨s,z⟩:∃s:ByteArray,s=⟨l.toArray⟩:=⟨_,rfl⟩;have Z:l.length=s.size:=by rw[z,al]
 have b:Hid (∀(k:Nat) (h:k<s.size) (j:k<l.length),l[k]=s[k]):=by intro k h j;subst z;rfl
 rw[<-z];clear z;suffices S:∀d:Int,Hid (cP l=none->d=0)->Hid (∀m,cP l=some m->d=if 2<m then 0 else(m:Int))->Calls prog 222 #[.string s] w fun e w'=>e=.returned (Iv d)/\w'=w by
  refine S _ (fun h=>?_) (fun m h=>?_)
  .rw[Aq,h];rfl
  .grind[Aq]
 intro d G B;go_enter func222,ntmps222;go_wp2_with fail;go_loopw [3,4] (fun n i wr=>∃k m:Nat,k<=s.size/\m<=k/\i=Iv (k:Nat)/\n=Iv (m:Nat)/\cP l=(cP (l.drop k)).map (·+m)/\wr=w) (fun _ i _=>s.size-(intOf i).toNat)
 case atStart=>exact⟨0,0,aR _,.refl,rfl,rfl,by simp,rfl⟩
 case round=>
  obtain⟨k,m,X,W,rfl,rfl,J,Q⟩:=hrel;subst Q;have f:=hI J;clear J;by_cases C:k<s.size
  .have j:k<l.length:=by omega
   have t:=b k C j;have p:=nV l k j;by_cases c:(s[k].toNat:Int)=37/\∃(g:k+2<s.size),(s[k+1].toNat:Int)=50/\((s[k+2].toNat:Int)=101\/(s[k+2].toNat:Int)=69)
   .obtain⟨o,g,q,a⟩:=c
    have u:Hid (cP l=(cP (l.drop (k+3))).map (·+(m+1))):=by
     show _=_;rw[f.out,p,nV l (k+1) (by omega),nV l (k+1+1) (by omega)];rw[b.out k C j,b.out (k+1) (by omega) (by omega),b.out (k+1+1) (by omega) (by omega)];rw[(dt s[k] 37 (by decide)).2 o,(dt s[k+1] 50 (by decide)).2 q];have U:s[k+1+1]=101\/s[k+1+1]=69:=by
      obtain a|a:=a
      .left;exact(dt s[k+2] 101 (by decide)).2 a
      .right;exact(dt s[k+2] 69 (by decide)).2 a
     have:=ql s[k+1+1] (l.drop (k+1+1+1)) U;rw[show((UInt8.ofNat 37::UInt8.ofNat 50::s[k+1+1]::l.drop (k+1+1+1)):Bs)=37::50::s[k+1+1]::l.drop (k+1+1+1) from rfl,this];cases cP (l.drop (k+1+1+1)) with
     |none=>rfl
     |some x=>simp;omega
    have L:(k:Int)+2<(s.size:Int):=(by omega);have P:(k:Int)+1<(s.size:Int):=(by omega);clear b p t f;obtain a|a:=a
    .go_wp2
     go_roundw
     case rel=>exact⟨k+3,m+1,by omega,by omega,by go_num,by go_num,u,trivial⟩
     case measure=>grind[intOf]
    .go_wp2
     go_roundw
     case rel=>exact⟨k+3,m+1,by omega,by omega,by go_num,by go_num,u,trivial⟩
     case measure=>grind[intOf]
   .by_cases v:(s[k].toNat:Int)=46
    .have u:Hid (cP l=(cP (l.drop (k+1))).map (·+(m+1))):=by
      show _=_;rw[f.out,p,b.out k C j,(dt s[k] 46 (by decide)).2 v];rw[show((UInt8.ofNat 46::l.drop (k+1)):Bs)=46::l.drop (k+1) from rfl,tJ];cases cP (l.drop (k+1)) with
      |none=>rfl
      |some x=>simp;omega
     clear b p t f c;go_wp2;go_roundw
     case rel=>exact⟨k+1,m+1,by omega,by omega,by go_num,by go_num,u,trivial⟩
     case measure=>grind[intOf]
    .have A:Hid (d=0):=by
      refine G ?_;rw[f.out,p];rw[Nk]
      .rfl
      .intro h
       rw[t] at h;exact v ((dt s[k] 46 (by decide)).1 h)
      .intro e r g F D
       have H:=aB List.length F;rw[cm] at H;have V:l.length-(k+1)=r.length+2:=H;have N:k+1<l.length:=(by omega);have M:k+2<l.length:=(by omega);rw[nV l (k+1) N,nV l (k+1+1) M] at F;injection F with h6 h7;injection h7 with h7 _;refine c ⟨?_,by omega,?_,?_⟩
       .rw[t] at g;exact(dt s[k] 37 (by decide)).1 g
       .rw[b.out (k+1) (by omega) N] at h6;exact(dt s[k+1] 50 (by decide)).1 h6
       .have R:=h7
        rw[b.out (k+2) (by omega) M] at R;obtain D|D:=D
        .simp_all
        .simp_all
     have a0:((s[k].toNat:Int) !=46)=true:=(by simpa using v);clear b p t f v G B;by_cases o:(s[k].toNat:Int)=37
     .by_cases g:k+2<s.size
      .have L:(k:Int)+2<(s.size:Int):=by omega
       have P:(k:Int)+1<(s.size:Int):=(by omega);by_cases q:(s[k+1].toNat:Int)=50
       .have a:¬(s[k+2].toNat:Int)=101/\¬(s[k+2].toNat:Int)=69:=⟨fun h=>c ⟨o,g,q,.inl h⟩,fun h=>c ⟨o,g,q,.inr h⟩⟩
        obtain⟨a,I⟩:=a;have O:((s[k+2].toNat:Int)==101)=false:=(by simpa using a);have p6:((s[k+2].toNat:Int)==69)=false:=(by simpa using I);clear c a I;go_wp2;go_ret;rw[A.out];exact⟨rfl,rfl⟩
       .have O:((s[k+1].toNat:Int)==50)=false:=by simpa using q
        clear c q;go_wp2;go_ret;rw[A.out];exact⟨rfl,rfl⟩
      .have L:¬(k:Int)+2<(s.size:Int):=by omega
       clear c;go_wp2;go_ret;rw[A.out];exact⟨rfl,rfl⟩
     .have O:((s[k].toNat:Int)==37)=false:=by simpa using o
      clear c o;go_wp2;go_ret;rw[A.out];exact⟨rfl,rfl⟩
  .have y:Hid (d=if 2<m then 0 else(m:Int)):=by
    refine B m ?_;rw[f.out,im (by omega)];show(some 0).map _=_;simp
   clear f G B b;by_cases K:2<m
   .have E:Hid (d=0):=hI (by rw[y.out,ae K])
    have T:(2:Int)<(m:Int):=(by omega);clear y;go_wp2;go_ret;rw[E.out];exact⟨rfl,rfl⟩
   .have E:Hid (d=(m:Int)):=hI (by rw[y.out,ab K])
    have T:¬(2:Int)<(m:Int):=(by omega);clear y;go_wp2;go_ret;rw[E.out];exact⟨rfl,rfl⟩
end Go.Proofs
namespace Go.Moor
open Go
def gV (base:Option Adr):Nat:=match base with|some b=>b.w.g.length|none=>0
def ig (base:Option Adr) (st:Nat):Nat:=if st=6 then 1 else if st=11\/st=12\/st=13 then 0 else 2+gV base
def jb (base:Option Adr) (c:Mc):Nat:=c.u.w.g.length+c.r.length+ig base c.st
structure Inv (base:Option Adr) (K:Nat) (c:Mc):Prop where
 early:(c.st=14\/c.st=15\/c.st=1\/c.st=2\/c.st=3\/c.st=4)->c.u.t.e=[]/\c.u.t.d=[]
 w:c.st≠11->c.st≠12->c.st≠13->c.u.w.o=false
 near:c.st=1\/c.st=2->∃b,base=some b/\b.w.o=false
 light:jb base c<=K
 known:1<=c.st/\c.st<=15
variable {base : Option Adr} {K : Nat}
theorem Ax (c:Mc) (a:c.st=11\/c.st=12\/c.st=13) (d:c.u.w.g.length+c.r.length<=K):Inv base K c:=by refine⟨λh=>by omega,λf b e=>by omega,λh=>by omega,?_,by omega⟩;unfold jb ig;rw[ab (by omega),ae a];omega
theorem my (c:Mc) (a:c.u.w.g.length+c.r.length<=K):Inv base K (bw c):=by grind[Ax,bw]
theorem jB (c:Mc) (a:c.st=6) (b:c.u.w.o=false) (d:c.u.w.g.length+c.r.length+1<=K):Inv base K c:=by refine⟨λh=>by omega,λ_ _ _=>b,λh=>by omega,?_,by omega⟩;unfold jb ig;rw[ae a];omega
theorem kM (c:Mc) (b:c.st=5\/c.st=7\/c.st=8\/c.st=9\/c.st=10) (a:c.u.w.o=false) (d:c.u.w.g.length+c.r.length+(2+gV base)<=K):Inv base K c:=by refine⟨λh=>by omega,λ_ _ _=>a,λh=>by omega,?_,by omega⟩;unfold jb ig;rw[ab (by omega),ab (by omega)];omega
theorem mz (c:Mc) (d:c.st=3\/c.st=4\/c.st=14\/c.st=15) (a:c.u.t.e=[]/\c.u.t.d=[]) (b:c.u.w.o=false) (e:c.u.w.g.length+c.r.length+(2+gV base)<=K):Inv base K c:=by refine⟨λ_=>a,λ_ _ _=>b,λh=>by omega,?_,by omega⟩;unfold jb ig;rw[ab (by omega),ab (by omega)];omega
theorem tL (c:Mc) (f:c.st=1\/c.st=2) (d:c.u.t.e=[]/\c.u.t.d=[]) (e:c.u.w.o=false) (a:∃b,base=some b/\b.w.o=false) (g:c.u.w.g.length+c.r.length+(2+gV base)<=K):Inv base K c:=by refine⟨λ_=>d,λ_ _ _=>e,λ_=>a,?_,by omega⟩;unfold jb ig;rw[ab (by omega),ab (by omega)];omega
theorem kN (s:Bs) (l:List Bs):(aI s l).length<=l.length:=by
 unfold aI;split
 .omega
 .simp
theorem Ay (s:Bs) (l:List Bs) (p:Bs) (m:Bool):(bW s l p m).length<=l.length+1:=by grind[bW,kN]
theorem Az (b:Adr) (a:base=some b) (c:Mc) (d:c.u.w.g.length+c.r.length+(2+gV base)<=K):Inv base K (eq b c):=by grind[gV,eq,my,jB,kN]
theorem mB (p:UInt8->Bool) (l:Bs):(l.dropWhile p).length<=l.length:=(mJ _).length_le
section
variable (H : Bs → Bool → Option Bs)
theorem AA (z:∀b,base=some b->ao b.s=true->b.w.o=false) (c:Mc) (h:Inv base K c):Inv base K (ap H base c):=by
 have k:=h.light;have j:c.st≠6->c.st≠11->c.st≠12->c.st≠13->c.u.w.g.length+c.r.length+(2+gV base)<=K:=by intro r w A C;unfold jb ig at k;rw[ab r,ab (by omega)] at k;omega
 have y:∀b,dA base=some b->base=some b:=by
  intro b n;unfold dA at n;cases base with
  |none=>cases n
  |some x=>grind
 by_cases d:c.st=14
 .have f:ap H base c=gi base c:=by simp[ap,d]
  rw[f];have g:=j (by omega) (by omega) (by omega) (by omega);have i:=h.w (by omega) (by omega) (by omega);have m:=h.early (by omega);have u:base=none\/∃b,base=some b:=by cases base<;>simp
  have s:∀e,Inv base K {c with err:=e}:=λe=>⟨λ_=>m,λ_ _ _=>i,λp=>by grind,k,h.known⟩;rcases u with v|⟨b,l⟩
  .grind[gi]
  .subst l
   unfold gi;simp only;split
   .exact s 3
   .split
    .grind[my,gV]
    .rename_i o
     by_cases n:b.s=sFile
     .simp_all[kM]
     .simp_all[tL]
 by_cases d:c.st=15
 .have f:ap H base c=gj c:=by simp[ap,d]
  rw[f];have g:=j (by omega) (by omega) (by omega) (by omega);have i:=h.w (by omega) (by omega) (by omega);have m:=h.early (by omega);unfold gj;split
  .grind[mz,kM]
  .grind[kM]
 by_cases d:c.st=1
 .have g:=j (by omega) (by omega) (by omega) (by omega)
  have i:=h.w (by omega) (by omega) (by omega);have m:=h.early (by omega);obtain⟨b,l,o⟩:=h.near (by omega);subst l;have f:ap H (some b) c=ib b c:=by simp[ap,d]
  rw[f];unfold ib;split
  .exact tL _ (.inr rfl) m i ⟨b,rfl,o⟩ (by grind)
  .grind[Az]
 by_cases d:c.st=2
 .have g:=j (by omega) (by omega) (by omega) (by omega)
  have i:=h.w (by omega) (by omega) (by omega);have m:=h.early (by omega);obtain⟨b,l,o⟩:=h.near (by omega);subst l;have f:ap H (some b) c=fZ b c:=by simp[ap,d]
  rw[f];unfold fZ;split
  .grind[mz]
  .grind[jB]
 by_cases d:c.st=3
 .have f:ap H base c=jt c:=by simp[ap,d]
  rw[f];have g:=j (by omega) (by omega) (by omega) (by omega);have:=mB (ak c.u.s) c.r;exact mz _ (.inr (.inl rfl)) (h.early (by omega)) (h.w (by omega) (by omega) (by omega)) (by grind[jt])
 by_cases d:c.st=4
 .have f:ap H base c=gB H c:=by simp[ap,d]
  rw[f];have g:=j (by omega) (by omega) (by omega) (by omega);have i:=h.w (by omega) (by omega) (by omega);unfold gB;split
  .exact⟨λ_=>h.early (by omega),λ_ _ _=>i,λp=>by grind,k,h.known⟩
  .grind[mB,kM,ca]
 by_cases d:c.st=5
 .have f:ap H base c=eQ c:=by simp[ap,d]
  rw[f];have g:=j (by omega) (by omega) (by omega) (by omega);have i:=h.w (by omega) (by omega) (by omega);unfold eQ;split
  .grind[jB]
  .grind[my,jB]
 by_cases d:c.st=6
 .have f:ap H base c=bX c:=by simp[ap,d]
  rw[f];have g:c.u.w.g.length+c.r.length+1<=K:=by unfold jb ig at k;rw[ae d] at k;omega
  unfold bX;simp only;have t:=mB (λb=>!fY c.u.s b) c.r;split
  .rename_i q
   have v:=Ay c.u.s c.u.w.g (bV c.u.s c.r) (ax (ak c.u.s) (ca c.u.s c.r));have D:0<(ca c.u.s c.r).length:=by
    cases p:ca c.u.s c.r with
    |nil=>rw[p] at q;cases q
    |cons a b=>simp
   refine jB _ d rfl ?_;simp only[cm];have B:(ca c.u.s c.r).length<=c.r.length:=t;omega
  .grind[Ay,ca,my]
 by_cases d:c.st=7
 .have f:ap H base c=iA c:=by simp[ap,d]
  rw[f];have g:=j (by omega) (by omega) (by omega) (by omega);have:=mB (λb=>!cY b) c.r;unfold iA;refine my _ ?_;simp only[gK];omega
 by_cases d:c.st=8
 .have f:ap H base c=fq base c:=by simp[ap,d]
  rw[f];have g:=j (by omega) (by omega) (by omega) (by omega);have i:=h.w (by omega) (by omega) (by omega);unfold fq;simp only;split
  .grind[kM]
  .cases n:dA base with
   |none=>grind[jB]
   |some b=>grind[jB,Az]
 by_cases d:c.st=9
 .have f:ap H base c=dJ base c:=by simp[ap,d]
  rw[f];have g:=j (by omega) (by omega) (by omega) (by omega);have i:=h.w (by omega) (by omega) (by omega);unfold dJ;simp only;split
  .grind[kM]
  .cases n:dA base with
   |none=>grind[jB]
   |some b=>grind[jB,cN]
 by_cases d:c.st=10
 .have f:ap H base c=gC H c:=by simp[ap,d]
  rw[f];have g:=j (by omega) (by omega) (by omega) (by omega);have i:=h.w (by omega) (by omega) (by omega);unfold gC;simp only;split
  .grind[jB]
  .grind[mB,kM,ca]
 by_cases d:c.st=11
 .have f:ap H base c=ju c:=by simp[ap,d]
  rw[f];have g:c.u.w.g.length+c.r.length<=K:=by unfold jb ig at k;omega
  have:=mB (λb=>decide (b≠35)) c.r;unfold ju;refine my _ ?_;simp only;omega
 by_cases d:c.st=12
 .simp_all[ap,lo,jb,ig,Ax]
 have f : ap H base c = c := by simp [ap, *]
 rw[f];exact h
end
end Go.Moor
namespace Go.Proofs
open Go.RowKit Go.Moor Go.Proofs.Tryz Go.Moor
def bD (u:Adr) (pv:Value):Array Value:=#[.string ⟨u.s.toArray⟩,.string ⟨u.t.e.toArray⟩,.string ⟨u.t.d.toArray⟩,.bool u.t.has,.string ⟨u.t.h.toArray⟩,.int .i64 u.t.p,.bool u.w.o,pv,.bool u.q.isSome,.string ⟨(u.q.getD []).toArray⟩,.bool u.f.isSome,.string ⟨(u.f.getD []).toArray⟩]
def jY (j:Nat) (bv:Value) (s:ByteArray) (a st er:Int):Array Value:=#[.pointer (some ⟨j,0,none⟩),bv,.string s,.int .i64 a,.int .i64 st,.int .i64 er]
def Tryz.WayRow (B R:Nat) (w:World) (y:Moor.Way) (pv:Value):Prop:=
 (y.o=false/\w.ownsRow R 9 1 pv y.g.length (aW y.g))\/
 (y.o=true/\∃g cap,pv=.slice (some ⟨g,0,none⟩) 1 cap/\1<=cap/\cap<=maxLen/\w.cell? ⟨g,0,none⟩=some (.string ⟨y.text.toArray⟩)/\g<w.heap.size/\(g<B\/R<=g))
structure Tryz.Mem (B R k j:Nat) (bv:Value) (s:ByteArray) (w0:World) (u:Adr) (pv:Value) (a st er:Int) (w:World):Prop where
 below:Below B w0 w
 K:w.heap[k]?=some (.cells (jY j bv s a st er) 168 (0,0))
 U:w.heap[j]?=some (.cells (bD u pv) 116 (0,0))
 bk:B<=k
 bj:B<=j
 ne:k≠j
 kr:k<R
 jr:j<R
 rz:R<=w.heap.size
 row:Tryz.WayRow B R w u.w pv
theorem Tryz.WayRow.setCell {B R:Nat} {w:World} {y:Moor.Way} {b:Value} (h:WayRow B R w y b) {p:Go.Addr} (n:B<=p.block) (e:p.block<R) (v:Value):WayRow B R (w.setCell p v) y b:=by
 obtain⟨a,m⟩|⟨a,g,j,d,k,f,i,l,c⟩:=h
 .exact .inl ⟨a,qI m e v⟩
 .refine .inr ⟨a,g,j,d,k,f,?_,by simpa using l,c⟩
  rw[<-i];exact iH (Below.heap_setCell w p v g (by omega))
theorem Tryz.WayRow.below {B R:Nat} {w w':World} {y:Moor.Way} {c:Value} (h:WayRow B R w y c) (a:Bl w w'):WayRow B R w' y c:=by
 obtain⟨b,m⟩|⟨b,g,j,e,k,f,i,d,l⟩:=h
 .exact .inl ⟨b,jU m a⟩
 .exact .inr ⟨b,g,j,e,k,f,by rw[<-i];exact a.cell d,cq d a.size,l⟩
section
variable {B R k j : Nat} {bv : Value} {s : ByteArray} {w0 w : World} {u : Adr} {pv : Value} {a st er : Int}
theorem Tryz.Mem.kz (h:Mem B R k j bv s w0 u pv a st er w):k<w.heap.size:=cq h.kr h.rz
theorem Tryz.Mem.jz (h:Mem B R k j bv s w0 u pv a st er w):j<w.heap.size:=cq h.jr h.rz
theorem Tryz.Mem.bz (h:Mem B R k j bv s w0 u pv a st er w):B<=w.heap.size:=bu h.bk (jF h.kz)
theorem Tryz.Mem.off (h:Mem B R k j bv s w0 u pv a st er w) {w':World} (b:Bl w w'):Mem B R k j bv s w0 u pv a st er w':=
 ⟨h.below.trans (b.mono h.bz),(b.block k h.kz).trans h.K,(b.block j h.jz).trans h.U,h.bk,h.bj,h.ne,h.kr,h.jr,bu h.rz b.size,h.row.below b⟩
theorem Tryz.Mem.drewN (h:Mem B R k j bv s w0 u pv a st er w) (n:Nat):Mem B R k j bv s w0 u pv a st er (w.drewN n):=h.off ⟨rfl,rfl,rfl,.refl,λ_ _=>rfl⟩
theorem Tryz.Mem.mset (h:Mem B R k j bv s w0 u pv a st er w) {b c d:Int} (i:Nat) (v:Value) (f:(jY j bv s a st er).setIfInBounds i v=jY j bv s b c d):Mem B R k j bv s w0 u pv b c d (w.setCell ⟨k,i,none⟩ v):=
 ⟨h.below.setCell h.bk v,by rw[<-f];exact aD w k i _ _ v h.K,(fj w (Ad k i) j v (λe=>h.ne e.symm)).trans h.U,h.bk,h.bj,h.ne,h.kr,h.jr,by simpa using h.rz,h.row.setCell h.bk h.kr v⟩
theorem Tryz.Mem.uset (h:Mem B R k j bv s w0 u pv a st er w) {u':Adr} (i:Nat) (v:Value) (b:(bD u pv).setIfInBounds i v=bD u' pv) (c:u'.w=u.w):Mem B R k j bv s w0 u' pv a st er (w.setCell ⟨j,i,none⟩ v):=
 ⟨h.below.setCell h.bj v,(fj w (Ad j i) k v h.ne).trans h.K,by rw[<-b];exact aD w j i _ _ v h.U,h.bk,h.bj,h.ne,h.kr,h.jr,by simpa using h.rz,by rw[c];exact h.row.setCell h.bj h.jr v⟩
theorem Tryz.Mem.set_a (h:Mem B R k j bv s w0 u pv a st er w) (b:Int):Mem B R k j bv s w0 u pv b st er (w.setCell ⟨k,3,none⟩ (.int .i64 b)):=h.mset 3 _ rfl
theorem Tryz.Mem.set_st (h:Mem B R k j bv s w0 u pv a st er w) (b:Int):Mem B R k j bv s w0 u pv a b er (w.setCell ⟨k,4,none⟩ (.int .i64 b)):=h.mset 4 _ rfl
theorem Tryz.Mem.set_er (h:Mem B R k j bv s w0 u pv a st er w) (b:Int):Mem B R k j bv s w0 u pv a st b (w.setCell ⟨k,5,none⟩ (.int .i64 b)):=h.mset 5 _ rfl
end
def bn:Bs->Int
 | []=> -1
 |c::_=>(c.toNat:Nat)
theorem Au (s:ByteArray) (a:Nat) (h:s.size<=a):bn (s.data.toList.drop a)= -1:=by rw[im (by simp_all)];rfl
theorem NA (s:ByteArray) (a:Nat) (h:a<s.size):bn (s.data.toList.drop a)=((s[a].toNat:Nat):Int):=by rw[ch (by simp_all)];rfl
theorem mx (k a:Nat) (s:ByteArray) (w:World) (f:Ce w k 2 (.string s)) (h:Ce w k 3 (.int .i64 (a:Nat))) (g:a<=s.size+1):Calls prog 176 #[.pointer (some ⟨k,0,none⟩)] w fun e w'=>e=.returned (.int .i64 (bn (s.data.toList.drop a)))/\∃n,w'=w.drewN n:=by
 by_cases b:a<s.size
 .rw[NA s a b]
  have c:(a:Int)<(s.size:Int):=by omega
  go_enter func176,ntmps176;go_wp2;go_quiet (fail);go_wp2;go_quiet (fail);go_wp2;go_ret;refine⟨?_,_,mZ ..⟩;show Ending.returned (Iv (wrap64 ((s[a].toNat:Nat):Int)))=_;have d:=s[a].toNat_lt;rw[show wrap64 ((s[a].toNat:Nat):Int)=((s[a].toNat:Nat):Int) from by grind[wrap64]]
 .rw[Au s a (by omega)]
  have c:¬(a:Int)<(s.size:Int):=by omega
  go_enter func176,ntmps176;go_wp2;go_quiet (fail);go_wp2;go_ret;exact⟨rfl,_,rfl⟩
theorem NB (a r:Bs):ax (ak a) r=((bn r==47)||((bn r==92)&&ao a)):=by
 cases r with
 |nil=>rfl
 |cons c r=>
  have b:∀k:Nat,k<256->(c==UInt8.ofNat k)=((c.toNat:Int)==(k:Int)):=by intro k e;rw[ki,dM,dM];exact dt c k e
  show(c==47||(c==92&&ao a))=_;have f:(c==47)=((c.toNat:Int)==47):=b 47 (by decide);have d:(c==92)=((c.toNat:Int)==92):=b 92 (by decide);rw[f,d];rfl
def eu (r:Bs):Bool:=r.isEmpty||ax cY r
theorem NC (r:Bs):eu r=(decide (bn r<0)||(bn r==63)||(bn r==35)):=by
 cases r with
 |nil=>rfl
 |cons c r=>
  have a:∀k:Nat,k<256->(c==UInt8.ofNat k)=((c.toNat:Int)==(k:Int)):=by intro k f;rw[ki,dM,dM];exact dt c k f
  show(false||(c==63||c==35))=_;have b:(c==63)=((c.toNat:Int)==63):=a 63 (by decide);have d:(c==35)=((c.toNat:Int)==35):=a 35 (by decide);rw[b,d];have e:decide (bn (c::r)<0)=false:=ee (by show¬((c.toNat:Int)<0);omega);rw[e];rfl
theorem Av (k j a:Nat) (s:ByteArray) (d:Bs) (w:World) (q:Ce w k 0 (.pointer (some ⟨j,0,none⟩))) (g:Ce w k 2 (.string s)) (l:Ce w k 3 (.int .i64 (a:Nat))) (t:Ce w j 0 (.string ⟨d.toArray⟩)) (i:a<=s.size+1):Calls prog 178 #[.pointer (some ⟨k,0,none⟩)] w fun e w'=>e=.returned (.bool (ax (ak d) (s.data.toList.drop a)))/\∃n,w'=w.drewN n:=by
 have f:Hid _:=mx k a s w g l i;have h:=hI fun b=>kI (Bv d) b;rw[NB];generalize bn (s.L.drop a)=c at*;cases r:(c==47) with
 |true=>go_enter func178,ntmps178;go_wp21;refine mR f ?_;rintro b ⟨n,rfl⟩;go_wp2;go_ret;exact⟨rfl,_,rfl⟩
 |false=>
  cases p:(c==92) with
  |true=>generalize ao d=o at*;go_enter func178,ntmps178;go_wp21;refine mR f ?_;rintro b ⟨n,rfl⟩;go_wp21;refine mR (h _) fun b m=>?_;obtain rfl:=m.symm;go_wp2;go_ret;exact⟨rfl,_,rfl⟩
  |false=>go_enter func178,ntmps178;go_wp21;refine mR f ?_;rintro b ⟨n,rfl⟩;go_wp2;go_ret;exact⟨rfl,_,rfl⟩
theorem Aw (k a:Nat) (s:ByteArray) (w:World) (f:Ce w k 2 (.string s)) (h:Ce w k 3 (.int .i64 (a:Nat))) (g:a<=s.size+1):Calls prog 221 #[.pointer (some ⟨k,0,none⟩)] w fun e w'=>e=.returned (.bool (eu (s.data.toList.drop a)))/\∃n,w'=w.drewN n:=by
 have b:Hid _:=mx k a s w f h g;rw[NC];generalize bn (s.L.drop a)=c at*;cases i:decide (c<0) with
 |true=>go_enter func221,ntmps221;go_wp21;refine mR b ?_;rintro d ⟨n,rfl⟩;go_wp2;go_ret;exact⟨rfl,_,rfl⟩
 |false=>
  cases j:(c==63) with
  |true=>go_enter func221,ntmps221;go_wp21;refine mR b ?_;rintro d ⟨n,rfl⟩;go_wp2;go_ret;exact⟨rfl,_,rfl⟩
  |false=>
   cases l:(c==35) with
   |true=>go_enter func221,ntmps221;go_wp21;refine mR b ?_;rintro d ⟨n,rfl⟩;go_wp2;go_ret;exact⟨rfl,_,rfl⟩
   |false=>go_enter func221,ntmps221;go_wp21;refine mR b ?_;rintro d ⟨n,rfl⟩;go_wp2;go_ret;exact⟨rfl,_,rfl⟩
end Go.Proofs
namespace Go.Proofs
open Go.RowKit Go.Moor Go.Proofs.Tryz
section
variable {B R k j : Nat} {bv : Value} {s : ByteArray} {w0 w : World} {u : Adr} {pv : Value} {a st er : Int}
theorem Tryz.Mem.y0 (h:Tryz.Mem B R k j bv s w0 u pv a st er w):w.cell? ⟨k,0,none⟩=some (.pointer (some ⟨j,0,none⟩)):=aa h.K 0
theorem Tryz.Mem.y1 (h:Tryz.Mem B R k j bv s w0 u pv a st er w):w.cell? ⟨k,1,none⟩=some bv:=aa h.K 1
theorem Tryz.Mem.y2 (h:Tryz.Mem B R k j bv s w0 u pv a st er w):w.cell? ⟨k,2,none⟩=some (.string s):=aa h.K 2
theorem Tryz.Mem.y3 (h:Tryz.Mem B R k j bv s w0 u pv a st er w):w.cell? ⟨k,3,none⟩=some (.int .i64 a):=aa h.K 3
theorem Tryz.Mem.y4 (h:Tryz.Mem B R k j bv s w0 u pv a st er w):w.cell? ⟨k,4,none⟩=some (.int .i64 st):=aa h.K 4
theorem Tryz.Mem.y5 (h:Tryz.Mem B R k j bv s w0 u pv a st er w):w.cell? ⟨k,5,none⟩=some (.int .i64 er):=aa h.K 5
theorem Tryz.Mem.v0 (h:Tryz.Mem B R k j bv s w0 u pv a st er w):w.cell? ⟨j,0,none⟩=some (.string ⟨u.s.toArray⟩):=aa h.U 0
theorem Tryz.Mem.v3 (h:Tryz.Mem B R k j bv s w0 u pv a st er w):w.cell? ⟨j,3,none⟩=some (.bool u.t.has):=aa h.U 3
theorem Tryz.Mem.v4 (h:Tryz.Mem B R k j bv s w0 u pv a st er w):w.cell? ⟨j,4,none⟩=some (.string ⟨u.t.h.toArray⟩):=aa h.U 4
theorem Tryz.Mem.v7 (h:Tryz.Mem B R k j bv s w0 u pv a st er w):w.cell? ⟨j,7,none⟩=some pv:=aa h.U 7
theorem Tryz.Mem.f (h:Tryz.Mem B R k j bv s w0 u pv a st er w) (i:Nat):w.frozen? ⟨k,i,none⟩=false:=aj h.K i
theorem Tryz.Mem.g (h:Tryz.Mem B R k j bv s w0 u pv a st er w) (i:Nat):w.frozen? ⟨j,i,none⟩=false:=aj h.U i
end
end Go.Proofs
