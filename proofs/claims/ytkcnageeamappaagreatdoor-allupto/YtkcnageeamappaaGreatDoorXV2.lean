import Derived.Test.YtkcnageeamappaaGreatDoorXX2
set_option maxHeartbeats 32000000
set_option maxRecDepth 8000
set_option linter.unusedSimpArgs false
namespace Go.Proofs
open Go.RowKit Go.Moor Go.Proofs.Tryz Go.Moor
theorem Pv (t v:Bs) (p:Int) (h:2000<t.length\/2000<v.length):gv hostTell t p v=.error 1:=by
 unfold gv;by_cases a:v.length>2000
 .rw[ae a]
 .simp_all[ny]
theorem Pw (t v:Bs) (p:Int) (w:World) (I:t.length<=maxLen):Calls prog 48 #[.string ⟨t.toArray⟩,.int .i64 p,.string ⟨v.toArray⟩] w fun e w'=>e=jk (gv hostTell t p v)/\Bl w w':=by
 have a5:=al t;have a4:=al v;by_cases J:2000<t.length\/2000<v.length
 .rw[Pv t v p J]
  generalize(⟨t.toArray⟩:ByteArray)=y at*;generalize(⟨v.toArray⟩:ByteArray)=F at*;by_cases h1:2000<t.length;case' pos=>have N:(2000:Int)<(y.size:Int):=by omega
  case' neg=>have Q:(2000:Int)<(F.size:Int):=by omega
  all_goals
   go_enter func48,ntmps48;go_wp2;go_ret2;exact⟨rfl,ai _ _⟩
 .have k:v.length<=2000:=by omega
  have f:=hI fun W=>tG t W I;have V:Hid (∀W,CN 75 #[.string ⟨v.toArray⟩] W (.string ⟨(dG v).toArray⟩)):=fun W=>zC ⟨v.toArray⟩ W (by omega);have O:=hI fun j u a P R Z r x=>Pa j u p (dG v) w a ⟨P,R,Z⟩ x r (bu (rB v) k);have a3:Hid (∀u,da t=.ok u->gv hostTell t p v=jl (dn hostTell u p (dG v))):=fun u h=>we k h;have X:Hid (∀n,da t=.error n->gv hostTell t p v=.error n):=by intro n h;unfold gv;rw[ab (by omega),<-lZ,h]
  have H:Hid (∀j u u' a,Small 20000 4100 u->eJ u->dn hostTell u p (dG v)=.ok u'->UW w j u' a->CB 69 #[Pt j] a (.string ⟨(gf u').toArray⟩)):=by intro j u u' a r x E ⟨_,_,m,q⟩;exact Ai j u' m a q (wR r (bu (rB v) k) E) (Pq u u' p (dG v) x E)
  have N:¬(2000:Int)<((⟨t.toArray⟩:ByteArray).size:Int):=by omega
  have Q:¬(2000:Int)<((⟨v.toArray⟩:ByteArray).size:Int):=by omega
  generalize(⟨t.toArray⟩:ByteArray)=y at*;generalize(⟨v.toArray⟩:ByteArray)=F at*;generalize(⟨(dG v).toArray⟩:ByteArray)=U at*;cases g:da t with
  |error n=>rw[X.out n g];rw[g] at f;go_enter func48,ntmps48;go_wp21;refine af (f _) ?_;rintro e a ⟨c,rfl,o⟩;have a0:=hI c;have T:(n !=0)=true:=(by rw[mY];exact o);clear c;go_wp2;go_ret2;exact⟨rfl,a0⟩
  |ok u=>
   obtain⟨i,s⟩:=am (dn hostTell u p (dG v));rw[a3.out u g,<-s];rw[g] at f;have z:=hI s;clear s;go_enter func48,ntmps48;go_wp21;refine af (f _) ?_;rintro e a ⟨c,j,m,rfl,q,B,D,S⟩;have Y:Hid (∀b,Calls prog 76 #[Pt j,Iv p,.string U] (a.drewN b) fun e w'=>Bf w j i e w'):=fun b=>z▸O j u _ (c.trans ⟨rfl,rfl,rfl,.refl,fun _ _=>rfl⟩) S ⟨m,q.below ⟨rfl,rfl,rfl,.refl,fun _ _=>rfl⟩⟩ B D;have a1:=hI (fun u' a (h:i=.ok u')=>H j u u' a B D (z.out.symm.trans h));go_wp21;refine mR (V _) ?_;rintro w2 ⟨b,rfl⟩;have G:=hI (Y b);generalize a.drewN b=w2 at*;cases i with
   |error n=>go_wp21;refine mR G ?_;rintro A ⟨o,C⟩;have d:=hI C;have T:(n !=0)=true:=(by rw[mY];exact o);clear C;go_wp2;go_ret2;exact⟨rfl,d⟩
   |ok u'=>have L:=hI (fun a=>a1 u' a rfl);go_wp21;refine mR G fun A l=>?_;have d:=hI l.1;have M:=hI (L A l);clear l;go_wp21;refine mR M fun w4 a2=>?_;have K:=hI (d.out.trans (a2.mono d.out.size));go_wp2;go_ret2;exact⟨rfl,K⟩
end Go.Proofs
namespace Go.Moor
open Go
def pairWs:List Int:=[18158685221371772927,17870283327714361345,18446744073709551615,18446744073709551615]
def iW (c:UInt8):Bs:=if c=32 then [43] else dq pairWs c
def aK (l:Bs):Bs:=l.flatMap iW
def p20:Bs:=[37,50,48]
theorem GZ:∀c:Fin 256,fH pairWs c.val=false->c.val≠37/\c.val≠43/\c.val≠38/\c.val≠61/\c.val≠32:=by decide+kernel
theorem xu:∀n:Fin 16,bC n.val≠37/\bC n.val≠43/\bC n.val≠38/\bC n.val≠61/\bC n.val≠32:=by decide+kernel
theorem Ha:∀c:Fin 256,(bC (c.val/16)=50/\bC (c.val%16)=48)->c.val=32:=by decide+kernel
theorem Hb (c:UInt8) (h:fH pairWs c.toNat=false):c≠37/\c≠43/\c≠38/\c≠61/\c≠32:=by have:=GZ ⟨c.toNat,c.toNat_lt⟩ h;refine⟨?_,?_,?_,?_,?_⟩<;>rintro rfl<;>revert this<;>decide
theorem rU (c:UInt8) (l:Bs) (h:c≠37):p20.isPrefixOf (c::l)=false:=by grind[p20]
theorem nG (c:UInt8) (l:Bs) (h:p20.isPrefixOf (c::l)=false):Lib.index (c::l) p20=if Lib.index l p20= -1 then -1 else Lib.index l p20+1:=by simp_all[Lib.index]
theorem xw:∀l:Bs,(Lib.index (aJ pairWs l) p20= -1/\aJ pairWs l=aK l)\/∃a r,l=a++32::r/\Lib.index (aJ pairWs l) p20=(aJ pairWs a).length/\aJ pairWs a=aK a
 | []=>Or.inl ⟨rfl,rfl⟩
 |c::l=>by
  by_cases h:c=32
  .subst h
   refine Or.inr ⟨[],l,rfl,?_,rfl⟩;have e:aJ pairWs (32::l)=37::50::48::aJ pairWs l:=by
    have:dq pairWs 32=[37,50,48]:=by decide+kernel
    show dq pairWs 32++aJ pairWs l=_;rw[this];rfl
   rw[e,Lib.index];simp[p20,List.isPrefixOf,aJ]
  .have u:iW c=dq pairWs c:=by unfold iW;rw[ab h]
   have q:∀x:Bs,Lib.index (dq pairWs c++x) p20=if Lib.index x p20= -1 then -1 else Lib.index x p20+((dq pairWs c).length:Int):=by
    intro x;have k:=c.toNat_lt;unfold dq;cases t:fH pairWs c.toNat with
    |true=>
     simp only[eV,iL,gn,dL,gK];have n:=xu ⟨c.toNat/16,by omega⟩;have p:=xu ⟨c.toNat%16,by omega⟩;have m:p20.isPrefixOf (37::bC (c.toNat/16)::bC (c.toNat%16)::x)=false:=by
      simp only[p20,List.isPrefixOf];cases d:((50:UInt8)==bC (c.toNat/16)&&((48:UInt8)==bC (c.toNat%16)&&true)) with
      |false=>simp
      |true=>simp at d;have:=Ha ⟨c.toNat,k⟩ ⟨d.1.symm,d.2.symm⟩;exact absurd (cU.1 (show c.toNat=(32:UInt8).toNat from this)) h
     rw[nG _ _ m,nG _ _ (rU _ _ n.1),nG _ _ (rU _ _ p.1)];have f:Lib.index x p20= -1\/0<=Lib.index x p20:=by
      have:∀y:Bs,Lib.index y p20= -1\/0<=Lib.index y p20:=by
       intro y;induction y with
       |nil=>left;rfl
       |cons b y g=>
        cases d:p20.isPrefixOf (b::y) with
        |true=>grind[Lib.index]
        |false=>
         rw[nG b y d];rcases g with g|g
         .omega
         .omega
      exact this x
     rcases f with f|f
     .rw[f];rfl
     .omega
    |false=>have o:=Hb c t;simp only[ge,fO,iL,gn,dL,gK];rw[nG _ _ (rU _ _ o.1)];rfl
   have s:aJ pairWs (c::l)=dq pairWs c++aJ pairWs l:=rfl;rcases xw l with⟨j,i⟩|⟨a,r,j,i,v⟩
   .simp_all[aK]
   .refine Or.inr ⟨c::a,r,by rw[j];rfl,?_,?_⟩
    .rw[s,q,ab (by omega),i]
     show _=(((dq pairWs c++aJ pairWs a).length:Nat):Int);rw[cC];omega
    .grind[aJ,aK]
theorem xx (c:List Int) (a b:Bs):aJ c (a++b)=aJ c a++aJ c b:=by simp[aJ]
theorem Hc (a b:Bs):aK (a++b)=aK a++aK b:=by simp[aK]
theorem Hd (a r:Bs):List.take (aJ pairWs a).length (aJ pairWs (a++32::r))=aJ pairWs a/\List.drop ((aJ pairWs a).length+p20.length) (aJ pairWs (a++32::r))=aJ pairWs r:=by
 have e:aJ pairWs (a++32::r)=aJ pairWs a++(p20++aJ pairWs r):=by
  rw[xx];show _++(dq pairWs 32++aJ pairWs r)=_;have:dq pairWs 32=p20:=by decide+kernel
  rw[this]
 refine⟨by grind,?_⟩;rw[e,<-eU,List.drop_left' (by simp)]
theorem He (p:Bs):∀(f:Nat) (x:Bs),Lib.countFrom p f x<=f:=by
 intro f;induction f with
 |zero=>intro x;exact .refl
 |succ f a=>grind[Lib.countFrom]
theorem xy:∀(k:Nat) (l:Bs),(aJ pairWs l).length<k->Lib.replaceK p20 [43] (Lib.countFrom p20 k (aJ pairWs l)) (aJ pairWs l)=aK l
 |0,l,h=>by omega
 |k+1,l,h=>by
  rcases xw l with⟨b,c⟩|⟨a,r,b,c,g⟩
  .rw[Lib.countFrom,b,ae (by rfl)]
   exact c
  .have e:(((aJ pairWs a).length:Int)== -1)=false:=aL.2 (by omega)
   obtain⟨f,d⟩:=Hd a r;rw[<-b] at f d;have i:(aJ pairWs l).length=(aJ pairWs a).length+3+(aJ pairWs r).length:=by
    rw[b,xx];show(aJ pairWs a++(dq pairWs 32++aJ pairWs r)).length=_;have:dq pairWs 32=p20:=by decide+kernel
    rw[this];simp[p20];omega
   rw[Lib.countFrom,c,e];simp only[ge,fO,kV];rw[d,ug 1,Bp p20 [43] _ (aJ pairWs l) (aJ pairWs a).length c,f,d,xy k r (by omega),g,b,Hc];show _=aK a++(iW 32++aK r);simp[iW]
theorem Hf (l:Bs):Lib.replaceAll (aJ pairWs l) p20 [43]=aK l:=by unfold Lib.replaceAll Lib.replace;rw[ab (by decide)];unfold Lib.replaceNum;rw[ae (.inl (by omega))];exact xy ((aJ pairWs l).length+1) l (by omega)
def dH (l:Bs):Bs:=l.map λb=>if b=43 then 32 else b
def fW (l:Bs):Bs:=aQ (dH l)
def dz (p:Bs):Bs×Bs:=(fW (ay 61 p).1,fW ((ay 61 p).2.getD []))
def iy (l:List Bs):List Bs:=l.filter (λp=>!p.isEmpty)
def iX (q:Bs):List (Bs×Bs):=(iy (ar 38 q)).map dz
def piece (f:Bs->Bs) (p:Bs×Bs):Bs:=f p.1++61::f p.2
def gP:List Bs->Bs
 | []=>[]
 | [x]=>x
 |x::y::l=>x++38::gP (y::l)
def eE (l:List (Bs×Bs)):Bs:=gP (l.map (piece aK))
theorem Hg (c:UInt8) (b:Bs):∀a:Bs,(∀x∈a,x≠c)->ay c (a++c::b)=(a,some b):=by
 have e:∀a:Bs,(∀x∈a,x≠c)->aN c (a++c::b)=some (a,b):=by
  intro a;induction a with
  |nil=>simp[aN]
  |cons d a f=>simp_all[aN]
 intro a h;unfold ay;rw[e a h]
end Go.Moor
namespace Go.Proofs
open Go.RowKit Go.Moor Go.Proofs.Tryz Go.Moor
theorem NU (l:List UInt8) (k:Nat) (h:k<l.length):dH (l.take (k+1))=dH (l.take k)++ [if l[k]=43 then 32 else l[k]]:=by grind[iz,dH]
theorem NV (l:List UInt8) (k:Nat):(dH (l.take k)).length<=l.length:=by grind[dH]
theorem NW (s:ByteArray) (w:World) (G:s.size<=2097152):Calls prog 79 #[.string s] w fun e w'=>e=.returned (.string ⟨(fW s.data.toList).toArray⟩)/\Bl w w':=by
 obtain⟨l,c⟩:=am s.data.toList;have B:l.length=s.size:=by rw[c,bT];rfl
 have t:Hid (∀(k:Nat) (h:k<s.size) (b:k<l.length),l[k]=s[k]):=by intro k h b;subst c;simp;rfl
 rw[<-c];have z:Hid (∀W,CB 42 #[.string ⟨(dH l).toArray⟩] W (.string ⟨(fW l).toArray⟩)):=fun W=>sq ⟨(dH l).toArray⟩ W (by grind[al,dH]);clear c;go_enter func79,ntmps79;go_wp2_with fail;go_loopw [3,4] (fun o i wr=>∃k:Nat,k<=s.size/\i=Iv k/\o=.string ⟨(dH (l.take k)).toArray⟩/\Bl w wr) (fun _ i _=>s.size-(intOf i).toNat)
 case atStart=>exact⟨0,aR _,rfl,rfl,ai _ _⟩
 case round=>
  obtain⟨k,F,rfl,rfl,(f:Hid _)⟩:=hrel;by_cases q:k<s.size
  .have b:k<l.length:=by omega
   have u:=t k q b;have m:Hid (dH (l.take (k+1))=dH (l.take k)++ [if s[k]=43 then 32 else s[k]]):=hI (by rw[NU l k b,u]);have x:(⟨(dH (l.take k)).toArray⟩:ByteArray).size<=s.size:=(by rw[al,<-B];exact NV l k);have p:=ky s k q;have A:(s.extract k (k+1)).size=1:=(by rw[p];rfl);have g:Hid (s[k]=43->(⟨(dH (l.take k)).toArray⟩:ByteArray)++⟨#[32]⟩=⟨(dH (l.take (k+1))).toArray⟩):=(by intro h;rw[m.out,ae h];exact aP _ [32]);have n:Hid (¬s[k]=43->(⟨(dH (l.take k)).toArray⟩:ByteArray)++s.extract k (k+1)=⟨(dH (l.take (k+1))).toArray⟩):=(by intro h;rw[m.out,p,ab h];exact aP _ [s[k]]);generalize(⟨(dH (l.take k)).toArray⟩:ByteArray)=d at*;have H:∀W:World,(Op.stringOp .add d ⟨#[32]⟩).run prog W=.ok (.string (d++⟨#[32]⟩)) W:=fun W=>bm W _ _ (by show _+1<=_;omega);have E:∀W:World,(Op.stringOp .add d (s.extract k (k+1))).run prog W=.ok (.string (d++s.extract k (k+1))) W:=fun W=>bm W _ _ (by omega);clear u x A t m p;have I:(0:Int)<=(k:Int):=(by omega);have D:(k:Int)<(s.size:Int):=(by omega);by_cases a:s[k]=43
   .have j:Hid _:=g a
    have y:((s[k].toNat:Int)==43)=true:=(by rw[a];rfl);clear g n a;go_wp2;go_roundw
    case rel=>exact⟨k+1,by omega,by go_num,aB Value.string j,f⟩
    case measure=>grind[intOf]
   .have j:Hid _:=n a
    have y:((s[k].toNat:Int)==43)=false:=(by rw[aL];intro h;exact a (cU.1 (by grind)));clear g n a;go_wp2;go_roundw
    case rel=>exact⟨k+1,by omega,by go_num,aB Value.string j,f⟩
    case measure=>grind[intOf]
  .have v:Hid (l.take k=l):=cg (by omega)
   rw[v.out];go_wp2_with fail;refine mR (z _) fun J r=>?_;have C:=hI (f.out.trans (r.mono f.out.size));clear r;go_wp2;go_ret;exact⟨rfl,C⟩
theorem NX:∀c:Fin 256,fH pairWs c.val= !(ct c.val.toUInt8||refDigit c.val.toUInt8|| [42,45,46,95].contains c.val.toUInt8):=by decide+kernel
theorem AN (c:UInt8):iW c=if c=32 then [43] else if(ct c||refDigit c|| [42,45,46,95].contains c)=true then [c] else [37,bC (c.toNat/16),bC (c.toNat%16)]:=by have h:=NX ⟨c.toNat,c.toNat_lt⟩;simp only at h;rw[show c.toNat.toUInt8=c by simp] at h;unfold iW dq;rw[h];cases(ct c||refDigit c|| [42,45,46,95].contains c)<;>rfl
theorem NY (l:List UInt8) (k:Nat) (h:k<l.length):aK (l.take (k+1))=aK (l.take k)++iW l[k]:=by grind[iz,aK]
theorem nY (l:List UInt8):(aK l).length<=3*l.length:=by
 induction l with
 |nil=>simp[aK]
 |cons c l a=>grind[AN,aK]
theorem NZ (s:ByteArray) (w:World) (hs:s.size<=2097152):Calls prog 136 #[.string s] w fun e w'=>e=.returned (.string ⟨(aK s.data.toList).toArray⟩)/\Bl w w':=by
 obtain⟨l,v⟩:=am s.data.toList;have a2:l.length=s.size:=by rw[v,bT];rfl
 have P:Hid (∀(k:Nat) (h:k<s.size) (p:k<l.length),l[k]=s[k]):=by intro k h p;subst v;simp;rfl
 rw[<-v];have J:=hI fun c W=>zB c W;have K:=hI fun c W=>nI c W;have S:=hI fun c W=>yd c W;have E:Hid _:=fun(c:UInt8) W=>kv ⟨#[42,45,46,95]⟩ c W (by decide);have L:Hid (∀k,(aK (l.take k)).length<=3*s.size):=by
  intro k;have h1:=nY (l.take k);have p:(l.take k).length<=l.length:=by rw[cL];omega
  omega
 clear v;go_enter func136,ntmps136;go_wp2_with fail;go_loopw [3,4] (fun o i wr=>∃k:Nat,k<=s.size/\i=Iv k/\o=.string ⟨(aK (l.take k)).toArray⟩/\Bl w wr) (fun _ i _=>s.size-(intOf i).toNat)
 case atStart=>exact⟨0,aR _,rfl,rfl,ai _ _⟩
 case round=>
  obtain⟨k,hk,rfl,rfl,(j:Hid _)⟩:=hrel;by_cases I:k<s.size
  .have p:k<l.length:=by omega
   have T:=P k I p;have D:Hid (aK (l.take (k+1))=aK (l.take k)++iW s[k]):=hI (by rw[NY l k p,T]);have a0:=L k;have V:(⟨(aK (l.take k)).toArray⟩:ByteArray).size=(aK (l.take k)).length:=al _;have B:=ky s k I;have zx:(s.extract k (k+1)).size=1:=(by rw[B];rfl);have r:Hid (∀x,iW s[k]=x->(⟨(aK (l.take k)).toArray⟩:ByteArray)++⟨x.toArray⟩=⟨(aK (l.take (k+1))).toArray⟩):=(by rintro x rfl;rw[D.out];exact aP _ _);have A:=hI B;have q:Hid _:=AN s[k];have C:=J s[k] wr;have G:=K s[k] wr;have F:=E s[k] wr;have N:=S s[k] wr;have M:=hI C;have Q:=hI G;have y:=hI F;have Y:=hI N;have O:(⟨#[37,bC (s[k].toNat/16),bC (s[k].toNat%16)]⟩:ByteArray).size=3:=rfl;generalize(⟨(aK (l.take k)).toArray⟩:ByteArray)=d at*;have g1:∀W:World,(Op.stringOp .add d ⟨#[43]⟩).run prog W=.ok (.string (d++⟨#[43]⟩)) W:=fun W=>bm W _ _ (by show _+1<=_;omega);have g2:∀W:World,(Op.stringOp .add d (s.extract k (k+1))).run prog W=.ok (.string (d++s.extract k (k+1))) W:=fun W=>bm W _ _ (by omega);have g3:∀W:World,(Op.stringOp .add d ⟨#[37,bC (s[k].toNat/16),bC (s[k].toNat%16)]⟩).run prog W=.ok (.string (d++⟨#[37,bC (s[k].toNat/16),bC (s[k].toNat%16)]⟩)) W:=fun W=>bm W _ _ (by rw[O];omega);clear T V zx P D B a0 L O C G F N J K E S;have a3:(0:Int)<=(k:Int):=(by omega);have a1:(k:Int)<(s.size:Int):=(by omega);go_wp2_with fail;refine mR M fun H t=>?_;obtain rfl:=t.symm;go_wp2_with fail;refine mR Q fun H t=>?_;obtain rfl:=t.symm;clear M Q;by_cases f:s[k]=32
   .have a:Hid _:=r [43] (by rw[q.out,ae f])
    have Z:((s[k].toNat:Int)==32)=true:=(by rw[f];rfl);clear r q A f;go_wp2;go_roundw
    case rel=>exact⟨k+1,by omega,by go_num,aB Value.string a,j⟩
    case measure=>(simp[intOf];try omega)
   .have Z:((s[k].toNat:Int)==32)=false:=by
     rw[aL];intro h;exact f (cU.1 (by show _=32;omega))
    have g:Hid ((ct s[k]||refDigit s[k]|| [42,45,46,95].contains s[k])=true->d++s.extract k (k+1)=⟨(aK (l.take (k+1))).toArray⟩):=(by intro h;rw[A.out];exact r _ (by rw[q.out,ab f,ae h]));have u:Hid ((ct s[k]||refDigit s[k]|| [42,45,46,95].contains s[k])=false->d++⟨#[37,bC (s[k].toNat/16),bC (s[k].toNat%16)]⟩=⟨(aK (l.take (k+1))).toArray⟩):=(by intro h;exact r _ (by rw[q.out,ab f,ab (by rw[h];decide)]));clear r q A f;cases b:ct s[k] with
    |true=>
     have a:Hid _:=g (by rw[b];rfl);clear g u b;go_wp2;go_roundw
     case rel=>exact⟨k+1,by omega,by go_num,aB Value.string a,j⟩
     case measure=>(simp[intOf];try omega)
    |false=>
     cases m:refDigit s[k] with
     |true=>
      have a:Hid _:=g (by rw[b,m];rfl);clear g u b m;go_wp2;go_roundw
      case rel=>exact⟨k+1,by omega,by go_num,aB Value.string a,j⟩
      case measure=>(simp[intOf];try omega)
     |false=>
      cases n:[42,45,46,95].contains s[k] with
      |true=>
       have a:Hid _:=g (by rw[b,m,n];rfl);have z:Hid (C0 110 #[.string ⟨#[42,45,46,95]⟩,.int .u8 s[k].toNat] wr (.bool true)):=(by rw[<-n];exact y);clear g u b m n y;go_wp2_with fail;refine mR z fun H t=>?_;obtain rfl:=t.symm;go_wp2;go_roundw
       case rel=>exact⟨k+1,by omega,by go_num,aB Value.string a,j⟩
       case measure=>(simp[intOf];try omega)
      |false=>
       have a:Hid _:=u (by rw[b,m,n];rfl);have z:Hid (C0 110 #[.string ⟨#[42,45,46,95]⟩,.int .u8 s[k].toNat] wr (.bool false)):=(by rw[<-n];exact y);clear g u b m n y;go_wp2_with fail;refine m0 z ?_;go_wp2_with fail;refine mR Y fun w2 R=>?_;have X:=hI (j.out.trans (R.mono j.out.size));clear R;go_wp2;go_roundw
       case rel=>exact⟨k+1,by omega,by go_num,aB Value.string a,X⟩
       case measure=>(simp[intOf];try omega)
  .have U:Hid (l.take k=l):=cg (by omega)
   rw[U.out];go_wp2;go_ret;exact⟨rfl,j⟩
def PairRow (w:World) (v:Value) (ps:List (List UInt8×List UInt8)):Prop:=∃sp cap,v=.slice sp ps.length cap/\ps.length<=cap/\cap<=maxLen/\∀(j:Nat) p,ps[j]?=some p->∃g,sp=some ⟨g,0,none⟩/\g<w.heap.size/\w.cell? ⟨g,j*2,none⟩=some (.string ⟨p.1.toArray⟩)/\w.cell? ⟨g,j*2+1,none⟩=some (.string ⟨p.2.toArray⟩)
theorem PairRow.below {w w':World} {v:Value} {b:List (List UInt8×List UInt8)} (h:PairRow w v b) (a:Bl w w'):PairRow w' v b:=by obtain⟨e,l,c,o,d,m⟩:=h;refine⟨e,l,c,o,d,λj p k=>?_⟩;obtain⟨g,n,hz,f,i⟩:=m j p k;exact⟨g,n,cq hz a.size,(a.cell (p:=(Ad g (j*2))) hz).trans f,(a.cell (p:=(Ad g (j*2+1))) hz).trans i⟩
def de (ps:List (List UInt8×List UInt8)):Nat:=(ps.map λp=>p.1.length+p.2.length).sum
theorem ml (a:List (List UInt8×List UInt8)) (q:Nat) (p:List UInt8×List UInt8) (h:a[q]?=some p):de (a.take (q+1))=de (a.take q)+(p.1.length+p.2.length):=by grind[de,List.take_add_one]
theorem pC (a:List (List UInt8×List UInt8)) (q:Nat):de (a.take q)<=de a:=by grind[de,List.take_append_drop]
theorem xA (x:Int) (a:0<=x) (b:x<9223372036854775808):wrap64 x=x:=by grind[wrap64]
theorem xB (a:List (List UInt8×List UInt8)) (v:Value) (w:World) (t:PairRow w v a) (l:∀p∈a,p.1.length<=2097152/\p.2.length<=2097152):Calls prog 134 #[v] w fun e w'=>e=.returned (.bool (decide (2000<de a)))/\Bl w w':=by
 obtain⟨B,H,rfl,G,A,m⟩:=t;unfold maxLen at A;have u:Hid (∀(j:Nat) p,a[j]?=some p->∃g,B=some (Ad g 0)/\∀wr,Bl w wr->Ce wr g (j*2) (Sv p.1)/\Ce wr g (j*2+1) (Sv p.2)/\g<wr.heap.size):=by intro j p y;obtain⟨g,D,hz,h,k⟩:=m j p y;exact⟨g,D,fun wr b=>⟨(b.cell (p:=(Ad g (j*2))) hz).trans h,(b.cell (p:=(Ad g (j*2+1))) hz).trans k,cq hz b.size⟩⟩
 have C:=hI l;clear m l;go_enter func134,ntmps134;go_wp2_with fail;go_loopw [3,8] (fun s i wr=>∃q:Nat,q<=a.length/\i=Iv q/\s=Iv (de (a.take q):Nat)/\de (a.take q)<=2000/\Bl w wr) (fun _ i _=>a.length-(intOf i).toNat)
 case atStart=>exact⟨0,aR _,rfl,rfl,by simp[de],ai _ _⟩
 case round=>
  rename_i wr _;obtain⟨q,I,rfl,rfl,n,b⟩:=hrel;by_cases x:q<a.length
  .obtain⟨p,f⟩:∃p,a[q]?=some p:=⟨a[q],bY x⟩
   obtain⟨g,r,z⟩:=u q p f;subst r;obtain⟨h,k,M⟩:=z _ b;have N:=C p (ef f);have d:=hI (ml a q p f);have o:=hI (pC a (q+1));have c:=hI b;have J:wrap64 ((p.1.length:Int)+(p.2.length:Int))=(p.1.length:Int)+(p.2.length:Int):=xA _ (by omega) (by omega);have L:wrap64 ((de (a.take q):Int)+((p.1.length:Int)+(p.2.length:Int)))=(de (a.take q):Int)+((p.1.length:Int)+(p.2.length:Int)):=xA _ (by omega) (by omega);clear b;go_wp2
   .go_ret
    have K:=d.out;have F:=o.out;refine⟨?_,c.out.alloc c.out.size _⟩;rw[show decide (2000<de a)=true from dC (by omega)];rfl
   .go_roundw
    case rel=>exact⟨q+1,by omega,by go_num,by rw[d.out];simp,by have:=d.out;omega,c.out.alloc c.out.size _⟩
    case measure=>grind[intOf]
  .have E:Hid (de a<=2000):=by
    show _<=_;rwa[cg (by omega)] at n
   have c:=hI b;clear b;go_wp2;go_ret;refine⟨?_,c⟩;rw[show decide (2000<de a)=false from ee (by grind)];rfl
structure Tryz.EnvP (w:World):Prop where
 sets:je w
 pair:∀k,k<4->w.cell? ⟨17,k,none⟩=some (.int .u64 (pairWs.getD k 0))
 maxLen:∃m,w.cell? ⟨16,0,none⟩=some (.int .i64 m)
 size:29<=w.heap.size
theorem Tryz.EnvP.below {w w':World} (h:EnvP w) (a:Bl w w'):EnvP w':=by
 have hz:=h.size;refine⟨λk b=>?_,λk b=>?_,?_,bu hz a.size⟩
 .exact(a.cell (p:=(Ad 13 k)) (show 13<w.heap.size by omega)).trans (h.sets k b)
 .exact(a.cell (p:=(Ad 17 k)) (show 17<w.heap.size by omega)).trans (h.pair k b)
 .obtain⟨m,c⟩:=h.maxLen
  exact⟨m,(a.cell (p:=(Ad 16 0)) (show 16<w.heap.size by omega)).trans c⟩
theorem xr (s a:ByteArray):Lib.countB s a<=s.size+1:=by unfold Lib.countB Lib.count;rw[iJ];exact He _ _ _
theorem GQ (l:Bs):Lib.replaceAll l [43] [32]=dH l:=by
 rw[oJ];unfold dH;induction l with
 |nil=>rfl
 |cons b l a=>
  rw[od,a,mM];unfold ip;by_cases h:b=43
  .grind
  .grind
theorem GR (l:Bs):(dH l).length=l.length:=by simp[dH]
theorem GS (t:Bs) (w:World) (q:t.length<=100000) (c:EnvP w):Calls prog 187 #[.string ⟨t.toArray⟩] w fun e w'=>e=.returned (.string ⟨(fW t).toArray⟩)/\Bl w w':=by
 obtain⟨m,j⟩:=c.maxLen;have hz:=al t;have u:=xr ⟨t.toArray⟩ ⟨#[43]⟩;have d:Hid (CB 107 #[.string ⟨t.toArray⟩,.string ⟨#[43]⟩,.string ⟨#[32]⟩] w (.string ⟨(dH t).toArray⟩)):=by have h:=strings_ReplaceAll ⟨t.toArray⟩ ⟨#[43]⟩ ⟨#[32]⟩ m w (by omega) j (by decide) (by show _+_*1<=_;omega);have n:=GQ t;rwa[n] at h
 have f:Hid (∀a,Bl w a->CQ 65 #[.string ⟨(dH t).toArray⟩] a (.string ⟨(fW t).toArray⟩) (Below w.hz w)):=by intro a b;obtain⟨k,l⟩:=(c.below b).maxLen;refine mR (tS ⟨(dH t).toArray⟩ k a (by grind[al,GR]) l (by have:=(c.below b).size;omega)) fun w' g=>?_;exact⟨rfl,b.trans (g.mono b.size)⟩
 generalize(⟨(fW t).toArray⟩:ByteArray)=r at*;generalize(⟨(dH t).toArray⟩:ByteArray)=p at*;generalize(⟨t.toArray⟩:ByteArray)=s at*;go_enter func187,ntmps187;go_wp21;refine mR d.out fun a i=>?_;go_wp21;refine mR (f a i) fun v o=>?_;go_wp2;go_ret;exact⟨rfl,o⟩
theorem GT (c:UInt8) (l:Bs):(ay c l).1.length<=l.length/\((ay c l).2.getD []).length<=l.length:=by
 have d:∀(l a b:Bs),aN c l=some (a,b)->a.length<=l.length/\b.length<=l.length:=by
  intro l;induction l with
  |nil=>simp[aN]
  |cons x l e=>
   intro a b h;unfold aN at h;split at h
   .grind
   .cases f:aN c l with
    |none=>grind
    |some p=>grind
 unfold ay;cases h:aN c l with
 |none=>simp
 |some p=>grind
theorem xt:(prog.info? 62).map (·.size)=some 2:=by kernel_rfl
theorem GU (p:Bs) (w:World) (E:p.length<=100000) (h:EnvP w):Calls prog 133 #[.string ⟨p.toArray⟩] w fun e w'=>e=.returned (.agg #[.string ⟨(dz p).1.toArray⟩,.string ⟨(dz p).2.toArray⟩])/\Bl w w':=by
 obtain⟨W,d⟩:=am (w.alloc (.cells #[.string ⟨#[]⟩,.string ⟨#[]⟩] 62));have f:Bl w W:=by rw[d];exact(ai _ _).alloc .refl _
 have G:W.heap.size=w.heap.size+1:=by rw[d];simp
 have q:W.heap[w.heap.size]?=some (.cells #[.string ⟨#[]⟩,.string ⟨#[]⟩] 62 (0,0)):=by rw[d];exact dO w _
 have J:Hid (∀a,Bl W a->a.heap[w.heap.size]?=some (.cells #[.string ⟨#[]⟩,.string ⟨#[]⟩] 62 (0,0))):=fun a b=>(b.block w.heap.size (by omega)).trans q;have C:Hid (∀a,Bl W a->Bl w a):=fun a b=>f.trans (b.mono (by omega));have z:=GT 61 p;have H:Hid (CB 112 #[.string ⟨p.toArray⟩,.string ⟨#[61]⟩] W (.tuple #[.string ⟨(ay 61 p).1.toArray⟩,.string ⟨((ay 61 p).2.getD []).toArray⟩,.bool (ay 61 p).2.isSome])):=by obtain⟨m,B⟩:=(h.below f).maxLen;refine mR (strings_Cut ⟨p.toArray⟩ ⟨#[61]⟩ m W (by grind[al]) B) ?_;rintro w' ⟨n,rfl⟩;refine⟨?_,cr (ai _ _) n⟩;have F:=va 61 p;rw[F]
 have g:Hid (∀(t:Bs) a,t.length<=100000->Bl W a->CQ 187 #[.string ⟨t.toArray⟩] a (.string ⟨(fW t).toArray⟩) (Below W.heap.size W)):=by intro t a x b;refine mR (GS t a x ((h.below f).below b)) fun w' A=>?_;exact⟨rfl,b.trans (A.mono b.size)⟩
 have u:Hid (∀a,Bl W a->CQ 187 #[.string ⟨(ay 61 p).1.toArray⟩] a (.string ⟨(dz p).1.toArray⟩) (Below W.heap.size W)):=fun a b=>g _ a (by omega) b;have D:Hid (∀a,Bl W a->CQ 187 #[.string ⟨((ay 61 p).2.getD []).toArray⟩] a (.string ⟨(dz p).2.toArray⟩) (Below W.heap.size W)):=fun a b=>g _ a (by omega) b;generalize(⟨(dz p).1.toArray⟩:ByteArray)=j at*;generalize(⟨(dz p).2.toArray⟩:ByteArray)=k at*;generalize(⟨(ay 61 p).1.toArray⟩:ByteArray)=L at*;generalize(⟨((ay 61 p).2.getD []).toArray⟩:ByteArray)=N at*;generalize(ay 61 p).2.isSome=K at*;generalize(⟨p.toArray⟩:ByteArray)=M at*;clear E h z g q f G;go_enter func133,ntmps133;go_upto_region 1 with fail;rw[<-d];clear d;go_wp2_with fail;refine mR H.out fun a l=>?_;go_wp2_with fail;refine mR (u a l) fun I o=>?_;go_wp2_with fail;refine(D.out I o).mono ?_;rintro e c ⟨rfl,i⟩;have s:Hid (Below W.heap.size W c):=i;have hz:=J.out c i;have y:Hid (c.heap[w.heap.size]?=some (.cells #[.string ⟨#[]⟩,.string ⟨#[]⟩] 62 (0,0))):=hz;have R:c.cell? ⟨w.heap.size,0,none⟩=some (.string ⟨#[]⟩):=by rw[World.cell?];simp[hz]
 have P:c.cell? ⟨w.heap.size,1,none⟩=some (.string ⟨#[]⟩):=by rw[World.cell?];simp[hz]
 have Q:c.frozen? ⟨w.heap.size,0,none⟩=false:=by unfold World.frozen?;simp[hz]
 have O:c.frozen? ⟨w.heap.size,1,none⟩=false:=by unfold World.frozen?;simp[hz]
 clear l o i hz;go_wp2;have r:=aD _ w.heap.size 1 _ 62 (.string k) (aD c w.heap.size 0 _ 62 (.string j) y);refine aO (v:=.agg #[.string j,.string k]) (lD rfl _ _ w.heap.size 62 _ (0,0) _ rfl r underlying62 rfl xt) rfl ⟨rfl,((C c s).setCell .refl _).setCell .refl _⟩
theorem escW_len (a:List Int) (l:Bs):(aJ a l).length<=3*l.length:=by
 induction l with
 |nil=>simp[aJ]
 |cons c l b=>grind[dq,aJ]
theorem GV (t:Bs) (w:World) (h:t.length<=100000) (a:EnvP w):Calls prog 227 #[.string ⟨t.toArray⟩] w fun e w'=>e=.returned (.string ⟨(aJ pairWs t).toArray⟩)/\Bl w w':=by have b:Hid (CB 109 #[.agg #[.int .u64 18158685221371772927,.int .u64 17870283327714361345,.int .u64 18446744073709551615,.int .u64 18446744073709551615],.string ⟨t.toArray⟩] w (.string ⟨(aJ pairWs t).toArray⟩)):=zA ⟨t.toArray⟩ pairWs ⟨_,_,_,_,rfl⟩ w (by grind[al]);have k:Ce w 17 0 (.int .u64 18158685221371772927):=a.pair 0 (by omega);have g:Ce w 17 1 (.int .u64 17870283327714361345):=a.pair 1 (by omega);have f:Ce w 17 2 (.int .u64 18446744073709551615):=a.pair 2 (by omega);have d:Ce w 17 3 (.int .u64 18446744073709551615):=a.pair 3 (by omega);generalize(⟨(aJ pairWs t).toArray⟩:ByteArray)=r at*;generalize(⟨t.toArray⟩:ByteArray)=i at*;go_enter func227,ntmps227;go_wp21;refine mR b.out fun j c=>?_;go_wp2;go_ret;exact⟨rfl,c⟩
theorem GW (t:Bs) (w:World) (n:t.length<=10000) (c:EnvP w):Calls prog 188 #[.string ⟨t.toArray⟩] w fun e w'=>e=.returned (.string ⟨(aK t).toArray⟩)/\Bl w w':=by
 have d:=hI (GV t w (by omega) c);have o:=escW_len pairWs t;have f:Hid (∀a,Bl w a->CQ 107 #[.string ⟨(aJ pairWs t).toArray⟩,.string ⟨#[37,50,48]⟩,.string ⟨#[43]⟩] a (.string ⟨(aK t).toArray⟩) (Below w.hz w)):=by intro a b;obtain⟨m,j⟩:=(c.below b).maxLen;have hz:(⟨(aJ pairWs t).toArray⟩:ByteArray).size=(aJ pairWs t).length:=al _;have q:=xr ⟨(aJ pairWs t).toArray⟩ ⟨#[37,50,48]⟩;have h:=strings_ReplaceAll ⟨(aJ pairWs t).toArray⟩ ⟨#[37,50,48]⟩ ⟨#[43]⟩ m a (by omega) j (by decide) (by show _+_*1<=_;omega);have k:Lib.replaceAll (⟨(aJ pairWs t).toArray⟩:ByteArray).L (⟨#[37,50,48]⟩:ByteArray).L (⟨#[43]⟩:ByteArray).L=aK t:=Hf t;rw[k] at h;refine mR h fun w' g=>?_;exact⟨rfl,b.trans (g.mono b.size)⟩
 generalize(⟨(aK t).toArray⟩:ByteArray)=r at*;generalize(⟨(aJ pairWs t).toArray⟩:ByteArray)=x at*;generalize(⟨t.toArray⟩:ByteArray)=p at*;go_enter func188,ntmps188;go_wp21;refine mR d.out fun a i=>?_;go_wp21;refine mR (f a i) fun s l=>?_;go_wp2;go_ret;exact⟨rfl,l⟩
def hX (p:Bs×Bs):List Value:=[.string ⟨p.1.toArray⟩,.string ⟨p.2.toArray⟩]
def cQ (ps:List (Bs×Bs)):List Value:=ps.flatMap hX
theorem rV (a b:List (Bs×Bs)):cQ (a++b)=cQ a++cQ b:=by simp[cQ]
theorem mh (a:List (Bs×Bs)):(cQ a).length=a.length*2:=by
 induction a with
 |nil=>rfl
 |cons p a b=>grind[cQ,hX]
theorem pz:∀(a:List (Bs×Bs)) (j:Nat) (p:Bs×Bs),a[j]?=some p->(cQ a)[j*2]?=some (.string ⟨p.1.toArray⟩)/\(cQ a)[j*2+1]?=some (.string ⟨p.2.toArray⟩)
 | [],j,p,h=>by simp at h
 |x::a,0,p,h=>by
  simp at h;subst h;exact⟨rfl,rfl⟩
 |x::a,j+1,p,h=>by
  have:=pz a j p (by simpa using h);have e:cQ (x::a)=hX x++cQ a:=rfl;rw[e];have b:(hX x).length=2:=rfl;rw[show(j+1)*2=(hX x).length+j*2 by omega,show(hX x).length+j*2+1=(hX x).length+(j*2+1) by omega];rw[mX (by omega),mX (by omega)];simpa using this
theorem mj {w w':World} {base:Nat} {e:TypeId} {c:Nat} {v:Value} {n:Nat} {b:List Value} (h:w.ownsRow base e c v n b) (d:Bl w w'):w'.ownsRow base e c v n b:=by
 refine⟨h.1,?_⟩;rcases h.2 with a|⟨g,k,f,a,i,l,j⟩
 .exact .inl a
 .refine .inr ⟨g,k,f,a,i,?_,j⟩
  rw[d.block g (by
   grind)]
  exact l
theorem rW {w:World} {B:Nat} {v:Value} {a:List (Bs×Bs)} (h:w.ownsRow B 62 2 v a.length (cQ a)):PairRow w v a:=by
 obtain⟨rfl,o⟩|⟨g,m,q,rfl,r,d,k,l,s,f⟩:=h.2
 .have:=oy.1 o
  subst this;exact⟨none,0,rfl,by simp,by omega,λj p b=>by simp at b⟩
 .refine⟨some (Ad g 0),m,rfl,k,l,λj p b=>?_⟩
  have t:=(dN.1 b).1;have c:∀i,i<a.length*2->w.cell? (Ad g i)=(cQ a)[i]?:=by intro i n;rw[<-f,ow,ae n];unfold World.cell?;simp[d]
  have e:=pz a j p b;exact⟨g,rfl,(aT.1 d).1,(c _ (by omega)).trans e.1,(c _ (by omega)).trans e.2⟩
theorem pA {w:World} {B:Nat} {v:Value} {n:Nat} {c:List Value} {e:TypeId} {d:Nat} (h:w.ownsRow B e d v n c):∃b a,v=.slice b n a:=by
 obtain⟨rfl,i⟩|⟨g,a,f,rfl,_⟩:=h.2
 .grind
 .simp
theorem pB:(prog.info? 62).map (λi=>(i.zero,i.size,i.bytes))=some (some (.agg #[.string ⟨#[]⟩,.string ⟨#[]⟩]),2,32):=by kernel_rfl
theorem xz (l:List Bs) (q:Nat) (x:Bs) (h:l[q]?=some x):iy (l.take (q+1))=if x.isEmpty then iy (l.take q) else iy (l.take q)++ [x]:=by grind[iy,List.take_add_one]
theorem Hh (t:Bs) (w:World) (ht:t.length<=100000) (P:EnvP w):Calls prog 77 #[.string ⟨t.toArray⟩] w fun e w'=>(∃v,e=.returned v/\w'.ownsRow w.heap.size 62 2 v (iX t).length (cQ (iX t)))/\Bl w w':=by
 obtain⟨i0,hi,d0,b7,c7⟩:=fA pB;have d5:Hid (Calls prog 132 #[.string ⟨t.toArray⟩,.string ⟨#[38]⟩] w fun e w'=>∃n:List ByteArray,n.map (·.data.toList)=ar 38 t/\e=.returned (.slice (some (Ad w.heap.size 0)) n.length n.length)/\w'=w.alloc (.cells (n.map Value.string).toArray 9)):=by
  obtain⟨m,hm⟩:=P.maxLen;refine(Tryz.strings_Split ⟨t.toArray⟩ ⟨#[38]⟩ m w (by rw[al];omega) hm (by show 1<=1;omega)).mono ?_;rintro e w' ⟨rfl,rfl⟩;refine⟨Lib.splitB ⟨#[38]⟩ 0 (Lib.countB ⟨t.toArray⟩ ⟨#[38]⟩) ⟨t.toArray⟩,?_,?_,rfl⟩
  .rw[Lib.splitB_data]
   show Lib.splitK [38] 0 (Lib.count t [38]) t=_;rw[Lib.count_one];exact rL 38 _ _ rfl
  .rw[Lib.splitB_all _ (by show 1<=1;omega) 0 _ _ rfl]
 have d1:=hI fun p f K o=>GU p f K (P.below o);have a4:=hI fun p K=>bu (hR 38 t p K) ht;have Z:Hid ((ar 38 t).length<=100001):=by
  show _<=_;have:∀l:Bs,(ar 38 l).length<=l.length+1:=by
   intro l;induction l with
   |nil=>simp[ar]
   |cons c l Y=>
    unfold ar;split
    .simp only[dL];omega
    .split
     .rename_i h;rw[h] at Y;simp only[dL] at Y⊢;omega
     .simp
  exact bu (this t) (by omega)
 have a7:Hid (iX t=(iy (ar 38 t)).map dz):=rfl;generalize(⟨t.toArray⟩:ByteArray)=tb at*;generalize iX t=b2 at*;clear ht P;go_enter func77,ntmps77;go_wp2_with fail;refine d5.out.mono ?_;rintro e f ⟨n,G,rfl,E⟩;obtain⟨a,U⟩:∃a:List Bs,a=ar 38 t:=⟨_,rfl⟩;rw[<-U] at G a4 Z a7;have b0:n.length=a.length:=by rw[<-G];simp
 have a0:Bl w f:=by rw[E];exact(ai _ _).alloc .refl _
 have b3:Hid (∀(j:Nat) x,a[j]?=some x->f.cell? ⟨w.heap.size,j,none⟩=some (.string ⟨x.toArray⟩)):=by
  intro j x b;rw[<-G,fy,um] at b;obtain⟨y,hy,rfl⟩:=b;have e:f.heap[w.heap.size]?=some (.cells (n.map Value.string).toArray 9):=by rw[E];exact dO w _
  simp only[World.cell?,e];simp[hy]
 have a6:w.heap.size<f.heap.size:=by rw[E];simp
 rw[b0];have c9:=hI a0;have b5:=hI a6;have e2:=Z.out;clear E a0 U G b0 a6;go_wp2_with fail;go_loopw [3,9] (fun s i wr=>∃(q:Nat) (d:List (Bs×Bs)),q<=a.length/\i=Iv q/\wr.ownsRow w.heap.size 62 2 s d.length (cQ d)/\s.ownBlock≠some w.heap.size/\(∀(j:Nat) x,a[j]?=some x->Ce wr w.heap.size j (.string ⟨x.toArray⟩))/\d=(iy (a.take q)).map dz/\Bl w wr/\w.heap.size<wr.heap.size) (fun _ i _=>a.length-(intOf i).toNat)
 case atStart=>exact⟨0,[],aR _,rfl,⟨rfl,.inl ⟨rfl,rfl⟩⟩,by simp[Value.ownBlock],b3,rfl,c9,b5⟩
 case round=>
  rename_i wr _;obtain⟨q,d,hq,rfl,Q,a9,a8,T,J,a5⟩:=hrel;obtain⟨sp,d8,rfl⟩:=pA Q;have R:=hI Q;have L:=hI a9;have M:=hI a8;have O:=hI T;have D:=hI J;have d9:d.length<=100001:=by rw[T,gX];unfold iy;exact bu (lE _ _) (by rw[cL];omega)
  have c8:=J.size;clear Q a9 a8 T J;by_cases d2:q<a.length
  .obtain⟨x,r⟩:∃x,a[q]?=some x:=⟨a[q],bY d2⟩
   have c1:=M q x r;have S:=a4 x (ef r);have I:=hI (xz a q x r);have V:(⟨x.toArray⟩:ByteArray).toList.isEmpty=x.isEmpty:=(by rw[cG]);have d7:=hI fun f o=>d1 x f S o;cases C:x.isEmpty with
   |true=>
    rw[C] at V I;generalize(⟨x.toArray⟩:ByteArray)=xb at*;clear r C S;go_wp2;go_roundw
    case rel=>exact⟨q+1,d,by omega,by go_num,R,L,M,by rw[O.out,I.out];rfl,D,a5⟩
    case measure=>(simp[intOf];try omega)
   |false=>
    rw[C] at V I;generalize a1:(⟨(dz x).1.toArray⟩:ByteArray)=A at*;generalize a3:(⟨(dz x).2.toArray⟩:ByteArray)=z at*;generalize(⟨x.toArray⟩:ByteArray)=xb at*;have b8:Hid (hX (dz x)=[.string A,.string z]):=hI (by rw[<-a1,<-a3];rfl);clear r C S a1 a3;go_wp2_with fail;refine mR (d7 wr D) fun F B=>?_;have N:=(mj R B).alloc (.cells #[.string A,.string z] 62);have b6:=hI (D.out.trans (B.mono c8));have c0:=hI fun j x b=>(B.cell (p:=(Ad w.heap.size j)) a5).trans (M j x b);have e1:=B.size;clear B;go_wp2_with(at_builtin;refine kf _ rfl _ _ 58 rfl w.heap.size 62 i0 (.agg #[.string ⟨#[]⟩,.string ⟨#[]⟩]) 2 32 underlying58 hi d0 b7 c7 rfl (by decide) _ _ _ rfl N (Ad F.heap.size 0) 1 1 [.string A,.string z] rfl rfl ?c1 ?c2 (by decide) ?c3 ?c4 ?c5 _ rfl ?_)
    case c1=>
     intro j u b;match j,b with
     |0,b=>simp at b;subst b;exact ew F #[.string A,.string z] 62 0
     |1,b=>simp at b;subst b;exact ew F #[.string A,.string z] 62 1
    case c2=>intro u W;simp at W;rcases W with rfl|rfl<;>rfl
    case c3=>unfold maxLen;omega
    case c4=>omega
    case c5=>simp;omega
    intro g d4 w5 X H a2 e0;have b9:=hI X;have b1:Hid ((Value.slice (some (Ad g 0)) (d.length+1) d4).ownBlock≠some w.heap.size):=by
     intro h;have hg:g=w.heap.size:=(by simpa[Value.ownBlock] using h);obtain o|o:=a2
     .exact L (by rw[o,hg])
     .first|omega|(simp at o;omega)
    have d3:Hid (∀(j:Nat) x,a[j]?=some x->Ce w5 w.heap.size j (.string ⟨x.toArray⟩)):=(by intro j x r;refine H.cell ?_ (fun h=>L h.symm);rw[fk _ _ (Ad w.heap.size j) (by show w.heap.size<F.heap.size;omega)];exact c0 j x r);have d6:=hI ((b6.out.alloc (by omega) _).grown H (by simp;omega) (fun k hk=>(N.lt k hk).1));have c6:w.heap.size<w5.heap.size:=(by have:=H.size;simp at this;omega);clear X H N a2;go_wp2;go_roundw
    case rel=>
     refine⟨q+1,d++ [dz x],by omega,by go_num,?_,?_,d3,?_,d6,c6⟩
     .rw[cC,rV]
      have e:cQ [dz x]=[.string A,.string z]:=(by show hX (dz x)++ []=_;rw[b8.out];rfl);rw[e];exact b9
     .exact b1
     .rw[O.out,I.out]
      simp
    case measure=>(simp[intOf];try omega)
  .have HG:Hid (b2=d):=by
    show _=_;rw[a7.out,O.out,cg (by omega)]
   go_wp2;go_ret;rw[HG.out];exact⟨⟨_,rfl,R⟩,D⟩
theorem Oa {w:World} {b c:Nat} {e:TypeId} {f:Nat} {v:Value} {n:Nat} {d:List Value} (h:w.ownsRow b e f v n d) (k:c<=b):w.ownsRow c e f v n d:=by
 refine⟨h.1,?_⟩;rcases h.2 with a|⟨g,l,i,a,j,m⟩
 .exact .inl a
 .exact .inr ⟨g,l,i,a,bu k j,m⟩
theorem Ob (c:UInt8) (l:Bs) (k:Nat) (g:k<l.length) (b:∀(j:Nat) (a:j<l.length),j<k->¬l[j]=c) (d:l[k]=c):ay c l=(l.take k,some (l.drop (k+1))):=by
 have e:l=l.take k++c::l.drop (k+1):=by conv=>lhs;rw[<-la k l,ch g,d]
 conv=>lhs;rw[e]
 refine Hg c _ _ λx f=>?_;obtain⟨j,a,rfl⟩:=oa f;rw[cL] at a;rw[BZ];exact b j (by omega) (by omega)
theorem Oc (c:UInt8) (l:Bs) (h:∀x∈l,¬x=c):ay c l=(l,none):=by grind[ay,jo]
theorem Od (x:Bs) (k:Nat):(⟨x.toArray⟩:ByteArray).extract 0 k=⟨(x.take k).toArray⟩:=by simp[fJ]
theorem Oe (x:Bs) (k:Nat):(⟨x.toArray⟩:ByteArray).extract k (⟨x.toArray⟩:ByteArray).size=⟨(x.drop k).toArray⟩:=by simp[fJ,al,cg]
def Of (b:Nat) (t:Bs) (e:Ending) (w':World):Prop:=∃v,e=.returned (.tuple #[v,.int .i64 0])/\w'.ownsRow b 62 2 v (iX t).length (cQ (iX t))
theorem Og (t:Bs) (w:World) (ht:t.length<=2000):Calls prog 50 #[.string ⟨t.toArray⟩] w fun e w'=>Of w.heap.size t e w'/\Bl w w':=by
 obtain⟨i0,hi,d2,c8,d0⟩:=fA pB;have b7:Hid (Calls prog 78 #[.string ⟨t.toArray⟩,.int .u8 38] w fun e w'=>(∃v,e=.returned v/\w'.ownsRow w.heap.size 9 1 v (ar 38 t).length (aW (ar 38 t)))/\Bl w w'):=ss ⟨t.toArray⟩ 38 w (by rw[al];omega);have d4:=hI fun p hp=>bu (hR 38 t p hp) ht;have a5:Hid ((ar 38 t).length<=2001/\0<(ar 38 t).length):=by
  show _/\_;have:∀l:Bs,(ar 38 l).length<=l.length+1/\1<=(ar 38 l).length:=by
   intro l;induction l with
   |nil=>simp[ar]
   |cons c l ih=>grind[ar]
  have:=this t;omega
 have c7:Hid (∀(x:Bs) W,x.length<=2000->CB 79 #[.string ⟨x.toArray⟩] W (.string ⟨(fW x).toArray⟩)):=fun x W h=>NW ⟨x.toArray⟩ W (by rw[al];omega);have f1:(⟨t.toArray⟩:ByteArray).size<=2000:=by rw[al];exact ht
 have d7:Hid (iX t=(iy (ar 38 t)).map dz):=rfl;generalize(⟨t.toArray⟩:ByteArray)=tb at*;obtain⟨m,c6⟩:=am (ar 38 t);rw[<-c6] at b7 d4 a5 d7;clear ht c6;go_enter func50,ntmps50;go_wp2_with fail;refine af b7 ?_;rintro e D ⟨⟨v,rfl,ho⟩,b1⟩;obtain⟨f4,d1⟩:=a5.out;obtain⟨sp,e7,rfl,f2,e4,c9⟩:=dF ho;obtain⟨g,rfl,hc⟩:=c9 d1;have hg:g<D.heap.size:=by obtain⟨g',_,e,_,h⟩:=ho.form d1;injection e with e;injection e with e;injection e with e;rw[e];exact h
 have HC:Hid (∀(j:Nat) x,m[j]?=some x->∀W,Below D.heap.size D W->W.cell? ⟨g,j,none⟩=some (.string ⟨x.toArray⟩)):=by intro j x a W hW;refine(hW.cell (p:=⟨g,j,none⟩) hg).trans (hc j _ ?_);unfold aW;rw[fy,a];rfl
 have a9:=hI b1;clear ho hc c9 b1 b7 a5 hg e4;go_wp2_with fail;go_loopw [4,6] (fun s i wr=>∃(q:Nat) (d:List (Bs×Bs)),q<=m.length/\i=Iv q/\wr.ownsRow D.heap.size 62 2 s d.length (cQ d)/\d=(iy (m.take q)).map dz/\Bl D wr) (fun _ i _=>m.length-(intOf i).toNat)
 case atStart=>exact⟨0,[],aR _,rfl,⟨rfl,.inl ⟨rfl,rfl⟩⟩,rfl,ai _ _⟩
 case round=>
  rename_i wo _;obtain⟨q,d,hq,rfl,b3,c0,G⟩:=hrel;obtain⟨sp,f3,rfl⟩:=pA b3;have Y:=hI b3;have U:=hI c0;have L:=hI G;have e8:d.length<=2001:=by rw[c0,gX];unfold iy;exact bu (lE _ _) (by rw[cL];omega)
  have T:=G.size;clear b3 c0;by_cases e1:q<m.length
  .obtain⟨x,O⟩:∃x,m[q]?=some x:=⟨m[q],bY e1⟩
   have C:=HC q x O _ G;have M:=hI (HC q x O);have e6:=d4 x (ef O);have R:=hI (xz m q x O);have a1:(⟨x.toArray⟩:ByteArray).toList.isEmpty=x.isEmpty:=(by rw[cG]);have d6:=al x;have a7:=hI (Od x);have a4:=hI (Oe x);obtain⟨r,a2⟩:=am (⟨x.toArray⟩:ByteArray);have a6:Hid (∀(n:Nat) (h:n<r.size) (h2:n<x.length),r[n]=x[n]):=(by intro n h h2;subst a2;rfl);rw[<-a2] at C M a1 d6 a7 a4;clear G O a2;cases S:x.isEmpty with
   |true=>
    rw[S] at a1 R;clear S e6;go_wp2;go_roundw
    case rel=>exact⟨q+1,d,by omega,by go_num,Y,by rw[U.out,R.out];rfl,L⟩
    case measure=>(simp[intOf];try omega)
   |false=>
    rw[S] at a1 R;clear S;go_wp2_with fail;go_loopw [7] (fun k wz=>∃n:Nat,n<=x.length/\k=Iv n/\(∀(j:Nat) (a:j<x.length),j<n->¬x[j]=61)/\wz=wr) (fun k _=>x.length-(intOf k).toNat)
    case atStart=>exact⟨0,aR _,rfl,fun j a h=>by omega,rfl⟩
    case round=>
     obtain⟨n,hn,rfl,d5,e3⟩:=hrel;obtain rfl:=e3.symm;have F:=hI d5;have X:Hid (∀W,CB 79 #[.string (r.extract 0 n)] W (.string ⟨(fW (x.take n)).toArray⟩)):=by intro W;rw[a7.out];exact c7 _ W (by rw[cL];omega)
     have a3:Hid (∀W,CB 79 #[.string (r.extract (n+1) x.length)] W (.string ⟨(fW (x.drop (n+1))).toArray⟩)):=(by intro W;rw[<-d6,a4.out];exact c7 _ W (by rw[cm];omega));have e9:(0:Int)<=(n:Int):=(by omega);have f0:(n:Int)<=(r.size:Int):=(by omega);clear d5 a7 a4;by_cases d3:n<x.length
     .have V:=a6 n (by omega) d3
      have d9:(n:Int)<(r.size:Int):=(by omega);by_cases P:x[n]=61
      .have e0:((r[n].toNat:Int) !=61)=false:=by rw[V,P];rfl
       have b6:Hid (dz x=(fW (x.take n),fW (x.drop (n+1)))):=(by show _=_;unfold dz;rw[Ob 61 x n d3 F.out P];rfl);clear P V F a6;go_wp2_with fail;refine mR (X _) fun w4 b4=>?_;have b8:=hI (L.out.trans (b4.mono T));have N:Hid _:=mj Y b4;have E:=M w4 b8;clear b4 C;go_wp2_with fail;refine mR (a3 _) fun o f=>?_;have z:=b8;obtain⟨b,A⟩:=am (⟨(fW (x.take n)).toArray⟩:ByteArray);obtain⟨H,b0⟩:=am (⟨(fW (x.drop (n+1))).toArray⟩:ByteArray);have Z:=hI A;have e5:=hI b0;rw[<-A,<-b0];clear A b0 b8;have B:=(mj N f).alloc (.cells #[.string b,.string H] 62);have K:=hI (z.out.trans (f.mono z.out.size));have b2:=K.out.size;clear f X a3 M E d9 N z T;go_wp2_with(at_builtin;refine kf _ rfl _ _ 58 rfl D.heap.size 62 i0 (.agg #[.string ⟨#[]⟩,.string ⟨#[]⟩]) 2 32 underlying58 hi d2 c8 d0 rfl (by decide) _ _ _ rfl B (Ad o.heap.size 0) 1 1 [.string b,.string H] rfl rfl ?C ?E (by decide) ?c3 ?c4 ?c5 _ rfl ?_)
       case C=>
        intro j u a;match j,a with
        |0,a=>simp at a;subst a;exact ew o #[.string b,.string H] 62 0
        |1,a=>simp at a;subst a;exact ew o #[.string b,.string H] 62 1
       case E=>intro u I;simp at I;rcases I with rfl|rfl<;>rfl
       case c3=>unfold maxLen;omega
       case c4=>omega
       case c5=>simp;omega
       intro g5 e2 w6 J Q a8 d8;have a0:=hI J;have b9:=hI ((K.out.alloc b2 _).grown Q (by simp;omega) (fun k hk=>(B.lt k hk).1));clear J Q B a8;go_wp2;go_roundw
       case rel=>
        refine⟨q+1,d++ [dz x],by omega,by go_num,?_,by rw[U.out,R.out];simp,b9⟩;rw[cC,rV];have e:cQ [dz x]=[.string b,.string H]:=by show hX (dz x)++ []=_;rw[b6.out];unfold hX;rw[<-Z.out,<-e5.out];rfl
        rw[e];exact a0
       case measure=>(simp[intOf];try omega)
      .have e0:((r[n].toNat:Int) !=61)=true:=by
        rw[V,mY];intro h;exact P (cU.1 (by show _=61;omega))
       clear V;go_wp2;go_roundw
       case rel=>
        refine⟨n+1,by omega,by go_num,fun j a h=>?_,by first|rfl|trivial⟩;by_cases e:j=n
        .subst e;exact P
        .exact F j a (by omega)
       case measure=>(simp[intOf];try omega)
     .have b6:Hid (dz x=(fW (x.take n),[])):=by
       show _=_;unfold dz;rw[Oc 61 x fun y hy=>?_,cg (by omega)]
       .rfl
       .obtain⟨j,a,rfl⟩:=oa hy
        exact F j a (by omega)
      clear F a6;go_wp2_with fail;refine mR (X _) fun o f=>?_;have E:=M o (L.out.trans (f.mono T));have z:=L;have N:=Y;obtain⟨b,A⟩:=am (⟨(fW (x.take n)).toArray⟩:ByteArray);have Z:=hI A;rw[<-A];clear A C;have B:=(mj N f).alloc (.cells #[.string b,.string ⟨#[]⟩] 62);have K:=hI (z.out.trans (f.mono z.out.size));have b2:=K.out.size;clear f X a3 M N z T;go_wp2_with(at_builtin;refine kf _ rfl _ _ 58 rfl D.heap.size 62 i0 (.agg #[.string ⟨#[]⟩,.string ⟨#[]⟩]) 2 32 underlying58 hi d2 c8 d0 rfl (by decide) _ _ _ rfl B (Ad o.heap.size 0) 1 1 [.string b,.string ⟨#[]⟩] rfl rfl ?C ?E (by decide) ?c3 ?c4 ?c5 _ rfl ?_)
      case C=>
       intro j u a;match j,a with
       |0,a=>simp at a;subst a;exact ew o #[.string b,.string ⟨#[]⟩] 62 0
       |1,a=>simp at a;subst a;exact ew o #[.string b,.string ⟨#[]⟩] 62 1
      case E=>intro u I;simp at I;rcases I with rfl|rfl<;>rfl
      case c3=>unfold maxLen;omega
      case c4=>omega
      case c5=>simp;omega
      intro g5 e2 w6 J Q a8 d8;have a0:=hI J;have b9:=hI ((K.out.alloc b2 _).grown Q (by simp;omega) (fun k hk=>(B.lt k hk).1));clear J Q B a8;go_wp2;go_roundw
      case rel=>
       refine⟨q+1,d++ [dz x],by omega,by go_num,?_,by rw[U.out,R.out];simp,b9⟩;rw[cC,rV];have e:cQ [dz x]=[.string b,.string ⟨#[]⟩]:=by show hX (dz x)++ []=_;rw[b6.out];unfold hX;rw[<-Z.out];rfl
       rw[e];exact a0
      case measure=>(simp[intOf];try omega)
  .have HG:Hid (iX t=d):=by
    show _=_;rw[d7.out,U.out,cg (by omega)]
   clear G;go_wp2;go_ret2;exact⟨⟨_,rfl,by rw[HG.out];exact Oa Y a9.out.size⟩,a9.out.trans (L.out.mono a9.out.size)⟩
end Go.Proofs
