import Derived.Test.YtkcnageeamappaaGreatDoorXRSix2
set_option maxHeartbeats 32000000
set_option maxRecDepth 8000
set_option linter.unusedSimpArgs false
namespace Go.Moor
open Go
theorem xS:∀(l:Bs) (v:Int) (c:UInt8),eF v (l++ [c])=16*eF v l+aw c.toNat
 | [],_,_=>rfl
 |d::l,v,c=>by simp[eF,xS]
theorem xT:∀(l:Bs) (v:Int),(∀c∈l,aw c.toNat<16)->0<=v->0<=eF v l/\eF v l<(v+1)*16^l.length
 | [],v,_,h=>by simp only[eF,gK,Int.pow_zero,Int.mul_one];omega
 |c::l,v,hl,h=>by
  have g:=hl c List.mem_cons_self;have f:=gy (c.toNat:Int);obtain⟨b,a⟩:=xT l (16*v+aw c.toNat) (λx d=>hl x (oc _ d)) (by omega);rw[eF];refine⟨b,oq a ?_⟩;have e:(v+1)*16^(c::l).length=(16*v+16)*16^l.length:=by rw[dL,ot,Int.mul_comm ((16:Int)^l.length) 16,<-BK];congr 1;omega
  rw[e];exact BJ (by omega) (BI (by omega))
theorem xU (l:Bs) (h:∀c∈l,aw c.toNat<16) (d:l.length<=4):0<=eF 0 l/\eF 0 l<=65535:=by
 obtain⟨b,a⟩:=xT l 0 h (by omega);refine⟨b,?_⟩;have:l.length=0\/l.length=1\/l.length=2\/l.length=3\/l.length=4:=by omega
 rcases this with e|e|e|e|e<;>(rw[e] at a;have f:((0:Int)+1)*16^4=65536:=by decide)<;>simp at a<;>omega
theorem Ij (r:Bs) (j:Nat) (h:j<(bA 4 r).length):∃b:j<r.length,aw r[j].toNat<16/\(bA 4 r).take (j+1)=(bA 4 r).take j++ [r[j]]/\j<4:=by
 obtain⟨a,d,b,f,_⟩:=nP 4 r;generalize bA 4 r=T at*;subst d;have c:j<(T++a).length:=by rw[cC];omega
 have e:(T++a)[j]=T[j]:=List.getElem_append_left h;refine⟨c,?_,?_,by omega⟩
 .grind
 .simp_all
theorem Ik (r:Bs):(bA 4 r).length=r.length\/((bA 4 r).length<r.length/\(bA 4 r).length=4)\/((bA 4 r).length<4/\∃h:(bA 4 r).length<r.length,¬aw r[(bA 4 r).length].toNat<16):=by
 obtain⟨a,b,d,f,e⟩:=nP 4 r;generalize bA 4 r=T at*;subst b;cases a with
 |nil=>left;simp
 |cons c y=>grind
theorem Il (r:Bs):(∀c∈bA 4 r,aw c.toNat<16)/\(bA 4 r).length<=4:=by obtain⟨d,_,a,b,_⟩:=nP 4 r;exact⟨a,b⟩
theorem Im (l:Bs) (i j:Nat) (T:Bs) (e:T=bA 4 (l.drop i)) (h:j<T.length):∃c,l[i+j]?=some c/\aw c.toNat<16/\T.take (j+1)=T.take j++ [c]/\j<4:=by subst e;obtain⟨a,f,b,d⟩:=Ij (l.drop i) j h;refine⟨(l.drop i)[j],?_,f,b,d⟩;rw[<-ox,bY a]
theorem xV (l:Bs) (i:Nat) (T:Bs) (a:T=bA 4 (l.drop i)) (b:i<=l.length):i+T.length=l.length\/(i+T.length<l.length/\T.length=4)\/(i+T.length<l.length/\T.length<4/\∃c,l[i+T.length]?=some c/\¬aw c.toNat<16):=by grind[Ik]
def az (ps:List Int):List Int:=ps++List.replicate (8- ps.length) 0
theorem dX (a:List Int) (h:a.length<=8):(az a).length=8:=by grind[az]
theorem In (a:List Int) (h:a.length<8):az (a++ [0])=az a:=by unfold az;rw[cC,eU];congr 1;rw[show 8- a.length=(8-(a.length+1))+1 by omega];rfl
theorem nL (a:List Int) (x:Int) (h:a.length<8):(az a).set a.length x=az (a++ [x]):=by unfold az;rw[kh _ _ .refl,cC,eU,lI];congr 1;rw[show 8- a.length=(8-(a.length+1))+1 by omega];rfl
theorem Io (a:List Int) (j:Nat) (h:j<a.length):(az a)[j]?=some a[j]:=by grind[az]
theorem Ip (a:List Int) (h:a.length=8):az a=a:=by simp_all[az]
def ep (ps:List Int) (s k:Nat):List Int:=ps.take s++(List.replicate (8- ps.length) 0++((ps.drop s).take (k- s)++List.replicate (ps.length- k) 0))
theorem Iq (a:List Int) (s:Nat) (c:s<=a.length) (b:a.length<=8):ep a s s=az (a.take s):=by unfold ep az;rw[lI,oA,gn,List.replicate_append_replicate,cL];congr 2;omega
theorem xW (a:List Int) (s k:Nat) (d:s<=k) (c:k<=a.length) (b:a.length<=8):(ep a s k).length=8:=by grind[ep]
theorem Ir (a:List Int) (s k:Nat) (f:s<=k) (d:k<a.length) (g:a.length<=8):(ep a s k).set (8- a.length+k) a[k]=ep a s (k+1):=by
 unfold ep;have c:(a.take s).length=s:=by rw[cL];omega
 rw[kh _ _ (by omega),c];congr 1;rw[kh _ _ (by simp;omega)];congr 1;have b:((a.drop s).take (k- s)).length=k- s:=by simp;omega
 rw[kh _ _ (by simp;omega),b,List.length_replicate];have e:(a.drop s).take (k+1- s)=(a.drop s).take (k- s)++ [a[k]]:=by rw[show k+1- s=(k- s)+1 by omega,jf,ox,show s+(k- s)=k by omega,bY d];rfl
 rw[e,eU];congr 1;rw[show 8- a.length+k- s-(8- a.length)-(k- s)=0 by omega,show a.length- k=(a.length-(k+1))+1 by omega];rfl
theorem Is (a:List Int) (s:Nat):ep a s a.length=a.take s++(List.replicate (8- a.length) 0++a.drop s):=by simp[ep,cg]
theorem It (a:List Int) (k:Nat) (c:k<a.length) (b:a.length<=8):(az (a.take k)).set k a[k]=az (a.take (k+1)):=by grind[List.length_take,nL,List.take_add_one]
theorem Iu (f:Nat) (a:List Int) (b:Option Nat):bM (f+1) [] a b=some (a,b):=rfl
theorem Iw (f:Nat) (c:UInt8) (r:Bs) (a:List Int) (b:Option Nat) (h:a.length=8):bM (f+1) (c::r) a b=none:=by simp_all[bM]
theorem Ix (f:Nat) (r:Bs) (a:List Int) (b:Option Nat) (h:a.length≠8):bM (f+1) (58::r) a b=if b.isSome then none else bM f r (a++ [0]) (some (a.length+1)):=by simp_all[bM]
theorem Iy (f:Nat) (c:UInt8) (r:Bs) (b:List Int) (d:Option Nat) (h:b.length≠8) (e:c≠58) (g:((c::r).drop (bA 4 (c::r)).length).head? =some 46):bM (f+1) (c::r) b d=match cB (c::r) with|some a=>if b.length<=6 then some (b++ [a/65536,a%65536],d) else none|none=>none:=by rw[bM,ab h,ab e,ae g];all_goals rfl
theorem Iz (f:Nat) (c:UInt8) (r:Bs) (a:List Int) (b:Option Nat) (h:a.length≠8) (e:c≠58) (g:((c::r).drop (bA 4 (c::r)).length).head?≠some 46) (d:bA 4 (c::r)=[]):bM (f+1) (c::r) a b=none:=by simp_all[bM]
theorem IA (f:Nat) (c:UInt8) (r:Bs) (a:List Int) (d:Option Nat) (h:a.length≠8) (g:c≠58) (e:bA 4 (c::r)≠[]) (b:(c::r).drop (bA 4 (c::r)).length=[]):bM (f+1) (c::r) a d=some (a++ [eF 0 (bA 4 (c::r))],d):=by rw[bM,ab h,ab g,ab (by rw[b];simp),ab e,b]
theorem IB (f:Nat) (c:UInt8) (r:Bs) (a:List Int) (b:Option Nat) (d:UInt8) (y:Bs) (h:a.length≠8) (i:c≠58) (j:d≠46) (e:bA 4 (c::r)≠[]) (g:(c::r).drop (bA 4 (c::r)).length=d::y):bM (f+1) (c::r) a b=if d≠58\/y=[] then none else bM f y (a++ [eF 0 (bA 4 (c::r))]) b:=by simp_all[bM]
def eR:List Nat->Nat
 | []=>0
 |p::l=>if p=0 then eR l+1 else 0
def cZ:List Nat->Nat->Int->Nat->Int×Nat
 | [],_,f,s=>(f,s)
 |p::l,i,f,s=>if s<eR (p::l) then cZ l (i+1) i (eR (p::l)) else cZ l (i+1) f s
def flat (p:Nat):Nat:=if p=0 then 0 else 1
theorem yN:∀l:List Nat,eR (l.map flat)=eR l
 | []=>rfl
 |p::l=>by
  simp[eR,flat,yN]
theorem sO:∀(l:List Nat) (i:Nat) (f:Int) (s:Nat),cZ (l.map flat) i f s=cZ l i f s
 | [],_,_,_=>rfl
 |p::l,i,f,s=>by
  have h:=yN (p::l);show cZ (flat p::l.map flat) i f s=_;have h:eR (flat p::l.map flat)=eR (p::l):=h;rw[cZ,cZ,h,sO l,sO l]
theorem sP:∀(l:List Nat) (i row s k:Nat),bP (l.map flat) i row s k=bP l i row s k
 | [],_,_,_,_=>rfl
 |p::l,i,row,s,k=>by
  show bP (flat p::l.map flat) i row s k=_;rw[bP,bP];by_cases h:p=0
  .simp[flat,sP]
  .simp[flat,sP]
def ga (b:Nat) (j:Nat):Nat:=b/2^j%2
theorem JT:∀b:Fin 256,let l:=[ga b.val 0,ga b.val 1,ga b.val 2,ga b.val 3,ga b.val 4,ga b.val 5,ga b.val 6,ga b.val 7]
 cZ l 0 (-1) 1=if(bP l 0 0 0 0).2<2 then(-1,1) else(((bP l 0 0 0 0).1:Int),(bP l 0 0 0 0).2):=by decide+kernel
theorem kG (p:Nat):flat p<2:=by grind[flat]
theorem JU (e d i g f h a c:Nat) (m:e<2) (q:d<2) (k:i<2) (p:g<2) (l:f<2) (o:h<2) (n:a<2) (j:c<2):∃b:Fin 256,[ga b.val 0,ga b.val 1,ga b.val 2,ga b.val 3,ga b.val 4,ga b.val 5,ga b.val 6,ga b.val 7]=[e,d,i,g,f,h,a,c]:=by refine⟨⟨e+2*d+4*i+8*g+16*f+32*h+64*a+128*c,by omega⟩,?_⟩;unfold ga;simp only[og,and_true];refine⟨by omega,by omega,by omega,by omega,by omega,by omega,by omega,by omega⟩
theorem JV (l:List Nat) (c:l.length=8):cZ l 0 (-1) 1=if(bP l 0 0 0 0).2<2 then(-1,1) else(((bP l 0 0 0 0).1:Int),(bP l 0 0 0 0).2):=by
 match l,c with
 | [p0,p1,p2,p3,p4,p5,p6,p7],_=>obtain⟨b,a⟩:=JU (flat p0) (flat p1) (flat p2) (flat p3) (flat p4) (flat p5) (flat p6) (flat p7) (kG _) (kG _) (kG _) (kG _) (kG _) (kG _) (kG _) (kG _);have h:=JT b;simp only at h;rw[a] at h;have e:[flat p0,flat p1,flat p2,flat p3,flat p4,flat p5,flat p6,flat p7]=[p0,p1,p2,p3,p4,p5,p6,p7].map flat:=rfl;rwa[e,sO,sP] at h
def fv (base n d:Int):Int:=if n*base+d>4294967295 then 4294967296 else n*base+d
def eS (base:Int):Int->Bs->Option Int
 |n,[]=>some n
 |n,c::l=>if aw c.toNat<base then eS base (fv base n (aw c.toNat)) l else none
theorem yO (base a:Int) (b:2<=base) (d:a<=4294967295) (e:0<=a):∀(l:Bs) (n m:Int),a<n->eS base n l=some m->a<m
 | [],n,m,hn,h=>by grind[eS]
 |c::l,n,m,hn,h=>by
  rw[eS] at h;split at h
  .have f:=gy (c.toNat:Int)
   have g:n<=n*base:=(by have:=Int.mul_le_mul_of_nonneg_left (show(1:Int)<=base by omega) (show 0<=n by omega);omega);refine yO base a b d e l _ m ?_ h;unfold fv;split<;>omega
  .cases h
theorem sQ (base a:Int) (b:2<=base) (d:a<=4294967295) (f:0<=a):∀(l:Bs) (n:Int),0<=n->n<=a->bJ base a n l=match eS base n l with|none=>none|some m=>if m<=a then some m else none
 | [],n,h0,hn=>by simp_all[bJ,eS]
 |c::l,n,h0,hn=>by
  have k:=gy (c.toNat:Int);have j:0<=n*base:=ur h0 (by omega);rw[bJ,eS];split
  .rename_i i
   split
   .rename_i g
    have e:fv base n (aw c.toNat)=n*base+aw c.toNat:=(by unfold fv;rw[ab (by omega)]);rw[e];exact sQ base a b d f l _ (by omega) g
   .rename_i g
    cases h:eS base (fv base n (aw c.toNat)) l with
    |none=>rfl
    |some m=>have:=yO base a b d f l _ m (by grind[fv]) h;simp only;rw[ab (by omega)]
  .rfl
def eT (s:Bs):Int×Bs:=if Lib.hasPrefix s [48,120] then(16,s.drop 2) else if 1<s.length/\s.head? =some 48 then(8,s.drop 1) else(10,s)
theorem yP (a:Int) (s:Bs):cd a s=if s=[] then none else bJ (eT s).1 a 0 (eT s).2:=by
 unfold eT;match s with
 | []=>rfl
 | [c]=>simp[Lib.hasPrefix,wH]
 |c::d::l=>grind[Lib.hasPrefix,cd,wH]
def cS:Nat->Nat->List Nat
 |0,_=>[]
 |k+1,n=>cS k n++ [n/256^k%256]
theorem nJ:∀k n:Nat,(cS k n).length=k
 |0,_=>rfl
 |k+1,n=>by rw[cS,cC,nJ k n];rfl
theorem pG:∀(k n x:Nat),x∈cS k n->x<256
 |0,_,_,h=>by cases h
 |k+1,n,x,h=>by
  rw[cS] at h;rcases fm.1 h with h|h
  .exact pG k n x h
  .grind
theorem se (k:Nat):0<256^k:=Nat.pow_pos (by omega)
theorem xL (a n m:Nat):∀k:Nat,k<=m->cS k (a*256^m+n)=cS k n
 |0,_=>rfl
 |k+1,h=>by
  rw[cS,cS,xL a n m k (by omega)];have e:a*256^m=(a*256^(m- k- 1)*256)*256^k:=by rw[BQ,BQ,<-BQ (256^(m- k- 1))];rw[show 256^(m- k- 1)*256*256^k=256^m by rw[<-qP,<-Nat.pow_add];congr 1;omega]
  rw[e,Nat.mul_comm _ (256^k),Nat.mul_add_div (se k),ug,Nat.add_mul_mod_self_right]
theorem sf (a n m:Nat) (b:n<256^m):∀k:Nat,cS m n++cS k a=cS (m+k) (a*256^m+n)
 |0=>by simp[cS,xL]
 |k+1=>by
  rw[<-Nat.add_assoc,cS,cS,<-sf a n m b k,eU];have e:(a*256^m+n)/256^(m+k)=a/256^k:=by rw[Nat.pow_add,<-Nat.div_div_eq_div_mul,Nat.mul_comm a,Nat.mul_add_div (se m),Nat.div_eq_of_lt b,mS]
  rw[e]
theorem Hx (k n:Nat):n/256^k/256=n/256^(k+1):=by grind[Nat.div_div_eq_div_mul]
theorem Hy (k n:Nat):0<n/256^k↔¬n<256^k:=by simp[se]
theorem sg:∀(c:List Bs) (a:Int) (x:Bs),fF a (c++ [x])=match fF a c with|none=>none|some b=>match cd 255 x with|some n=>some (b*256+n)|none=>none
 | [],a,x=>by
  rfl
 |y::c,a,x=>by
  simp only[iL,fF];cases cd 255 y with
  |none=>rfl
  |some n=>simp only;exact sg c _ x
theorem xM:∀(b c:List Bs) (a:Int),fF a b=none->fF a (b++c)=none
 | [],_,a,h=>by grind[fF]
 |x::b,c,a,h=>by
  simp only[iL,fF] at h⊢;cases d:cd 255 x with
  |none=>rfl
  |some n=>rw[d] at h;simp only at h⊢;exact xM b c _ h
def kw (ls:List Bs) (q:Nat) (bs:List Nat):Prop:=
 (q<ls.length/\∃a:Nat,fF 0 (ls.take q)=some (a:Int)/\bs=(cS q a).reverse)\/(q=ls.length/\∃N:Nat,dy ls=some (N:Int)/\bs=(cS 4 N).reverse)
def gz (ls:List Bs) (q:Nat):Nat:=if q+1=ls.length then 5- ls.length else 1
theorem xN (k:Nat):(2:Int)^(8*k)=256^k:=by simp[Int.pow_mul]
theorem si {α:Type} (a:List α) (q:Nat) (h:q<a.length):a.take (q+1)=a.take q++ [a[q]]:=by simp
theorem xO (a:List Bs) (q:Nat) (h:q<a.length) (b:q+1=a.length):a.getLastD []=a[q]:=by grind
theorem Hz (b:List Bs) (q:Nat) (i:List Nat) (h:q<b.length) (g:kw b q i) (c:cd (256^gz b q- 1) b[q]=none):dy b=none:=by
 obtain⟨_,a,f,_⟩|⟨k,_⟩:=g
 .unfold dy
  split
  .rfl
  .rename_i j
   unfold gz at c;by_cases d:q+1=b.length
   .rw[ae d] at c
    have e:b.dropLast=b.take q:=(by rw[BR];congr 1;omega);rw[e,f,xO b q h d,xN,c]
   .rw[ab d] at c
    have e:b.dropLast=b.take (q+1)++(b.take (b.length- 1)).drop (q+1):=by
     rw[BR];conv=>lhs;rw[<-la (q+1) (b.take (b.length- 1))]
     rw[List.take_take];congr 2;omega
    have:fF 0 (b.take (q+1))=none:=by rw[si b q h,sg,f];simp only;rw[show(255:Int)=256^1- 1 by decide,c]
    rw[e,xM _ _ _ this]
 .omega
theorem HW (b:List Bs) (q:Nat) (i:List Nat) (m:Nat) (h:q<b.length) (l:b.length<=4) (k:kw b q i) (g:cd (256^gz b q- 1) b[q]=some (m:Int)) (f:m<256^gz b q):kw b (q+1) (i++(cS (gz b q) m).reverse):=by
 obtain⟨_,a,j,rfl⟩|⟨n,_⟩:=k
 .by_cases c:q+1=b.length
  .have d:gz b q=5- b.length:=ae c
   rw[d] at g f⊢;refine .inr ⟨c,a*256^(5- b.length)+m,?_,?_⟩
   .unfold dy
    rw[ab (by omega)];have e:b.dropLast=b.take q:=(by rw[BR];congr 1;omega);rw[e,j,xO b q h c,xN,g];simp only[kU];rw[Int.natCast_add,Int.natCast_mul,BL];rfl
   .grind[sf]
  .have d:gz b q=1:=ab c
   rw[d] at g f⊢;refine .inl ⟨by omega,a*256+m,?_,?_⟩
   .grind[si,sg]
   .rw[<-qN,sf a m _ f q]
    rw[Nat.pow_one,ug]
 .omega
theorem Ia (c:List Bs) (q:Nat) (b:List Nat) (h:kw c q b) (e:c.length<=4):b.length<=4/\∀x∈b,x<256:=by
 obtain⟨d,a,_,rfl⟩|⟨d,a,_,rfl⟩:=h
 .grind[nJ,pG]
 .grind[nJ,pG]
def fI (l:List Nat):Bs:=Lib.join (l.map Lib.decDigits) [46]
theorem Ib (a:List Nat) (i:Nat) (h:i<a.length) (c:0<i):fI (a.take (i+1))=fI (a.take i)++46::Lib.decDigits a[i]:=by
 rw[si a i h];unfold fI;rw[kg];have b:((a.take i).map Lib.decDigits).length=i:=by simp;omega
 generalize(a.take i).map Lib.decDigits=l at*;cases l with
 |nil=>grind
 |cons x r=>simp[ou,Lib.joinTail]
theorem Ic (a:List Nat) (h:0<a.length):fI (a.take 1)=Lib.decDigits a[0]:=by
 cases a with
 |nil=>simp at h
 |cons x r=>exact Lib.join_one _ _
theorem xP:∀a:List Nat,(∀x∈a,x<256)->(fI a).length<=4*a.length
 | [],_=>aG _
 |x::r,h=>by
  unfold fI;rw[mM,ou];have f:=pj x (h x List.mem_cons_self);have b:∀l:List Nat,(∀x∈l,x<256)->(Lib.joinTail [46] (l.map Lib.decDigits)).length<=4*l.length:=by
   intro l;induction l with
   |nil=>simp[Lib.joinTail]
   |cons y l d=>grind[pj,Lib.joinTail]
  have e:=b r (λx c=>h x (oc _ c));simp;omega
theorem Ie (n:Nat):fI (cS 4 n).reverse=gN n:=by rfl
theorem xQ (k:Nat) (h:k<=4):(256:Int)^k- 1<=4294967295/\0<=(256:Int)^k- 1:=by
 have:k=0\/k=1\/k=2\/k=3\/k=4:=by omega
 rcases this with rfl|rfl|rfl|rfl|rfl<;>decide
theorem sj (s:Bs):2<=(eT s).1/\(eT s).1<=16:=by grind[eT]
theorem If (x:Bs) (k:Nat) (h:k<=4) (a:eS (eT x).1 0 (eT x).2=none):cd (256^k- 1) x=none:=by grind[yP,xQ,sQ,sj]
theorem Ig (x:Bs) (k:Nat) (h:k<=4) (c:x≠[]) (m:Nat) (b:eS (eT x).1 0 (eT x).2=some (m:Int)):cd (256^k- 1) x=if m<256^k then some (m:Int) else none:=by
 rw[yP,ab c];obtain⟨d,a⟩:=xQ k h;rw[sQ _ _ (sj x).1 d a _ 0 (by omega) a,b];simp only;have e:((256^k:Nat):Int)=256^k:=by rw[BL];rfl
 by_cases f:m<256^k
 .grind
 .grind
theorem Ih (base n:Int) (l:Bs) (k:Nat) (h:k<l.length):eS base n (l.drop k)=if aw l[k].toNat<base then eS base (fv base n (aw l[k].toNat)) (l.drop (k+1)) else none:=by rw[ch h];rfl
end Go.Moor
namespace Go.Proofs
open Go.RowKit Go.Moor Go.Proofs.Tryz Go.Moor Go.Shelf
def PS:Go.Shelf.Ren:=⟨λ|0=>0|1=>1|2=>2|99=>82|101=>165|103=>277|104=>138|118=>234|119=>319|120=>300|129=>289|137=>141|138=>215|143=>216|144=>230|145=>112|146=>132|149=>316|151=>299|152=>315|154=>167|155=>107|156=>189|159=>143|160=>241|161=>247|165=>198|166=>96|167=>114|168=>235|169=>97|171=>106|195=>258|197=>217|204=>200|205=>318|206=>137|207=>228|208=>213|210=>301|211=>190|217=>197|218=>259|219=>218|220=>169|221=>186|222=>320|224=>262|225=>261|227=>271|228=>298|230=>199|231=>269|232=>270|233=>272|234=>273|235=>274|236=>275|237=>152|238=>205|240=>158|241=>233|242=>267|243=>166|245=>285|246=>214|260=>260|262=>237|266=>232|267=>263|268=>226|270=>236|271=>276|272=>206|273=>242|274=>296|275=>297|276=>209|277=>266|278=>295|279=>309|280=>310|281=>311|282=>312|283=>254|284=>255|285=>256|286=>257|287=>284|313=>268|314=>293|315=>243|316=>317|317=>288|318=>290|319=>291|320=>292|321=>307|322=>308|337=>313|338=>314|347=>321|348=>322|349=>323|350=>324|351=>325|352=>326|353=>327|354=>328|355=>329|356=>330|357=>331|358=>332|359=>333|360=>336|361=>337|362=>345|363=>366|364=>363|365=>364|366=>344|367=>398|n=>n,λ|0=>0|1=>1|2=>2|3=>3|4=>4|5=>5|6=>6|7=>7|8=>8|9=>9|10=>10|11=>11|12=>12|13=>13|14=>14|15=>15|16=>16|17=>17|18=>18|19=>19|20=>20|21=>21|22=>122|23=>216|24=>108|25=>176|26=>38|27=>244|28=>33|31=>28|37=>47|39=>249|40=>209|41=>219|42=>117|43=>25|46=>161|47=>287|48=>107|49=>335|51=>284|52=>304|53=>151|54=>260|55=>184|59=>157|60=>158|61=>173|63=>297|64=>309|65=>217|66=>150|67=>224|68=>228|69=>84|70=>140|71=>141|72=>142|73=>233|74=>64|75=>65|76=>143|77=>144|78=>159|79=>250|80=>99|81=>169|83=>26|84=>243|102=>256|103=>114|104=>63|105=>245|106=>246|107=>235|108=>145|111=>286|113=>223|114=>264|115=>272|116=>273|117=>274|118=>275|119=>288|121=>234|122=>271|123=>276|124=>277|125=>208|126=>267|127=>212|128=>281|131=>221|137=>289|138=>290|139=>291|142=>251|143=>314|144=>315|145=>316|146=>292|150=>247|151=>293|155=>253|160=>294|161=>295|162=>270|163=>296|164=>124|165=>240|166=>266|167=>300|168=>301|169=>302|170=>303|171=>259|172=>261|173=>262|174=>263|175=>188|176=>255|185=>35|203=>268|204=>269|205=>305|206=>306|207=>307|208=>308|209=>310|210=>311|211=>282|212=>283|213=>285|214=>156|229=>230|232=>312|233=>313|238=>317|239=>318|240=>319|241=>320|242=>321|243=>323|244=>132|245=>324|246=>325|247=>326|248=>327|249=>328|n=>n,λ|1=>16|3=>21|4=>22|13=>19|15=>25|16=>26|17=>20|18=>27|19=>28|n=>n⟩
def PT:Go.Shelf.Ren:=⟨λ|0=>0|1=>1|2=>2|14=>249|16=>284|17=>285|19=>307|20=>308|21=>309|22=>310|23=>311|24=>312|25=>317|26=>318|27=>106|28=>166|29=>214|30=>254|31=>255|32=>256|33=>257|34=>288|35=>289|36=>290|37=>291|38=>292|39=>313|40=>314|41=>321|42=>322|43=>323|44=>324|45=>325|46=>326|47=>327|48=>328|49=>329|50=>330|51=>331|52=>332|53=>333|54=>336|55=>337|56=>363|57=>364|58=>366|59=>344|60=>398|n=>n,λ|0=>0|1=>1|2=>2|3=>3|4=>4|5=>5|6=>6|7=>7|8=>8|9=>9|10=>10|11=>11|12=>12|13=>13|14=>14|15=>15|16=>16|17=>17|18=>18|19=>19|20=>20|21=>21|22=>151|23=>64|24=>65|25=>188|26=>255|27=>189|31=>335|33=>281|34=>300|35=>156|36=>161|37=>47|38=>63|39=>301|40=>302|41=>303|42=>84|43=>310|44=>311|45=>145|46=>26|47=>212|48=>314|49=>315|50=>316|51=>243|52=>259|53=>260|54=>261|55=>262|56=>263|57=>264|58=>282|59=>283|60=>284|61=>285|62=>286|63=>287|64=>304|65=>312|66=>313|67=>99|68=>317|69=>318|70=>319|71=>320|72=>321|73=>169|74=>323|75=>132|76=>324|77=>325|78=>326|79=>327|80=>328|81=>124|n=>n,λ|0=>25|1=>26|2=>20|3=>27|4=>28|n=>n⟩
def PU:Go.Shelf.Ren:=⟨λ|0=>0|1=>1|2=>2|16=>250|40=>321|41=>322|42=>323|43=>324|44=>325|45=>326|46=>327|47=>328|48=>329|49=>330|50=>331|51=>332|52=>333|53=>336|54=>337|55=>344|n=>n,λ|0=>0|1=>1|2=>2|3=>3|4=>4|5=>5|6=>6|7=>7|8=>8|9=>9|10=>10|11=>11|12=>12|13=>13|14=>14|15=>15|16=>16|17=>17|18=>18|19=>19|20=>20|21=>21|22=>33|24=>28|25=>256|27=>45|33=>221|40=>161|42=>286|43=>122|44=>63|46=>99|47=>317|48=>318|49=>319|50=>320|51=>321|52=>169|53=>284|54=>323|55=>132|56=>324|57=>212|58=>325|59=>326|60=>327|61=>328|62=>124|n=>n,λ|n=>n⟩
def Tryz.lays167_ren:Go.Shelf.Ren:=PS
theorem PV:Go.Proofs.Lays.n167 Tryz.prog Tryz.lays167_ren:=by constructor<;>first|kernel_rfl|(intro w;kernel_rfl)|decide|(constructor<;>first|kernel_rfl|(intro w;kernel_rfl))
theorem PW:Builder.Extra Tryz.prog Tryz.lays167_ren:=by constructor<;>first|kernel_rfl|(intro w;kernel_rfl)|decide|(constructor<;>first|kernel_rfl|(intro w;kernel_rfl))
def Tryz.lays166_ren:Go.Shelf.Ren:=PS
theorem PX:Go.Proofs.Lays.n166 Tryz.prog Tryz.lays166_ren:=by constructor<;>first|kernel_rfl|(intro w;kernel_rfl)|decide|(constructor<;>first|kernel_rfl|(intro w;kernel_rfl))
theorem PY:Builder.Extra Tryz.prog Tryz.lays166_ren:=by constructor<;>first|kernel_rfl|(intro w;kernel_rfl)|decide|(constructor<;>first|kernel_rfl|(intro w;kernel_rfl))
def Tryz.lays169_ren:Go.Shelf.Ren:=PS
theorem PZ:Go.Proofs.Lays.n169 Tryz.prog Tryz.lays169_ren:=by constructor<;>first|kernel_rfl|(intro w;kernel_rfl)|decide|(constructor<;>first|kernel_rfl|(intro w;kernel_rfl))
theorem Qa:Builder.Extra Tryz.prog Tryz.lays169_ren:=by constructor<;>first|kernel_rfl|(intro w;kernel_rfl)|decide|(constructor<;>first|kernel_rfl|(intro w;kernel_rfl))
def Tryz.lays159_ren:Go.Shelf.Ren:=PS
theorem Qb:Go.Proofs.Lays.n159 Tryz.prog Tryz.lays159_ren:=by constructor<;>first|kernel_rfl|(intro w;kernel_rfl)|decide|(constructor<;>first|kernel_rfl|(intro w;kernel_rfl))
theorem Qc:Builder.Extra Tryz.prog Tryz.lays159_ren:=by constructor<;>first|kernel_rfl|(intro w;kernel_rfl)|decide|(constructor<;>first|kernel_rfl|(intro w;kernel_rfl))
open Go.RowKit in
theorem Tryz.strings_ToLower_ascii (s:ByteArray) (w:World) (hs:s.size<=140737488355328) (hascii:∀(j:Nat) (b:UInt8),s.data.toList[j]?=some b->b.toNat<128):Calls Tryz.prog 143 #[.string s] w λe w'=>e=.returned (.string ⟨(Lib.toLowerA s.data.toList).toArray⟩)/\Below w.heap.size w w':=Any.strings_ToLower_ascii Qb Qc s w hs hascii
def Tryz.lays156_ren:Go.Shelf.Ren:=PS
theorem Qd:Go.Proofs.Lays.n156 Tryz.prog Tryz.lays156_ren:=by constructor<;>first|kernel_rfl|(intro w;kernel_rfl)|decide|(constructor<;>first|kernel_rfl|(intro w;kernel_rfl))
theorem Qe:Builder.Extra Tryz.prog Tryz.lays156_ren:=by constructor<;>first|kernel_rfl|(intro w;kernel_rfl)|decide|(constructor<;>first|kernel_rfl|(intro w;kernel_rfl))
open Go.RowKit in
theorem Tryz.strings_Join_none (a:Option Addr) (c:Nat) (sep:ByteArray) (w:World):Calls Tryz.prog 189 #[.slice a 0 c,.string sep] w λe w'=>e=.returned (.string ⟨#[]⟩)/\w'=w:=Any.strings_Join_none Qd Qe a c sep w
open Go.RowKit in
theorem Tryz.strings_Join (bk o c:Nat) (xs:List ByteArray) (sep:ByteArray) (w:World) (hcells:∀(j:Nat) x,xs[j]?=some x->w.cell? ⟨bk,o+j,none⟩=some (.string x)) (hbk:bk<w.heap.size) (hN:xs.length<=140737488355328) (hcap:xs.length<=c) (hlen:(Lib.join (xs.map (·.data.toList)) sep.data.toList).length<=140737488355328):Calls Tryz.prog 189 #[.slice (some ⟨bk,o,none⟩) xs.length c,.string sep] w λe w'=>e=.returned (.string ⟨(Lib.join (xs.map (·.data.toList)) sep.data.toList).toArray⟩)/\Below w.heap.size w w':=Any.strings_Join Qd Qe bk o c xs sep w hcells hbk hN hcap hlen
def Tryz.lays161_ren:Go.Shelf.Ren:=PS
theorem Qf:Go.Proofs.Lays.n161 Tryz.prog Tryz.lays161_ren:=by constructor<;>first|kernel_rfl|(intro w;kernel_rfl)|decide|(constructor<;>first|kernel_rfl|(intro w;kernel_rfl))
open Go.RowKit in
theorem Tryz.strings_TrimLeft_one (s:ByteArray) (c:UInt8) (hc:c.toNat<128) (w:World):Calls Tryz.prog 247 #[.string s,.string ⟨#[c]⟩] w λe w'=>e=.returned (.string ⟨(Lib.trimLeftB s.data.toList c).toArray⟩)/\w'=w:=Any.strings_TrimLeft_one Qf s c hc w
def Tryz.lays160_ren:Go.Shelf.Ren:=PS
theorem PR:Go.Proofs.Lays.n160 Tryz.prog Tryz.lays160_ren:=by constructor<;>first|kernel_rfl|(intro w;kernel_rfl)|decide|(constructor<;>first|kernel_rfl|(intro w;kernel_rfl))
def Tryz.lays137_ren:Go.Shelf.Ren:=PS
theorem Qg:Go.Proofs.Lays.n137 Tryz.prog Tryz.lays137_ren:=by constructor<;>first|kernel_rfl|(intro w;kernel_rfl)|decide|(constructor<;>first|kernel_rfl|(intro w;kernel_rfl))
open Go.RowKit in
theorem Tryz.strings_IndexByte (s:ByteArray) (c:Int) (w:World):Calls Tryz.prog 141 #[.string s,.int .u8 c] w λe w'=>e=.returned (.int .i64 (Lib.indexByte s.data.toList c.toNat.toUInt8))/\w'=w:=Any.strings_IndexByte Qg s c w
def Tryz.lays103_ren:Go.Shelf.Ren:=PS
theorem Qh:Go.Proofs.Lays.n103 Tryz.prog Tryz.lays103_ren:=by constructor<;>first|kernel_rfl|(intro w;kernel_rfl)|decide|(constructor<;>first|kernel_rfl|(intro w;kernel_rfl))
open Go.RowKit in
theorem Tryz.strings_CutPrefix (s p:ByteArray) (w:World):Calls Tryz.prog 277 #[.string s,.string p] w λe w'=>e=.returned (.tuple #[.string ⟨(Lib.trimPrefix s.data.toList p.data.toList).toArray⟩,.bool (Lib.hasPrefix s.data.toList p.data.toList)])/\w'=w:=Any.strings_CutPrefix Qh s p w
def Tryz.lays104_ren:Go.Shelf.Ren:=PS
theorem Qi:Go.Proofs.Lays.n104 Tryz.prog Tryz.lays104_ren:=by constructor<;>first|kernel_rfl|(intro w;kernel_rfl)|decide|(constructor<;>first|kernel_rfl|(intro w;kernel_rfl))
open Go.RowKit in
theorem Tryz.strings_CutSuffix (s p:ByteArray) (w:World) (hs:s.size<=9223372036854775807):Calls Tryz.prog 138 #[.string s,.string p] w λe w'=>e=.returned (.tuple #[.string ⟨(Lib.trimSuffix s.data.toList p.data.toList).toArray⟩,.bool (Lib.hasSuffix s.data.toList p.data.toList)])/\w'=w:=Any.strings_CutSuffix Qi s p w hs
open Go.RowKit in
theorem Tryz.Builder_WriteByte_k (B b:Nat) (bs:List Value) (c:Int) (w:World) (h:Lib.IsBuilderF 142 5 B b bs w) (hlen:bs.length+1<=140737488355328) (hBw:B<=w.heap.size):Calls Tryz.prog 114 #[.pointer (some ⟨b,0,none⟩),.int .u8 c] w λe w'=>e=.returned .nilIface/\(Lib.BuilderAtF 142 5 B b (.pointer (some ⟨b,0,none⟩)) (bs++ [.int .u8 c]) w'/\Below B w w'/\Lib.OthersKept 5 (some b) w w'):=Any.Builder_WriteByte_k PV PW B b bs c w h hlen hBw
open Go.RowKit in
theorem Tryz.Builder_WriteString_k (B b:Nat) (bs:List Value) (s:ByteArray) (w:World) (h:Lib.IsBuilderF 142 5 B b bs w) (hlen:bs.length+s.size<=140737488355328) (hBw:B<=w.heap.size):Calls Tryz.prog 96 #[.pointer (some ⟨b,0,none⟩),.string s] w λe w'=>e=.returned (.tuple #[.int .i64 s.size,.nilIface])/\(Lib.BuilderAtF 142 5 B b (.pointer (some ⟨b,0,none⟩)) (bs++Lib.strCells s) w'/\Below B w w'/\Lib.OthersKept 5 (some b) w w'):=Any.Builder_WriteString_k PX PY B b bs s w h hlen hBw
open Go.RowKit in
theorem Tryz.Builder_String_any_k (B b:Nat) (l:List UInt8) (w:World) (h:Lib.IsBuilderF 142 5 B b (Lib.byteCells l) w) (hBw:B<=w.heap.size):Calls Tryz.prog 97 #[.pointer (some ⟨b,0,none⟩)] w λe w'=>e=.returned (.string ⟨l.toArray⟩)/\(Lib.IsBuilderF 142 5 B b (Lib.byteCells l) w'/\Below B w w'/\Lib.OthersKept 5 (some b) w w'):=Any.Builder_String_any_k PZ Qa B b l w h hBw
def Tryz.lays283_ren:Go.Shelf.Ren:=PS
theorem Qj:Go.Proofs.Lays.n283 Tryz.prog Tryz.lays283_ren:=by constructor<;>first|kernel_rfl|(intro w;kernel_rfl)|decide|(constructor<;>first|kernel_rfl|(intro w;kernel_rfl))
open Go.Lib in
theorem Tryz.internal_strconv_small (i:Nat) (h:i<100) (w:World):Calls Tryz.prog 254 #[.int .i64 i] w λe w'=>e=.returned (.string ⟨(Lib.decDigits i).toArray⟩)/\w'=w:=Any.internal_strconv_small Qj i h w
def Tryz.laysM284_ren:Go.Shelf.Ren:=PS
theorem Qk:Go.Proofs.LaysM.n284 Tryz.prog Tryz.laysM284_ren:=by constructor<;>first|kernel_rfl|(intro w;kernel_rfl)|decide|(constructor<;>first|kernel_rfl|(intro w;kernel_rfl))
open Go.Lib in
theorem Tryz.internal_strconv_numDigits (u:Nat) (h1:1<=u) (h2:u<18446744073709551616) (w:World) (htab:Lib.TabIs Tryz.prog w "internal/strconv.uint64pow10" .u64 Lib.pow10Tab):Calls Tryz.prog 255 #[.int .u64 u] w λe w'=>e=.returned (.int .i64 (Lib.nDigits u))/\w'=w:=Any.internal_strconv_numDigits Qk u h1 h2 w htab
def Tryz.lays285_ren:Go.Shelf.Ren:=PS
theorem Ql:Go.Proofs.Lays.n285 Tryz.prog Tryz.lays285_ren:=by constructor<;>first|kernel_rfl|(intro w;kernel_rfl)|decide|(constructor<;>first|kernel_rfl|(intro w;kernel_rfl))
open Go.RowKit Go.Sort Go.Lib in
theorem Tryz.internal_strconv_formatBase10 (blk off cap:Nat) (u:Nat) (d:Array UInt8) (w:World) (hH:Holds (λ(b:UInt8)=>Value.int .u8 (b.toNat:Int)) w blk off d) (hu:u<10^d.size) (hu64:u<18446744073709551616) (hsz:d.size<4611686018427387904):Calls Tryz.prog 256 #[.slice (some ⟨blk,off,none⟩) d.size cap,.int .u64 u] w λe w'=>e=.returned (.tuple #[])/\∃(n v':Nat) (dk:Array UInt8),w'=(putRow (λ(b:UInt8)=>Value.int .u8 (b.toNat:Int)) w blk off dk).drewN n/\FmtInv d.size u 0 v' dk:=Any.internal_strconv_formatBase10 Ql blk off cap u d w hH hu hu64 hsz
def Tryz.laysM171_ren:Go.Shelf.Ren:=PS
theorem Qm:Go.Proofs.LaysM.n171 Tryz.prog Tryz.laysM171_ren:=by constructor<;>first|kernel_rfl|(intro w;kernel_rfl)|decide|(constructor<;>first|kernel_rfl|(intro w;kernel_rfl))
open Go.RowKit Go.Sort Go.Lib in
theorem Tryz.strconv_Itoa (n:Int) (h0: -9223372036854775808<=n) (h1:n<=9223372036854775807) (w:World) (htab:Lib.TabIs Tryz.prog w "internal/strconv.uint64pow10" .u64 Lib.pow10Tab):Calls Tryz.prog 106 #[.int .i64 n] w λe w'=>e=.returned (.string ⟨(Lib.itoa n).toArray⟩)/\∃k os,w'=grow (w.drewN k) os:=Any.strconv_Itoa Qm n h0 h1 w htab
def Tryz.laysPu14_ren:Go.Shelf.Ren:=PT
theorem Qn:Go.Proofs.LaysPu.n14 Tryz.prog Tryz.laysPu14_ren:=by constructor<;>first|kernel_rfl|(intro w;kernel_rfl)|decide|(constructor<;>first|kernel_rfl|(intro w;kernel_rfl))
open Go.RowKit in
theorem Tryz.strconv_ParseUint_10_at16_ok (s:ByteArray) (hmax:s.size<=9223372036854775806) (u:Nat) (h:Lib.parseUintB 16 s.data.toList=.ok u) (w:World):Calls Tryz.prog 249 #[.string s,.int .i64 10,.int .i64 16] w λe w'=>e=.returned (.tuple #[.int .u64 u,.nilIface])/\(w'=w\/w'=Lib.bytesWorld w 5 s):=Any.strconv_ParseUint_10_at16_ok Qn s hmax u h w
open Go.RowKit in
theorem Tryz.strconv_ParseUint_10_at16_syntax (s:ByteArray) (hlim:s.size<=281474976710656) (h:Lib.parseUintB 16 s.data.toList=.«syntax») (ev:Value) (w:World) (hv:w.cell? ⟨25,0,none⟩=some ev) (hev:ev=.nilIface\/∃te pe,ev=.iface te pe):Calls Tryz.prog 249 #[.string s,.int .i64 10,.int .i64 16] w λe w'=>∃N,e=.returned (.tuple #[.int .u64 0,.iface 301 (.pointer (some ⟨N,0,none⟩))])/\w.heap.size<=N/\w'.heap[N]?=some (.cells #[.string ⟨#[80,97,114,115,101,85,105,110,116]⟩,.string s,ev] 311 (0,0))/\Below w.heap.size w w':=Any.strconv_ParseUint_10_at16_syntax Qn s hlim h ev w hv hev
open Go.RowKit in
theorem Tryz.strconv_ParseUint_10_at16_range (s:ByteArray) (hlim:s.size<=281474976710656) (h:Lib.parseUintB 16 s.data.toList=.range) (ev:Value) (w:World) (hv:w.cell? ⟨26,0,none⟩=some ev) (hev:ev=.nilIface\/∃te pe,ev=.iface te pe):Calls Tryz.prog 249 #[.string s,.int .i64 10,.int .i64 16] w λe w'=>∃N,e=.returned (.tuple #[.int .u64 65535,.iface 301 (.pointer (some ⟨N,0,none⟩))])/\w.heap.size<=N/\w'.heap[N]?=some (.cells #[.string ⟨#[80,97,114,115,101,85,105,110,116]⟩,.string s,ev] 311 (0,0))/\Below w.heap.size w w':=Any.strconv_ParseUint_10_at16_range Qn s hlim h ev w hv hev
def Tryz.lays144_ren:Go.Shelf.Ren:=PS
theorem Qo:Go.Proofs.Lays.n144 Tryz.prog Tryz.lays144_ren:=by constructor<;>first|kernel_rfl|(intro w;kernel_rfl)|decide|(constructor<;>first|kernel_rfl|(intro w;kernel_rfl))
open Go.RowKit Go.Lib in
theorem Tryz.strings_Contains_one (s:ByteArray) (c:UInt8) (w:World):Calls Tryz.prog 230 #[.string s,.string ⟨#[c]⟩] w λe w'=>e=.returned (.bool (decide (0<=Lib.indexByte s.data.toList c)))/\w'=w:=Any.strings_Contains_one Qo s c w
def Tryz.lays145_ren:Go.Shelf.Ren:=PS
theorem Qp:Go.Proofs.Lays.n145 Tryz.prog Tryz.lays145_ren:=by constructor<;>first|kernel_rfl|(intro w;kernel_rfl)|decide|(constructor<;>first|kernel_rfl|(intro w;kernel_rfl))
open Go.RowKit Go.Lib in
theorem Tryz.strings_Cut (s sep:ByteArray) (m:Int) (w:World) (hs:s.size<4294967281) (hm:w.cell? ⟨16,0,none⟩=some (.int .i64 m)):Calls Tryz.prog 112 #[.string s,.string sep] w λe w'=>e=.returned (.tuple #[.string ⟨(Lib.cut s.data.toList sep.data.toList).1.toArray⟩,.string ⟨(Lib.cut s.data.toList sep.data.toList).2.1.toArray⟩,.bool (Lib.cut s.data.toList sep.data.toList).2.2])/\∃n,w'=w.drewN n:=Any.strings_Cut Qp s sep m w hs hm
def Tryz.lays149_ren:Go.Shelf.Ren:=PS
theorem Qq:Go.Proofs.Lays.n149 Tryz.prog Tryz.lays149_ren:=by constructor<;>first|kernel_rfl|(intro w;kernel_rfl)|decide|(constructor<;>first|kernel_rfl|(intro w;kernel_rfl))
open Go.RowKit Go.Lib in
theorem Tryz.strings_LastIndexByte (s:ByteArray) (c:Int) (hs:s.size<4611686018427387904) (w:World):Calls Tryz.prog 316 #[.string s,.int .u8 c] w λe w'=>e=.returned (.int .i64 (Lib.lastIndexByte s c))/\w'=w:=Any.strings_LastIndexByte Qq s c hs w
def Tryz.lays237_ren:Go.Shelf.Ren:=PS
theorem Qr:Go.Proofs.Lays.n237 Tryz.prog Tryz.lays237_ren:=by constructor<;>first|kernel_rfl|(intro w;kernel_rfl)|decide|(constructor<;>first|kernel_rfl|(intro w;kernel_rfl))
open Go.RowKit Go.Lib in
theorem Tryz.strings_TrimFunc (g:Nat) (lb:Array Value) (eg:∀args w,(callFunc g args).run Tryz.prog w=.ok (.enter g args) w) (p:Nat->Bool) (s:ByteArray) (w:World) (hs:s.size<=9223372036854775807) (hT:Lib.Utf8Tabs 21 22 w) (hp:PredAt Tryz.prog g lb encR p w):Calls Tryz.prog 152 #[.string s,.func (.func g) #[] lb] w λe w'=>e=.returned (.string (Lib.trimF p s))/\Below w.heap.size w w':=Any.strings_TrimFunc Qr g lb eg p s w hs hT hp
def Tryz.lays99_ren:Go.Shelf.Ren:=PS
theorem Qs:Go.Proofs.Lays.n99 Tryz.prog Tryz.lays99_ren:=by constructor<;>first|kernel_rfl|(intro w;kernel_rfl)|decide|(constructor<;>first|kernel_rfl|(intro w;kernel_rfl))
open Go.RowKit Go.Lib in
theorem Tryz.strings_HasPrefix (s p:ByteArray) (w:World):Calls Tryz.prog 82 #[.string s,.string p] w λe w'=>e=.returned (.bool (Lib.hasPrefix s.data.toList p.data.toList))/\w'=w:=Any.strings_HasPrefix Qs s p w
def Tryz.lays101_ren:Go.Shelf.Ren:=PS
theorem Qt:Go.Proofs.Lays.n101 Tryz.prog Tryz.lays101_ren:=by constructor<;>first|kernel_rfl|(intro w;kernel_rfl)|decide|(constructor<;>first|kernel_rfl|(intro w;kernel_rfl))
open Go.RowKit Go.Lib in
theorem Tryz.strings_TrimPrefix (s p:ByteArray) (w:World):Calls Tryz.prog 165 #[.string s,.string p] w λe w'=>e=.returned (.string ⟨(Lib.trimPrefix s.data.toList p.data.toList).toArray⟩)/\w'=w:=Any.strings_TrimPrefix Qt s p w
def Tryz.lays146_ren:Go.Shelf.Ren:=PS
theorem Qu:Go.Proofs.Lays.n146 Tryz.prog Tryz.lays146_ren:=by constructor<;>first|kernel_rfl|(intro w;kernel_rfl)|decide|(constructor<;>first|kernel_rfl|(intro w;kernel_rfl))
open Go.RowKit Go.Lib in
theorem Tryz.strings_Split (s sep:ByteArray) (m:Int) (w:World) (hs:s.size<4294967281) (hm:w.cell? ⟨16,0,none⟩=some (.int .i64 m)) (h1:1<=sep.size):Calls Tryz.prog 132 #[.string s,.string sep] w λe w'=>e=.returned (.slice (some ⟨w.heap.size,0,none⟩) (Lib.countB s sep+1) (Lib.countB s sep+1))/\w'=w.alloc (.cells ((Lib.splitB sep 0 (Lib.countB s sep) s).map Value.string).toArray 9):=Any.strings_Split Qu (by kernel_rfl) s sep m w hs hm h1
def Tryz.lays155_ren:Go.Shelf.Ren:=PS
theorem Qv:Go.Proofs.Lays.n155 Tryz.prog Tryz.lays155_ren:=by constructor<;>first|kernel_rfl|(intro w;kernel_rfl)|decide|(constructor<;>first|kernel_rfl|(intro w;kernel_rfl))
theorem Qw:Builder.Extra Tryz.prog Tryz.lays155_ren:=by constructor<;>first|kernel_rfl|(intro w;kernel_rfl)|decide|(constructor<;>first|kernel_rfl|(intro w;kernel_rfl))
open Go.RowKit Go.Lib in
theorem Tryz.strings_ReplaceAll (s old new:ByteArray) (m:Int) (w:World) (hs:s.size<4294967281) (hm:w.cell? ⟨16,0,none⟩=some (.int .i64 m)) (h1:1<=old.size) (hlen:s.size+Lib.countB s old*new.size<=140737488355328):Calls Tryz.prog 107 #[.string s,.string old,.string new] w λe w'=>e=.returned (.string ⟨(Lib.replaceAll s.data.toList old.data.toList new.data.toList).toArray⟩)/\Below w.heap.size w w':=Any.strings_ReplaceAll Qv Qw s old new m w hs hm h1 hlen
def Tryz.laysNm216_ren:Go.Shelf.Ren:=PU
theorem Qx:Go.Proofs.Lays2.n16 Tryz.prog Tryz.laysNm216_ren:=by constructor<;>first|kernel_rfl|(intro w;kernel_rfl)|decide|(constructor<;>first|kernel_rfl|(intro w;kernel_rfl))
open Go.RowKit Go.Lib in
theorem Tryz.slices_Clone_string (b off n c:Nat) (zs:List ByteArray) (w:World) (hz:n<=zs.length) (hbig:n*16<=140737488355328) (hc:∀j,j<zs.length->w.cell? ⟨b,off+j,none⟩=some (.string (zs.getD j ByteArray.empty))):Calls Tryz.prog 250 #[.slice (some ⟨b,off,none⟩) n c] w λe w'=>∃v',e=.returned v'/\w'.ownsRow w.heap.size 9 1 v' n ((zs.take n).map (Value.string))/\v'≠.slice none 0 0/\Below w.heap.size w w':=Any.slices_Clone_string Qx b off n c zs w hz hbig hc
open Go.RowKit Go.Lib in
theorem Tryz.slices_Clone_string_nil (n c:Nat) (w:World):Calls Tryz.prog 250 #[.slice none n c] w λe w'=>e=.returned (.slice none 0 0)/\w'=w:=Any.slices_Clone_string_nil Qx n c w
open Go.RowKit Go.Lib in
theorem Tryz.slices_Clone_string_zero (a:Addr) (c:Nat) (w:World):Calls Tryz.prog 250 #[.slice (some a) 0 c] w λe w'=>∃v',e=.returned v'/\w'.ownsRow w.heap.size 9 1 v' 0 []/\v'≠.slice none 0 0/\Below w.heap.size w w':=Any.slices_Clone_string_zero Qx a c w
end Go.Proofs
namespace Go.Proofs
open Go.RowKit Go.Moor Go.Proofs.Tryz Go.Moor
def je (w:World):Prop:=∀k,k<28->w.cell? ⟨13,k,none⟩=some (.int .u64 (fG k))
theorem tY (a b c d:Int) (x:UInt8) (w:World):Calls prog 168 #[.agg #[.int .u64 a,.int .u64 b,.int .u64 c,.int .u64 d],.int .u8 x.toNat] w fun e w'=>e=.returned (.bool (fH [a,b,c,d] x.toNat))/\Bl w w':=by
 have h:Hid (∀o:Obj,Bl w (w.alloc o)):=fun o=>(ai _ _).alloc .refl o;have k:=x.toNat_lt;have f:(x.toNat:Int)/64=0\/(x.toNat:Int)/64=1\/(x.toNat:Int)/64=2\/(x.toNat:Int)/64=3:=by omega
 have j:0<=(x.toNat:Int):=by omega
 have l:(x.toNat:Int)<256:=by omega
 obtain⟨y,i⟩:=am (x.toNat:Int);rw[<-i] at f j l⊢;clear i k;obtain f|f|f|f:=f
 .have g:Hid (fH [a,b,c,d] y=(bits .and .u64 (a/2^(y%64).toNat) 1==1)):=hI (by unfold fH;rw[f];rfl)
  go_enter func168,ntmps168;go_wp2;go_ret;rw[g.out];exact⟨rfl,h _⟩
 .have g:Hid (fH [a,b,c,d] y=(bits .and .u64 (b/2^(y%64).toNat) 1==1)):=hI (by unfold fH;rw[f];rfl)
  go_enter func168,ntmps168;go_wp2;go_ret;rw[g.out];exact⟨rfl,h _⟩
 .have g:Hid (fH [a,b,c,d] y=(bits .and .u64 (c/2^(y%64).toNat) 1==1)):=hI (by unfold fH;rw[f];rfl)
  go_enter func168,ntmps168;go_wp2;go_ret;rw[g.out];exact⟨rfl,h _⟩
 .have g:Hid (fH [a,b,c,d] y=(bits .and .u64 (d/2^(y%64).toNat) 1==1)):=hI (by unfold fH;rw[f];rfl)
  go_enter func168,ntmps168;go_wp2;go_ret;rw[g.out];exact⟨rfl,h _⟩
theorem OK {w:World} {o:Obj} {p:Go.Addr} {v:Value} (h:w.cell? p=some v) (hz:p.block<w.heap.size):(w.alloc o).cell? p=some v:=by rw[((ai w.hz w).alloc .refl o).cell hz];exact h
section
variable {P : Program}
theorem OL (w:World) (g off:Nat) (b:TypeId) (a:Array Value) (d:TypeDesc) (n:∀(j:Nat) v,a.toList[j]?=some v->Ce w g (off+j) v) (l:P.underlying b=some d) (o:(match d with| .struct _| .array _ _=>true|_=>false)=true) (f:(P.info? b).map (·.size)=some a.size):(loadVar b ⟨g,off,none⟩).run P w=.ok (.agg a) w:=by
 have e:=
  run_loadCells_list (P:=P) w (Ad g off) a.toList (λj v m=>by
   grind[Go.Addr.add])
 cases c:P.info? b with
 |none=>simp[c] at f
 |some i=>
  have k:i.size=a.size:=by simpa[c] using f
  have h:(isAgg b).run P w=.ok true w:=by unfold isAgg;rw[jg,qY l w];cases d<;>simp_all
  simp only[bT,Array.toArray_toList] at e;simp[loadVar,jg,h,sizeOf,typeInfo,c,k,e]
theorem OM {o:Oper} {a:Act} {w:World} {K:Act->World->Prop} {Q:Exit->Act->World->Prop} (c:TypeId) (x:Operand) (l:o.op=.load c x) (g off:Nat) (i:a.eval x=.pointer (some ⟨g,off,none⟩)) (b:Array Value) (d:TypeDesc) (e:∀(j:Nat) v,b.toList[j]?=some v->Ce w g (off+j) v) (k:P.underlying c=some d) (m:(match d with| .struct _| .array _ _=>true|_=>false)=true) (f:(P.info? c).map (·.size)=some b.size) (h:K (a.put o.dst (.agg b)) w):o.wp P a w K Q:=by unfold Oper.wp execOp;simp only[l,i,Instr.loadAt,Instr.sureAddr,jg,uE,uF,OL w g off c b d e k m f];exact h
theorem ON {e:Array Oper} {rest:List Oper} {o:Oper} {a:Act} {w:World} {Q:Exit->Act->World->Prop} (f:o.guard=none) (c:TypeId) (x:Operand) (n:o.op=.load c x) (g off:Nat) (l:a.eval x=.pointer (some ⟨g,off,none⟩)) (b:Array Value) (d:TypeDesc) (i:∀(j:Nat) v,b.toList[j]?=some v->Ce w g (off+j) v) (m:P.underlying c=some d) (p:(match d with| .struct _| .array _ _=>true|_=>false)=true) (k:(P.info? c).map (·.size)=some b.size) (h:wpList P e Q rest (a.put o.dst (.agg b)) w):wpList P e Q (o::rest) a w:=
 wpList_plain f λ_ q=>OM c x n g off l b d i m p k (q _ _ h)
end
theorem lC:(prog.info? 153).map (·.size)=some 4:=by kernel_rfl
def kS:Array Value:=#[.int .u64 0,.int .u64 0,.int .u64 0,.int .u64 0]
def ii (a b c d:Int):Array Value:=#[.int .u64 a,.int .u64 b,.int .u64 c,.int .u64 d]
theorem OO (a b c d:Int):(ii a b c d).all (·.oneCell')=true:=by simp[ii,Value.oneCell']
theorem OP (s:Int) (a b c d:Int) (w:World) (q:0<=s) (r:s<7) (hz:13<w.heap.size) (k:Ce w 13 (s.toNat*4) (.int .u64 a)) (i:Ce w 13 (s.toNat*4+1) (.int .u64 b)) (l:Ce w 13 (s.toNat*4+2) (.int .u64 c)) (p:Ce w 13 (s.toNat*4+3) (.int .u64 d)):Calls prog 108 #[.int .i64 s] w fun e w'=>e=.returned (.agg #[.int .u64 a,.int .u64 b,.int .u64 c,.int .u64 d])/\Bl w w':=by
 obtain⟨W,g⟩:=am (w.alloc (.cells kS 153));have m:Hid (Bl w W):=by rw[g];exact(ai _ _).alloc .refl _
 have o:Hid (∀(j:Nat) v,(ii a b c d).toList[j]?=some v->Ce W 13 (s.toNat*4+j) v):=by
  intro j v f;rw[g];refine OK ?_ hz;match j,f with
  |0,f=>cases f;exact k
  |1,f=>cases f;exact i
  |2,f=>cases f;exact l
  |3,f=>cases f;exact p
  |n+4,f=>cases f
 have h:Hid (W.heap[w.hz]?=some (.cells kS 153 (0,0))):=hI (by rw[g];exact dO w _);go_enter func108,ntmps108;go_wp2_with(first|refine ON rfl 153 _ rfl 13 (s.toNat*4) rfl (ii a b c d) _ (by have:=o;rwa[g] at this) underlying153 rfl lC ?_|refine aY rfl 153 _ _ rfl w.hz (ii a b c d) rfl rfl 153 kS (by have:=h;rwa[g] at this) lC rfl (OO a b c d) ?_);(try simp only[Exit.inBlock,Exit.then]);refine aO (v:=.agg (ii a b c d)) ?_ rfl ⟨rfl,?_⟩
 .exact lD rfl _ _ w.hz 153 (ii a b c d) (0,0) _ rfl (bH _ w.hz kS (ii a b c d) 153 (0,0) (by have:=h;rwa[g] at this)) underlying153 rfl lC
 .refine aZ ?_ .refl _
  have:=m;rwa[g] at this
theorem OQ (s:Int) (w:World) (b:s<0):Calls prog 108 #[.int .i64 s] w fun e w'=>e=.returned (.agg #[.int .u64 0,.int .u64 0,.int .u64 0,.int .u64 0])/\Bl w w':=by have a:Hid (∀o:Obj,Bl w (w.alloc o)):=fun o=>(ai _ _).alloc .refl o;go_enter func108,ntmps108;go_wp2;refine aO (v:=.agg kS) ?_ rfl ⟨rfl,a _⟩;exact lD rfl _ _ w.hz 153 kS (0,0) _ rfl (dO w _) underlying153 rfl lC
theorem OR (s:Int) (w:World) (b:7<=s):Calls prog 108 #[.int .i64 s] w fun e w'=>e=.returned (.agg #[.int .u64 0,.int .u64 0,.int .u64 0,.int .u64 0])/\Bl w w':=by have a:Hid (∀o:Obj,Bl w (w.alloc o)):=fun o=>(ai _ _).alloc .refl o;go_enter func108,ntmps108;go_wp2;refine aO (v:=.agg kS) ?_ rfl ⟨rfl,a _⟩;exact lD rfl _ _ w.hz 153 kS (0,0) _ rfl (dO w _) underlying153 rfl lC
def qA (ws:List Int):Value:=.agg #[.int .u64 (ws.getD 0 0),.int .u64 (ws.getD 1 0),.int .u64 (ws.getD 2 0),.int .u64 (ws.getD 3 0)]
theorem Ba (s:Int) (w:World) (a:je w) (hz:13<w.heap.size):Calls prog 108 #[.int .i64 s] w λe w'=>e=.returned (qA (dW s))/\Bl w w':=by
 by_cases b:s<0
 .have e:dW s=[0,0,0,0]:=by unfold dW;rw[ab (by omega)]
  rw[e];exact OQ s w b
 .by_cases c:7<=s
  .have e:dW s=[0,0,0,0]:=by unfold dW;rw[ab (by omega)]
   rw[e];exact OR s w c
  .have e:dW s=[fG (s.toNat*4),fG (s.toNat*4+1),fG (s.toNat*4+2),fG (s.toNat*4+3)]:=by unfold dW;rw[ae (by omega)]
   rw[e];exact OP s _ _ _ _ w (by omega) (by omega) hz (a _ (by omega)) (a _ (by omega)) (a _ (by omega)) (a _ (by omega))
theorem Bb (s:Int) (c:UInt8) (w:World) (d:je w) (hz:13<w.heap.size):Calls prog 142 #[.int .i64 s,.int .u8 c.toNat] w fun e w'=>e=.returned (.bool (cI s c.toNat))/\Bl w w':=by
 have a:=hI (Ba s w d hz);have g:Hid (fH [(dW s).getD 0 0,(dW s).getD 1 0,(dW s).getD 2 0,(dW s).getD 3 0] c.toNat=cI s c.toNat):=by show _=_;rw[<-xI];unfold dW;split<;>rfl
 unfold qA at a;generalize(dW s).getD 0 0=i at*;generalize(dW s).getD 1 0=h at*;generalize(dW s).getD 2 0=l at*;generalize(dW s).getD 3 0=k at*;go_enter func142,ntmps142;go_wp21;refine mR a.out fun j b=>?_;go_wp21;refine mR (tY i h l k c j) fun m f=>?_;go_wp2;go_ret;rw[g.out];exact⟨rfl,b.trans (f.mono b.size)⟩
theorem OS (b:Int) (w:World) (g:0<=b) (d:b<256) (h:48<=b/\b<=57):Calls prog 115 #[.int .u8 b] w fun e w'=>e=.returned (.int .u64 (aw b))/\w'=w:=by
 have a:aw b=b- 48:=by unfold aw;rw[ae h]
 rw[a];obtain⟨f,c⟩:=h;go_enter func115,ntmps115;go_wp2;go_ret;exact⟨rfl,rfl⟩
theorem OT (b:Int) (w:World) (g:0<=b) (d:b<256) (h:65<=b/\b<=70):Calls prog 115 #[.int .u8 b] w fun e w'=>e=.returned (.int .u64 (aw b))/\w'=w:=by
 have a:aw b=b- 65+10:=by unfold aw;rw[ab (by omega),ae h];omega
 rw[a];obtain⟨f,c⟩:=h;go_enter func115,ntmps115;go_wp2;go_ret;exact⟨rfl,rfl⟩
theorem OU (b:Int) (w:World) (g:0<=b) (d:b<256) (h:97<=b/\b<=102):Calls prog 115 #[.int .u8 b] w fun e w'=>e=.returned (.int .u64 (aw b))/\w'=w:=by
 have a:aw b=b- 97+10:=by unfold aw;rw[ab (by omega),ab (by omega),ae h];omega
 rw[a];obtain⟨f,c⟩:=h;go_enter func115,ntmps115;go_wp2;go_ret;exact⟨rfl,rfl⟩
theorem OV (b:Int) (w:World) (k:0<=b) (j:b<256) (i:¬(48<=b/\b<=57)) (c:¬(65<=b/\b<=70)) (g:¬(97<=b/\b<=102)):Calls prog 115 #[.int .u8 b] w fun e w'=>e=.returned (.int .u64 (aw b))/\w'=w:=by
 have a:aw b=16:=by unfold aw;rw[ab i,ab c,ab g]
 rw[a];have d:(b<48)\/(57<b/\b<65)\/(70<b/\b<97)\/102<b:=by omega
 rcases d with h|⟨h,f⟩|⟨h,f⟩|h<;>go_enter func115,ntmps115<;>go_wp2<;>go_ret<;>exact⟨rfl,rfl⟩
theorem mF (b:Int) (w:World) (c:0<=b) (a:b<256):Calls prog 115 #[.int .u8 b] w λe w'=>e=.returned (.int .u64 (aw b))/\w'=w:=by
 by_cases g:48<=b/\b<=57
 .exact OS b w c a g
 .by_cases d:65<=b/\b<=70
  .exact OT b w c a d
  .by_cases f:97<=b/\b<=102
   .exact OU b w c a f
   .exact OV b w c a g d f
def jD (base:Int) (l:List UInt8):Bool:=l.all λc=>decide (aw c.toNat<base)
theorem Bc (base:Int) (s:ByteArray) (k:Nat) (h:k<s.size):jD base (s.data.toList.drop k)=(decide (aw s[k].toNat<base)&&jD base (s.data.toList.drop (k+1))):=by unfold jD;rw[ch (by simpa using h),List.all_cons];rfl
theorem tZ (s:ByteArray) (base:Int) (w:World) (d:s.size<=maxLen):Calls prog 170 #[.string s,.int .u64 base] w fun e w'=>e=.returned (.bool (jD base s.data.toList))/\w'=w:=by
 unfold maxLen at d;have g:Hid (jD base s.L=jD base (s.L.drop 0)):=by simp[Hid]
 rw[g.out];generalize b:jD base (s.L.drop 0)=h;have f:=hI b;clear b;go_enter func170,ntmps170;go_wp2;go_loop [5] (fun i=>∃k:Nat,k<=s.size/\i=Iv k/\jD base (s.L.drop k)=h) (fun i=>s.size-(intOf i).toNat)
 case atStart=>exact⟨0,aR _,rfl,f⟩
 case round=>
  obtain⟨k,m,rfl,(a:Hid _)⟩:=hrel;by_cases c:k<s.size
  .have l:=s[k].toNat_lt
   by_cases j:aw s[k].toNat<base
   .go_wp2_with(go_at_call 115;refine(mF _ _ (by omega) (by omega)).mono ?_;rintro e w' ⟨rfl,rfl⟩)
    go_round
    case rel=>exact⟨k+1,by omega,by go_num,by have:=a;rw[Bc base s k c,dC j,qU] at this;exact this⟩
    case measure=>grind[intOf]
   .go_wp2_with(go_at_call 115;refine(mF _ _ (by omega) (by omega)).mono ?_;rintro e w' ⟨rfl,rfl⟩)
    go_ret;refine⟨?_,rfl⟩;have:=a;rw[Bc base s k c,ee (by omega),qV] at this;rw[<-this];rfl
  .go_wp2
   go_ret;refine⟨?_,rfl⟩;have:=a;rw[eW (by simp;omega)] at this;rw[<-this];rfl
theorem OW (s:ByteArray) (h:2<=s.size):∃a b r,s.data.toList=a::b::r/\(s.extract 0 2).data.toList=[a,b]/\s[0]=a/\s[1]=b/\(s.extract 2 s.size).data.toList=r:=by
  match hl:s.data.toList with
  | [] => have : s.data.toList.length = s.size := by simp
          rw[hl] at this;simp at this;omega
  | [a] => have : s.data.toList.length = s.size := by simp
           rw[hl] at this;simp at this;omega
  |a::b::r=>
    refine⟨a,b,r,rfl,?_,?_,?_,?_⟩
    .simp_all
    . have : s[0] = s.data.toList[0]'(by simp; omega) := rfl
      rw[this];simp[hl]
    . have : s[1] = s.data.toList[1]'(by simp; omega) := rfl
      rw[this];simp[hl]
    . rw [jE, hl]
      have:s.data.toList.length=s.size:=by simp
      rw[hl] at this;simp at this;rw[<-this];simp
theorem Bd (s:ByteArray) (w:World) (d:s.size<=maxLen):Calls prog 113 #[.string s] w fun e w'=>e=.returned (.bool (fX s.data.toList))/\w'=w:=by
  by_cases h:2<=s.size
  . obtain ⟨a, b, r, c, _, _, _, _⟩ := OW s h
    have g:Hid (fX s.data.toList=jD 16 (List.take 2 s.data.toList)):=(by rw[c];simp[fX,jD,Hid]);rw[g.out];clear c g;have hz:(s.extract 0 2).size<=maxLen:=(by rw[oj];unfold maxLen;omega);unfold maxLen at d;go_enter func113,ntmps113;go_wp2_with(go_at_call 170;refine(tZ _ 16 _ hz).mono ?_;rintro e w' ⟨rfl,rfl⟩);go_ret;exact⟨rfl,rfl⟩
  . have f : fX s.data.toList = false := by
      match hl:s.data.toList with
      | []=>rfl
      | [a]=>rfl
      | a :: b :: r => have : s.data.toList.length = s.size := by simp
                       rw[hl] at this;simp at this;omega
    rw[f];unfold maxLen at d;clear f;go_enter func113,ntmps113;go_wp2;go_ret;exact⟨rfl,rfl⟩
theorem KY {w w':World} (h:je w) (a:Bl w w') (hz:13<w.heap.size):je w':=by intro k b;rw[a.cell (p:=(Ad 13 k)) hz];exact h k b
def qc:ByteArray:=⟨#[48,49,50,51,52,53,54,55,56,57,65,66,67,68,69,70]⟩
theorem KZ:∀n:Fin 16,qc.data.toList.getD n.val 0=bC n.val:=by decide+kernel
theorem zy (n:Nat) (h:n<qc.size):qc[n]=bC n:=by have a:n<16:=h;have:=KZ ⟨n,a⟩;show qc.L[n]'h=_;rw[<-this,List.getD_eq_getElem?_getD,bY (by exact h)];rfl
theorem tq (c:UInt8):Lib.byteCells [c]=[.int .u8 c.toNat]:=rfl
theorem zz {T e:TypeId} {B b:Nat} {a:List Value} {w w':World} (h:Lib.IsBuilderF T e B b a w) (c:Bl w w'):Lib.IsBuilderF T e B b a w':=by
 have f:∀p,Lib.BuilderAtF T e B b p a w->Lib.BuilderAtF T e B b p a w':=by
  rintro p ⟨s,v,j,d,q⟩;refine⟨s,v,?_,⟨d.1,?_⟩,q⟩
  .rw[c.block b (aT.1 j).1]
   exact j
  .rcases d.2 with h|⟨g,o,l,n,m,k,i,r⟩
   .exact .inl h
   .refine .inr ⟨g,o,l,n,m,k,?_,r⟩
    rw[c.block g (aT.1 i).1];exact i
 exact h.elim (λx=>.inl (f _ x)) (λx=>.inr (f _ x))
theorem zA (s:ByteArray) (f:List Int) (V:∃a b c d,f=[a,b,c,d]) (w:World) (hs:s.size<=35184372088832):Calls prog 109 #[qA f,.string s] w fun e w'=>e=.returned (.string ⟨(aJ f s.data.toList).toArray⟩)/\Bl w w':=by
 obtain⟨g,l,j,m,I⟩:=V;have M:=hI I;have N:qA f=.agg #[.int .u64 g,.int .u64 l,.int .u64 j,.int .u64 m]:=by rw[I];rfl
 rw[N];clear N I;obtain⟨W,r⟩:=am (w.alloc (.cells #[.int .u64 g,.int .u64 l,.int .u64 j,.int .u64 m] 153));have Z:Hid (Bl w W):=by rw[r];exact(ai _ _).alloc .refl _
 have K:W.heap.size=w.heap.size+1:=by rw[r];simp
 have Q:Hid (W.heap[w.heap.size]?=some (.cells (ii g l j m) 153 (0,0))):=hI (by rw[r];exact dO w _);go_enter func109,ntmps109;go_wp2;rw[<-r];have a5:Hid (Lib.IsBuilderF 142 5 (w.heap.size+1) (w.heap.size+1) (Lib.byteCells []) (W.alloc (.cells #[.pointer none,.slice none 0 0] 142))):=by have h:=By (Bz 142 5 W);rwa[K] at h
 have a4:Hid (Below (w.heap.size+1) W (W.alloc (.cells #[.pointer none,.slice none 0 0] 142))):=(ai _ _).alloc (by omega) _;clear r;go_loopw [6] (fun i wr=>∃k:Nat,k<=s.size/\i=Iv k/\Lib.IsBuilderF 142 5 (w.heap.size+1) (w.heap.size+1) (Lib.byteCells (aJ f (s.data.toList.take k))) wr/\Below (w.heap.size+1) W wr/\w.heap.size+1<wr.heap.size) (fun i _=>s.size-(intOf i).toNat)
 case atStart=>exact⟨0,aR _,rfl,a5,a4,by simp[K]⟩
 case round=>
  obtain⟨k,hk,rfl,hI,p,t⟩:=hrel;have a6:=escW_len f (s.data.toList.take k);have U:(s.data.toList.take k).length<=k:=List.length_take_le _ _;have v:Hid ((aJ f (s.data.toList.take k)).length<=3*k):=by show _<=_;omega
  clear a6 U;by_cases Y:k<s.size
  .have R:Hid (aJ f (s.data.toList.take (k+1))=aJ f (s.data.toList.take k)++dq f s[k]):=by show _=_;rw[Hp s k Y,Ht]
   have hc:=s[k].toNat_lt;by_cases u:fH f s[k].toNat=true
   .have D:Hid (∀W,CB 168 #[.agg #[.int .u64 g,.int .u64 l,.int .u64 j,.int .u64 m],.int .u8 s[k].toNat] W (.bool true)):=by
     intro W;have:=tY g l j m s[k] W;rw[<-M.out,u] at this;exact this
    have y:Hid (wr.heap[w.heap.size]?=some (.cells (ii g l j m) 153 (0,0))):=(p.block w.heap.size (by omega)).trans Q.out;go_wp2_with(refine cb rfl 153 _ rfl w.heap.size rfl 153 (ii g l j m) (0,0) _ y.out Tryz.underlying153 rfl lC ?_);refine(D.out wr).mono ?_;rintro e X ⟨rfl,n⟩;have A:=zz hI n;have C:=p.trans (n.mono (by omega));have H:=cq t n.size;clear hI p t n;go_wp2_with fail;refine(Tryz.Builder_WriteByte_k (w.heap.size+1) (w.heap.size+1) _ _ _ A (by rw[jG];have:=v.out;omega) (by omega)).mono ?_;rintro e x ⟨rfl,q,o,_⟩;have B:Lib.IsBuilderF 142 5 (w.heap.size+1) (w.heap.size+1) (Lib.byteCells (aJ f (s.data.toList.take k)++ [37])) x:=(by rw[jH];exact Or.inr q);have z:=C.trans o;have E:=cq H o.size;clear q o;go_wp2_with fail;refine(Tryz.Builder_WriteByte_k (w.heap.size+1) (w.heap.size+1) _ _ _ B (by rw[jG];have:=v.out;simp;omega) (by omega)).mono ?_;rintro e W2 ⟨rfl,J,F,_⟩;have S:Lib.IsBuilderF 142 5 (w.heap.size+1) (w.heap.size+1) (Lib.byteCells (aJ f (s.data.toList.take k)++ [37,bC (s[k].toNat/16)])) W2:=(by rw[show aJ f (s.data.toList.take k)++ [37,bC (s[k].toNat/16)]=(aJ f (s.data.toList.take k)++ [37])++ [bC (s[k].toNat/16)] by simp,jH,tq,<-zy (s[k].toNat/16) (by show _<16;omega)];exact Or.inr J);have T:=z.trans F;have P:=cq E F.size;clear J F B z E;go_wp2_with fail;refine(Tryz.Builder_WriteByte_k (w.heap.size+1) (w.heap.size+1) _ _ _ S (by rw[jG];have:=v.out;simp;omega) (by omega)).mono ?_;rintro e W3 ⟨rfl,O,G,_⟩;have a8:Lib.IsBuilderF 142 5 (w.heap.size+1) (w.heap.size+1) (Lib.byteCells (aJ f (s.data.toList.take (k+1)))) W3:=(by rw[R.out,show dq f s[k]=[37,bC (s[k].toNat/16)]++ [bC (s[k].toNat%16)] by simp[dq,u],<-eU,jH,tq,<-zy (s[k].toNat%16) (by show _<16;omega)];exact Or.inr O);have a7:=T.trans G;have a9:=cq P G.size;clear O G S T P;go_wp2;go_roundw
    case rel=>grind
    case measure=>simp[intOf];omega
   .have L:=il.2 u
    clear u;have D:Hid (∀W,CB 168 #[.agg #[.int .u64 g,.int .u64 l,.int .u64 j,.int .u64 m],.int .u8 s[k].toNat] W (.bool false)):=by intro W;have:=tY g l j m s[k] W;rw[<-M.out,L] at this;exact this
    have y:Hid (wr.heap[w.heap.size]?=some (.cells (ii g l j m) 153 (0,0))):=(p.block w.heap.size (by omega)).trans Q.out;go_wp2_with(refine cb rfl 153 _ rfl w.heap.size rfl 153 (ii g l j m) (0,0) _ y.out Tryz.underlying153 rfl lC ?_);refine(D.out wr).mono ?_;rintro e X ⟨rfl,n⟩;have A:=zz hI n;have C:=p.trans (n.mono (by omega));have H:=cq t n.size;clear hI p t n;go_wp2_with fail;refine(Tryz.Builder_WriteByte_k (w.heap.size+1) (w.heap.size+1) _ _ _ A (by rw[jG];have:=v.out;omega) (by omega)).mono ?_;rintro e x ⟨rfl,q,o,_⟩;have B:Lib.IsBuilderF 142 5 (w.heap.size+1) (w.heap.size+1) (Lib.byteCells (aJ f (s.data.toList.take (k+1)))) x:=(by rw[R.out,show dq f s[k]=[s[k]] by simp[dq,L],jH];exact Or.inr q);have z:=C.trans o;have E:=cq H o.size;clear q o;go_wp2;go_roundw
    case rel=>grind
    case measure=>simp[intOf];omega
  .go_wp2_with(go_at_call 97;refine(Builder_String_any_k (w.heap.size+1) (w.heap.size+1) _ _ hI (by omega)).mono ?_)
   rintro e x ⟨rfl,_,o,_⟩;go_wp2;go_ret;rw[cg (by simp;omega)];exact⟨rfl,Z.out.trans ((p.trans o).mono (by omega))⟩
theorem lu (s:ByteArray) (set:Int) (w:World) (b:s.size<=35184372088832) (g:je w) (hz:13<w.heap.size):Calls prog 62 #[.string s,.int .i64 set] w fun e w'=>e=.returned (.string ⟨(ah set s.data.toList).toArray⟩)/\Bl w w':=by have c:=hI (Ba set w g hz);have d:Hid (aJ (dW set) s.L=ah set s.L):=Hs set _;have i:=hI fun W=>zA s (dW set) (by grind[dW]) W b;generalize aJ (dW set) s.L=l at*;generalize dW set=j at*;go_enter func62,ntmps62;go_wp21;refine mR c.out fun h a=>?_;go_wp21;refine mR (i h) fun k f=>?_;go_wp2;go_ret;rw[d.out];exact⟨rfl,a.trans (f.mono a.size)⟩
theorem La (s:ByteArray) (set:Int) (w:World) (b:s.size<=35184372088832) (c:je w) (hz:13<w.heap.size):Calls prog 39 #[.string s,.int .i64 set] w fun e w'=>e=.returned (.string ⟨(ah set s.data.toList).toArray⟩)/\Bl w w':=by go_enter func39,ntmps39;go_wp2_with(go_at_call 62;refine(lu _ _ _ b c hz).mono ?_);rintro e w' ⟨rfl,a⟩;go_wp2;go_ret;exact⟨rfl,a⟩
end Go.Proofs
