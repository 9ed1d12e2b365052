import Derived.Test.YtkcnageeamappaaGreatDoorXFPlain
set_option maxHeartbeats 32000000
set_option maxRecDepth 8000
set_option linter.unusedSimpArgs false
namespace Go.Moor
open Go
def cA (l:List UInt8):Option Int:=if l.length<1\/4<l.length then none else bJ 16 65535 0 l
def dY (l:List UInt8):Option Int:=if l=[] then none else if l.head? =some 48/\1<l.length then none else bJ 10 255 0 l
theorem KG (l:List UInt8) (n:Int) (h:cA l=some n):0<=n/\n<=65535:=by
 unfold cA at h;split at h
 .simp at h
 .exact ma 16 65535 (by omega) l 0 n (by omega) (by omega) h
theorem zm (l:List UInt8) (n:Int) (h:dY l=some n):0<=n/\n<=255:=by
 unfold dY at h;split at h
 .simp at h
 .split at h
  .simp at h
  .exact ma 10 255 (by omega) l 0 n (by omega) (by omega) h
def ds (l:List UInt8):List (List UInt8):=if l=[] then [] else ar 58 l
def eG:List Int->List (List UInt8)->Option (List Int)
 |ps,[]=>some ps
 |ps,x::l=>match cA x with|some n=>eG (ps++ [n]) l|none=>none
def cK (l:List (List UInt8)):Option (List Int):=eG [] l
theorem KH (a:List ByteArray) (q:Nat) (x:ByteArray) (b:List Int) (e:a[q]?=some x):eG b ((a.map (·.data.toList)).drop q)=(match cA x.data.toList with|some n=>eG (b++ [n]) ((a.map (·.data.toList)).drop (q+1))|none=>none):=by
 have f:(a.map (·.data.toList))[q]?=some x.L:=by rw[fy,e];rfl
 obtain⟨c,d⟩:=dN.1 f;rw[ch c,d];rfl
def dZ:Int->List (List UInt8)->Option Int
 |a,[]=>some a
 |a,x::l=>match dY x with|some n=>dZ (a*256+n) l|none=>none
def cB (l:List UInt8):Option Int:=if(ar 46 l).length=4 then dZ 0 (ar 46 l) else none
theorem KI (b:List ByteArray) (q:Nat) (x:ByteArray) (a:Int) (e:b[q]?=some x):dZ a ((b.map (·.data.toList)).drop q)=(match dY x.data.toList with|some n=>dZ (a*256+n) ((b.map (·.data.toList)).drop (q+1))|none=>none):=by
 have f:(b.map (·.data.toList))[q]?=some x.L:=by rw[fy,e];rfl
 obtain⟨c,d⟩:=dN.1 f;rw[ch c,d];rfl
theorem zn:∀(l:List (List UInt8)) (a m:Int),0<=a->dZ a l=some m->0<=m/\m<(a+1)*256^l.length
 | [],a,m,h0,h=>by grind[dZ]
 |x::l,a,m,h0,h=>by
  simp only[dZ] at h;split at h
  .rename_i n b
   have c:=zm x n b;have:=zn l _ m (by omega) h;refine⟨this.1,oq this.2 ?_⟩;rw[dL,ot,<-BK,Int.mul_right_comm];exact BJ (by omega) (BI (by omega))
  .simp at h
theorem th (l:List UInt8) (m:Int) (h:cB l=some m):0<=m/\m<4294967296:=by
 unfold cB at h;split at h
 .rename_i a
  have:=zn _ 0 m (by omega) h;rw[a] at this;exact⟨this.1,by omega⟩
 .simp at h
def gT:Option (List Int)->Option Int->Option (List Int)
 |some ps,some n=>some (ps++ [n/65536,n%65536])
 |_,_=>none
def dh (l:List (List UInt8)):Option (List Int):=
 match l.getLast? with
 |none=>some []
 |some x=>if 0<=Lib.indexByte x 46 then gT (cK l.dropLast) (cB x) else cK l
theorem KJ (n:Int) (b:0<=n) (c:n<4294967296):bits .and .u64 n 65535=n%65536:=by obtain⟨a,rfl⟩:=Int.eq_ofNat_of_zero_le b;rw[show(65535:Int)=((65535:Nat):Int) from rfl,u64_and_nat a 65535 (by omega) (by omega),show(65535:Nat)=2^16- 1 from rfl,BM];simp
theorem nU:∀(l:List (List UInt8)) (b a:List Int),eG b l=some a->a.length=b.length+l.length
 | [],b,a,h=>by grind[eG]
 |x::l,b,a,h=>by
  simp only[eG] at h;split at h
  .have:=nU l _ a h
   simp at this⊢;omega
  .simp at h
def gE (short:Bool):Option (List Int)->Option (List Int)->Option (List Int)
 |some f,some g=>if(if short then decide ((f.length:Int)+(g.length:Int)<8) else(f.length:Int)+(g.length:Int)==8)=true then some (f++(List.replicate (8- f.length- g.length) 0++g)) else none
 |_,_=>none
def fw (l:List UInt8):Option (List Int):=
 match Lib.cut l [58,58] with
 |(a,b,true)=>gE true (cK (ds a)) (dh (ds b))
 |(_,_,false)=>gE false (cK (ds [])) (dh (ds l))
theorem zo (l:List UInt8):(ds l).length<=l.length+1:=by grind[ds,pq]
theorem KK (l:List (List UInt8)) (a:List Int) (h:dh l=some a):a.length<=l.length+2:=by
 unfold dh at h;split at h
 .grind
 .split at h
  .cases b:cK l.dropLast with
   |none=>grind[gT]
   |some c=>
    have:=nU _ _ _ b;rw[b] at h;revert h;cases cB _ with
    |none=>simp[gT]
    |some n=>grind[gT]
  .have:=nU _ _ _ h
   simp at this;omega
def zero8:List Int:=[0,0,0,0,0,0,0,0]
def aH (l:List Int):Array Value:=(l.map (Value.int .u64)).toArray
theorem zp (f g:List Int) (d:Nat) (a:d+g.length=8) (b:f.length+g.length<=8):(splice (splice (zero8.map (Value.int .u64)) 0 (f.map (Value.int .u64))) d (g.map (Value.int .u64))).toArray=aH (f++(List.replicate (8- f.length- g.length) 0++g)):=by unfold aH;congr 1;have hz:zero8.map (Value.int .u64)=List.replicate 8 (Value.int .u64 0):=rfl;rw[hz];unfold splice;simp only[oA,gn,gX,fP,List.drop_replicate,kg,List.map_replicate];rw[List.take_append,cg (by simp;omega),im (by simp;omega),dl,eU,List.take_replicate,gX];congr 3;omega
def pieceTxt (p:Nat):List UInt8:=cH 16 3 p
def gF (p:Nat):ByteArray:=⟨(pieceTxt p).toArray⟩
def bK (ps:List Nat):List UInt8:=Lib.join (ps.map pieceTxt) [58]
theorem zq (c:UInt8) (m:Nat):∀a:List (List UInt8),(∀x∈a,x.length<=m)->(Lib.join a [c]).length<=(m+1)*a.length
 | [],_=>by simp[Lib.join]
 | [x],h=>by
  have:=h x (by simp);simp[Lib.join];omega
 |x::y::l,h=>by
  have d:=h x (by simp);have b:=zq c m (y::l) (λz hz=>h z (by simp[hz]));simp[Lib.join] at b⊢;rw[Nat.mul_add,Nat.mul_add] at*;omega
theorem jw (a:List Nat):(bK a).length<=5*a.length:=by
 have:=zq 58 4 (a.map pieceTxt) (by
  intro x b;obtain⟨p,_,rfl⟩:=jJ.1 b;exact kp 16 3 p)
 simpa[bK] using this
def bP:List Nat->Nat->Nat->Nat->Nat->Nat×Nat
 | [],_,_,s,l=>(s,l)
 |p::ps,i,row,s,l=>if p≠0 then bP ps (i+1) 0 s l else if l<row+1 then bP ps (i+1) (row+1) (i- row) (row+1) else bP ps (i+1) (row+1) s l
theorem pW (n:Nat):∀(a:List Nat) (i row s l:Nat),i+a.length=n->row<=i->s+l<=n->(bP a i row s l).1+(bP a i row s l).2<=n
 | [],i,row,s,l,_,_,h=>h
 |p::a,i,row,s,l,hi,hr,h=>by
  have b:i+1+a.length=n:=by simp at hi;omega
  unfold bP;split
  .simp_all[pW]
  .split
   .exact pW n a _ _ _ _ b (by omega) (by omega)
   .simp_all[pW]
def ck (ps:List Nat):Array Value:=aH (ps.map λp=>((p:Nat):Int))
theorem zr (a:List Nat) (i p:Nat) (h:a[i]?=some p):(ck a)[i]?=some (.int .u64 (p:Nat)):=by grind[ck,aH]
theorem pX (a:List Nat):(ck a).size=a.length:=by simp[ck,aH]
def et (ps:List Nat):List UInt8:=
 if(bP ps 0 0 0 0).2<2 then bK ps else bK (ps.take (bP ps 0 0 0 0).1)++([58,58]++bK (ps.drop ((bP ps 0 0 0 0).1+(bP ps 0 0 0 0).2)))
def iB (p:Int):Prop:=0<=p/\p<65536
theorem zt:∀(l:List (List UInt8)) (c b:List Int),(∀p∈c,iB p)->eG c l=some b->∀p∈b,iB p
 | [],c,b,h,e=>by grind[eG]
 |x::l,c,b,h,e=>by
  simp only[eG] at e;split at e
  .rename_i n d
   have f:=KG x n d;refine zt l _ b (λp a=>?_) e;rcases fm.1 a with a|a
   .exact h p a
   .simp at a;subst a;exact⟨f.1,by omega⟩
  .simp at e
theorem ti (l:List (List UInt8)) (a:List Int) (e:cK l=some a):∀p∈a,iB p:=zt l [] a (by simp) e
theorem KL (l:List (List UInt8)) (b:List Int) (e:dh l=some b):∀p∈b,iB p:=by
 unfold dh at e;split at e
 .grind
 .split at e
  .rename_i x _ _
   cases d:cK l.dropLast with
   |none=>grind[gT]
   |some f=>
    cases c:cB x with
    |none=>grind[gT]
    |some n=>
     rw[d,c] at e;simp only[gT,kU] at e;rw[<-e];have g:=th x n c;intro p a;obtain a|a:=fm.1 a
     .grind[ti]
     .simp at a
      obtain rfl|rfl:=a
      .exact⟨by omega,by omega⟩
      .exact⟨by omega,by omega⟩
  .grind[ti]
theorem KM (b:Bool) (f g:Option (List Int)) (d:List Int) (k:∀c,f=some c->∀p∈c,iB p) (j:∀c,g=some c->∀p∈c,iB p) (e:gE b f g=some d):d.length=8/\∀p∈d,iB p:=by
 cases f with
 |none=>grind[gE]
 |some f=>
  cases g with
  |none=>grind[gE]
  |some g=>
   have h:f.length+g.length<=8/\f++(List.replicate (8- f.length- g.length) 0++g)=d:=by
    cases b
    .grind[gE]
    .grind[gE]
   obtain⟨i,e⟩:=h;rw[<-e];refine⟨by simp;omega,λp a=>?_⟩;obtain a|a:=fm.1 a
   .grind
   .obtain a|a:=fm.1 a
    .rw[List.eq_of_mem_replicate a];exact⟨by omega,by omega⟩
    .grind
theorem tj (l:List UInt8) (a:List Int) (e:fw l=some a):a.length=8/\∀p∈a,iB p:=by grind[fw,KM,ti,KL]
theorem KN (a:List Int) (h:∀p∈a,iB p):aH a=ck (a.map Int.toNat):=by unfold ck;congr 1;rw[qK];refine(List.map_id a).symm.trans (List.map_congr_left λp b=>?_);have:=(h p b).1;simp;omega
def gc (l:List UInt8):Option (List UInt8):=
 if Lib.hasSuffix l [93]=true then(match fw (Lib.trimSuffix l [93]) with|some ps=>some ([91]++(et (ps.map Int.toNat)++ [93]))|none=>none) else none
def pY:List UInt8:=[0,9,10,13,32,35,47,58,60,62,63,64,91,92,93,94,124]
def eL (c:UInt8):Bool:=decide (0<=Lib.indexByte pY c)
def ie (l:List UInt8):Option (List UInt8):=if l.any eL then none else some (ah 0 l)
def hostTell (l:List UInt8) (sp:Bool):Option (List UInt8):=
 if Lib.hasPrefix l [91]=true then gc (l.drop 1) else if sp then fU (aQ l) else ie l
def dK:List UInt8->Bool
 | []=>false
 |a::l=>(a==58&&l.head? ==some 58)||dK l
theorem zu (a:UInt8) (l:List UInt8) (h:(a==58&&l.head? ==some 58)=false):List.isPrefixOf [58,58] (a::l)=false:=by
 cases l with
 |nil=>grind
 |cons b l=>grind
theorem zv:∀l:List UInt8,dK l=false->Lib.index l [58,58]= -1
 | [],_=>by simp[Lib.index]
 |a::l,h=>by
  rw[dK,ov] at h;rw[Lib.index,zu a l h.1,zv l h.2];rfl
theorem tn (l:List UInt8) (h:dK l=false):Lib.cut l [58,58]=(l,[],false):=by grind[Lib.cut,zv]
theorem zw (r:List UInt8):∀p:List UInt8,dK (p++ [58])=false->Lib.index (p++58::58::r) [58,58]=p.length
 | [],_=>by
  rfl
 |a::q,h=>by
  rw[iL,dK,ov] at h;have b:=zw r q h.2;show Lib.index (a::(q++58::58::r)) [58,58]=_;rw[Lib.index,zu a _ (by grind),b];simp only[ge,fO];rw[ab (by simp)];simp
theorem qa (p r:List UInt8) (h:dK (p++ [58])=false):Lib.cut (p++58::58::r) [58,58]=(p,r,true):=by simp_all[Lib.cut,zw]
theorem badS_fin:∀c:Fin 256,dp c.val.toUInt8=false->33<=c.val/\c.val<=126/\c.val≠35/\c.val≠47/\c.val≠63/\c.val≠64/\c.val≠92/\c.val≠124/\c.val≠58/\c.val≠91/\c.val≠37/\dp (Lib.lowerB c.val.toUInt8)=false:=by decide+kernel
theorem FJ (l:Bs):Lib.hasPrefix l [91]=true↔l.head? =some 91:=by
 cases l with
 |nil=>simp[Lib.hasPrefix]
 |cons c l=>grind[Lib.hasPrefix]
def eZ (p:Int) (s:Bs):Int:=if p=(cE s).1 then -1 else p
def cX (c:UInt8) (v:Bs):Bs:=match v with| []=>[]|b::l=>if b=c then l else b::l
def eD (c:UInt8) (set:Int) (v:Bs):Option Bs:=if v=[] then none else some (ah set (cX c v))
section
variable (H : Bs → Bool → Option Bs)
def ix (a:Adr) (v:Bs):Except Int Adr:=
 let sc:=(aU (v++ [58])).1
 if sc=[] then .error 6
 else if ao sc≠ao a.s\/(decide (sc=sFile))≠(decide (a.s=sFile)) then .error 6
 else .ok {a with s:=sc,t:={a.t with p:=eZ a.t.p sc}}
def gu (a:Adr) (part:Int) (v:Bs):Except Int Adr:=
 if a.t.h=[]\/a.s=sFile then .error 6
 else if part=2 then .ok {a with t:={a.t with e:=ah 5 v}}
 else if part=3 then .ok {a with t:={a.t with d:=ah 5 v}}
 else match cV v a.s with
  |none=>.error 5
  |some p=>.ok {a with t:={a.t with p:=p}}
def jQ (v s:Bs):Option Bs:=if s=sFile then dQ H v else H v (ao s)
def gg (a:Adr) (v:Bs):Except Int Adr:=
 if a.w.o=true then .error 6
 else if v=[]/\ao a.s=false/\(a.t.e≠[]\/a.t.d≠[]\/a.t.p≠ -1) then .error 6
 else match jQ H v a.s with
  |none=>.error 4
  |some h=>.ok {a with t:={a.t with has:=true,h:=h}}
def iU (a:Adr) (v:Bs):Except Int Adr:=
 if a.w.o=true then .error 6
 else if a.t.has=false/\v=[] then .error 6
 else .ok {a with w:=aV a.s [] (aq a.s v)}
def dn (a:Adr) (part:Int) (v:Bs):Except Int Adr:=
 if part=1 then ix a v
 else if part=2\/part=3\/part=5 then gu a part v
 else if part=4 then gg H a v
 else if part=6 then iU a v
 else if part=7 then .ok {a with q:=eD 63 (bE a.s) v}
 else if part=8 then .ok {a with f:=eD 35 1 v}
 else .error 6
def dG (v:Bs):Bs:=v.filter λc=>!it c
def ny (t:Bs):Except Int Adr:=if t.length>2000 then .error 1 else bL H t none
def gv (t:Bs) (part:Int) (v:Bs):Except Int Bs:=
 if v.length>2000 then .error 1
 else match ny H t with
  | .error e=>.error e
  | .ok a=>match dn H a part (dG v) with
   | .error e=>.error e
   | .ok b=>.ok (gf b)
theorem nz (s v:Bs) (h:v≠[]):aq s v≠[]:=by
 unfold aq;split
 .simpa using h
 .exact h
end
structure HostMarks (H:Bs->Bool->Option Bs):Prop where
 inner:∀a b sp,a≠[]->H (a++91::b) sp=none
 close:∀x sp,x.head? =some 91->(∀c∈x,c≠93)->H x sp=none
 empty:H [] true=none
def cJ:Bool->Bs->Option (Bs×Bs)
 |_,[]=>none
 |i,c::l=>if c=58/\i=false then some ([],l) else(cJ (if c=91 then true else if c=93 then false else i) l).map λp=>(c::p.1,p.2)
theorem sB:∀(l:Bs) (i:Bool),(∀c∈l,c≠58)->cJ i l=none
 | [],_,_=>rfl
 |c::l,i,h=>by
  rw[cJ,ab (λx=>h c (by simp) x.1),sB l _ (λx a=>h x (by simp[a]))];rfl
theorem sC (b:Bs):∀(a:Bs),(∀c∈a,c≠58/\c≠91)->cJ false (a++58::b)=some (a,b)
 | [],_=>by simp[cJ]
 |c::a,h=>by
  simp_all[cJ,sC]
theorem yr:∀(x r:Bs),(∀c∈x,c≠93)->cJ true (x++93::r)=(cJ false r).map λp=>(x++93::p.1,p.2)
 | [],r,_=>by simp[cJ]
 |c::x,r,h=>by
  have a:=h c (by simp);show cJ true (c::(x++93::r))=_;rw[cJ,ab (λy=>by cases y.2)];have e:(if c=91 then true else if c=93 then false else true)=true:=by rw[ab a];split<;>rfl
  rw[e,yr x r (λy b=>h y (by simp[b])),uA];rfl
theorem yt:∀(x:Bs),(∀c∈x,c≠93)->cJ true x=none
 | [],_=>rfl
 |c::x,h=>by
  have a:=h c (by simp);rw[cJ,ab (λy=>by cases y.2)];have e:(if c=91 then true else if c=93 then false else true)=true:=by rw[ab a];split<;>rfl
  rw[e,yt x (λy b=>h y (by simp[b]))];rfl
def co (t:Bs):Bs×Option Bs:=match cJ false t with|some (h,p)=>(h,some p)|none=>(t,none)
theorem sD (b:Bs):∀(a:Bs),(∀c∈a,c≠58)->∀i,∃y,(match cJ i (a++91::b) with|some (h,_)=>h|none=>a++91::b)=a++91::y
 | [],_,i=>by
  show∃y,(match cJ i (91::b) with|some (h,_)=>h|none=>91::b)=91::y;rw[cJ,ab (λh=>absurd h.1 (by decide))];cases cJ (if(91:UInt8)=91 then true else if(91:UInt8)=93 then false else i) b with
  |none=>simp
  |some p=>simp
 |c::a,h,i=>by
  show∃y,(match cJ i (c::(a++91::b)) with|some (h,_)=>h|none=>c::(a++91::b))=c::(a++91::y);rw[cJ,ab (λx=>h c (by simp) x.1)];obtain⟨y,e⟩:=sD b a (λx d=>h x (by simp[d])) (if c=91 then true else if c=93 then false else i);cases f:cJ (if c=91 then true else if c=93 then false else i) (a++91::b) with
  |none=>simp
  |some p=>grind
theorem jR (c:UInt8) (l:Bs):(∀x∈l,x≠c)\/∃a b,l=a++c::b/\∀x∈a,x≠c:=by
 have:=kq c l;cases h:aN c l with
 |none=>grind
 |some p=>grind
section
variable (H : Bs → Bool → Option Bs)
def ia (t s:Bs):Except Int Auth:=
 let lp:=bB t;if t≠[]/\lp.2=[] then .error 4
 else
  let up:=ay 58 lp.1;let hp:=co lp.2
  if hp.1=[]/\(hp.2.isSome\/ao s=true) then .error 4
  else match H hp.1 (ao s&&decide (hp.1≠[])) with
   |none=>.error 4
   |some h=>match cV (hp.2.getD []) s with
    |none=>.error 5
    |some p=>.ok ⟨ah 5 up.1,ah 5 (up.2.getD []),true,h,p⟩
theorem JF (o:HostMarks H) (t:Bs):((co t).1=(cy t).1/\(co t).2.getD []=(cy t).2/\((co t).2=none->(co t).1=t))\/((co t).1≠[]/\(cy t).1≠[]/\∀j,H (co t).1 j=none/\H (cy t).1 j=none):=by
 by_cases s:t.head? =some 91
 .obtain⟨g,rfl⟩:∃g,t=91::g:=by
   cases t with
   |nil=>cases s
   |cons c r=>grind
  have D:cJ false (91::g)=(cJ true g).map λp=>(91::p.1,p.2):=by rw[cJ,ab (λh=>absurd h.1 (by decide))];rfl
  rcases jR 93 g with k|⟨x,r,rfl,E⟩
  .
   have u:∀c∈(91::g:Bs),c≠93:=by
    intro c f;rcases cM.1 f with rfl|f
    .decide
    .exact k c f
   have J:co (91::g)=(91::g,none):=(by unfold co;rw[D,yt g k];rfl);have m:fD (91::g)=0:=(by unfold fD;rw[ae (by rfl),jo 93 _ u]);refine Or.inr ?_;rw[J];refine⟨by simp,?_⟩;have n:(cy (91::g)).1.head? =some 91/\∀c∈(cy (91::g)).1,c≠93:=by
    unfold cy;rw[m];have B:=kq 58 (List.drop 0 (91::g));cases f:aN 58 (List.drop 0 (91::g)) with
    |none=>grind
    |some p=>
     rw[f] at B;have O:=B.1;show(List.take 0 (91::g)++p.1).head? =some 91/\∀c∈List.take 0 (91::g)++p.1,c≠93;rw[oA,gn];refine⟨?_,λc f=>u c (by grind)⟩;cases P:p.1 with
     |nil=>grind
     |cons d q=>grind
   refine⟨λh=>(by grind),λj=>⟨o.close _ j rfl u,o.close _ j n.1 n.2⟩⟩
  .have K:∀c∈(91::x:Bs),c≠93:=by
    intro c f;rcases cM.1 f with rfl|f
    .decide
    .exact E c f
   have m:fD (91::(x++93::r))=x.length+2:=(by unfold fD;rw[ae (by rfl),show(91::(x++93::r):Bs)=(91::x)++93::r from rfl,hJ 93 _ (91::x) K];simp);have n:cJ false (91::(x++93::r))=(cJ false r).map λp=>(91::(x++93::p.1),p.2):=(by rw[D,yr x r E,uA];rfl);have F:List.take (x.length+2) (91::(x++93::r))=91::(x++ [93]):=(by rw[show(91::(x++93::r):Bs)=(91::(x++ [93]))++r from by simp,show x.length+2=(91::(x++ [93]):Bs).length from by simp,ke]);have v:List.drop (x.length+2) (91::(x++93::r))=r:=(by rw[show(91::(x++93::r):Bs)=(91::(x++ [93]))++r from by simp,show x.length+2=(91::(x++ [93]):Bs).length from by simp,qX]);rcases jR 58 r with k|⟨a,b,rfl,l⟩
   .refine Or.inl ?_
    unfold co cy;rw[n,m,v,sB r false k,jo 58 r k];exact⟨rfl,rfl,λ_=>rfl⟩
   .rcases jR 91 a with k|⟨e,i,rfl,G⟩
    .refine Or.inl ?_
     unfold co cy;rw[n,m,v,F,sC b a (λc f=>⟨l c f,k c f⟩),hJ 58 b a l];refine⟨by simp,rfl,λh=>by cases h⟩
    .refine Or.inr ?_
     have z:∀c∈e,c≠58:=λc f=>l c (by simp[f]);obtain⟨y,L⟩:=sD (i++58::b) e z false;have A:(co (91::(x++93::(e++91::i++58::b)))).1=(91::(x++93::e))++91::y:=by
      unfold co;rw[n];have M:(e++91::i++58::b:Bs)=e++91::(i++58::b):=(by simp);rw[M];cases N:cJ false (e++91::(i++58::b)) with
      |none=>grind
      |some p=>grind
     have w:(cy (91::(x++93::(e++91::i++58::b)))).1=(91::(x++93::e))++91::i:=(by unfold cy;rw[m,v,F,hJ 58 b _ l];simp);rw[A,w];exact⟨by simp,by simp,λj=>⟨o.inner _ _ j (by simp),o.inner _ _ j (by simp)⟩⟩
 .have m:fD t=0:=by unfold fD;rw[ab s]
  have I:cy t=match aN 58 t with|some (a,b)=>(a,b)|none=>(t,[]):=by unfold cy;rw[m];show(match aN 58 t with|some (a,b)=>([]++a,b)|none=>(t,[]))=_;cases aN 58 t<;>rfl
  rcases jR 58 t with k|⟨a,b,rfl,l⟩
  .grind[co,sB,jo]
  .rcases jR 91 a with k|⟨e,i,rfl,G⟩
   .grind[co,sC,hJ]
   .have C:e≠[]:=by
     rintro rfl;exact s rfl
    have z:∀c∈e,c≠58:=λc f=>l c (by simp[f]);obtain⟨y,L⟩:=sD (i++58::b) e z false;have A:(co (e++91::i++58::b)).1=e++91::y:=by
     unfold co;rw[show(e++91::i++58::b:Bs)=e++91::(i++58::b) from by simp];cases N:cJ false (e++91::(i++58::b)) with
     |none=>grind
     |some p=>grind
    have w:(cy (e++91::i++58::b)).1=e++91::i:=(by rw[I,hJ 58 b _ l]);rw[A,w];exact Or.inr ⟨by simp,by simp,λj=>⟨o.inner _ _ j C,o.inner _ _ j C⟩⟩
theorem JG (f:HostMarks H) (t s:Bs):ia H t s=gq H t s:=by
 unfold ia gq;simp only;by_cases c:t≠[]/\(bB t).2=[]
 .rw[ae c,c.2]
  have:eX H (cy []).1 t s=none:=by unfold eX;rw[ae ⟨rfl,c.1⟩]
  rw[this]
 .rw[ab c]
  have k:=λh=>uB λj=>c ⟨j,h⟩;obtain⟨m,i,n⟩|⟨l,p,g⟩:=JF H f (bB t).2
  .rw[<-m,<-i]
   by_cases b:(co (bB t).2).1=[]
   .by_cases a:(co (bB t).2).2.isSome=true\/ao s=true
    .rw[ae ⟨b,a⟩,b]
     have:eX H [] t s=none:=by
      unfold eX;by_cases d:t=[]
      .rw[ab (λx=>x.2 d)]
       obtain a|a:=a
       .subst d;cases a
       .rw[a];exact f.empty
      .grind
     rw[this]
    .rw[ab (λx=>a x.2),b]
     have o:(co (bB t).2).2=none:=by
      cases r:(co (bB t).2).2 with
      |none=>rfl
      |some y=>grind
     have d:=k (by grind);have e:ao s=false:=by
      cases q:ao s with
      |false=>rfl
      |true=>grind
     have:eX H [] t s=H [] false:=by unfold eX;rw[ab (λx=>x.2 d),e]
     rw[this,e];rfl
   .rw[ab (λx=>b x.1)]
    have:eX H (co (bB t).2).1 t s=H (co (bB t).2).1 (ao s):=by unfold eX;rw[ab (λx=>b x.1)]
    rw[this,show(ao s&&decide ((co (bB t).2).1≠[]))=ao s from by simp[b]];rfl
  .rw[ab (λx=>l x.1)]
   have:eX H (cy (bB t).2).1 t s=none:=by
    unfold eX;split
    .rfl
    .exact(g _).2
   rw[this,(g _).1]
end
def ak (s:Bs) (c:UInt8):Bool:=c==47||(c==92&&ao s)
def cY (c:UInt8):Bool:=c==63||c==35
def fY (s:Bs) (c:UInt8):Bool:=ak s c||cY c
def ax (p:UInt8->Bool):Bs->Bool
 | []=>false
 |c::_=>p c
structure Mc where
 u:Adr
 r:Bs
 st:Nat
 err:Int
def bw (c:Mc):Mc:={c with st:=(if c.r.head? =some 63 then 11 else if c.r.head? =some 35 then 12 else 13),r:=c.r.drop 1}
def eq (b:Adr) (c:Mc):Mc:=
 if c.r=[]\/c.r.head? =some 35 then bw {c with u:={c.u with w:=⟨false,[],c.u.w.g++b.w.g⟩,q:=b.q}}
 else if c.r.head? =some 63 then bw {c with u:={c.u with w:=⟨false,[],c.u.w.g++b.w.g⟩}}
 else{c with u:={c.u with w:=⟨false,[],aI c.u.s (c.u.w.g++b.w.g)⟩},st:=6}
def gi (base:Option Adr) (c:Mc):Mc:=
 match base with
 |none=>{c with err:=3}
 |some b=>if b.w.o=true/\c.r.head?≠some 35 then{c with err:=3}
  else if b.w.o=true then bw {c with u:={c.u with s:=b.s,w:=b.w,q:=b.q}}
  else{c with u:={c.u with s:=b.s},st:=(if b.s=sFile then 8 else 1)}
def gj (c:Mc):Mc:=
 if c.r.head? =some 47 then(if(c.r.drop 1).head? =some 47 then{c with r:=c.r.drop 2,st:=4} else{c with st:=5}) else{c with st:=7}
def ib (b:Adr) (c:Mc):Mc:=
 if ax (ak c.u.s) c.r=true then{c with r:=c.r.drop 1,st:=2} else eq b {c with u:={c.u with t:=b.t}}
def fZ (b:Adr) (c:Mc):Mc:=
 if ax (ak c.u.s) c.r=true then(if ao c.u.s=true then{c with st:=3} else{c with r:=c.r.drop 1,st:=4})
 else{c with u:={c.u with t:=b.t},st:=6}
def jt (c:Mc):Mc:={c with r:=c.r.dropWhile (ak c.u.s),st:=4}
def bV (s r:Bs):Bs:=r.takeWhile λc=>!fY s c
def ca (s r:Bs):Bs:=r.dropWhile λc=>!fY s c
def eQ (c:Mc):Mc:=
 if ax (ak c.u.s) c.r=true then{c with r:=c.r.drop 1,st:=6}
 else if(c.r=[]\/ax cY c.r=true)/\ao c.u.s=false then bw c
 else{c with st:=6}
def bW (s:Bs) (segs:List Bs) (p:Bs) (more:Bool):List Bs:=
 if bG p=0 then segs++ [fR s p segs.isEmpty]
 else(if bG p=2 then aI s segs else segs)++(if more then [] else [[]])
def bX (c:Mc):Mc:=
 let more:=ax (ak c.u.s) (ca c.u.s c.r);let c1:={c with u:={c.u with w:=⟨false,[],bW c.u.s c.u.w.g (bV c.u.s c.r) more⟩},r:=ca c.u.s c.r};if more=true then{c1 with r:=c1.r.drop 1} else bw c1
def iA (c:Mc):Mc:=bw {c with u:={c.u with w:=⟨true,dd (c.r.takeWhile λc=>!cY c),[]⟩},r:=c.r.dropWhile λc=>!cY c}
def dr (r:Bs):Bool:=aC (r.take 2)&&(r.drop 2).all λ_=>ax (λc=>c==47||c==92||c==63||c==35) (r.drop 2)
def dA (base:Option Adr):Option Adr:=base.bind λb=>if b.s=sFile then some b else none
def fq (base:Option Adr) (c:Mc):Mc:=
 let c0:={c with u:={c.u with t:={c.u.t with has:=true}}}
 if ax (ak c.u.s) c.r=true then{c0 with r:=c.r.drop 1,st:=9}
 else match dA base with
  |none=>{c0 with st:=6}
  |some b=>let c1:={c0 with u:={c0.u with t:={c0.u.t with h:=b.t.h}}};if¬(c.r=[]\/ax cY c.r=true)/\dr c.r=true then{c1 with st:=6} else eq b c1
def dJ (base:Option Adr) (c:Mc):Mc:=
 let c0:={c with u:={c.u with t:={c.u.t with has:=true}}};if ax (ak c.u.s) c.r=true then{c0 with r:=c.r.drop 1,st:=10}
 else match dA base with
  |none=>{c0 with st:=6}
  |some b=>{c0 with u:={c0.u with t:={c0.u.t with h:=b.t.h},w:=⟨false,[],c.u.w.g++(if dr c.r=true then [] else cN b.w.g)⟩},st:=6}
section
variable (H : Bs → Bool → Option Bs)
def gB (c:Mc):Mc:=
 match ia H (bV c.u.s c.r) c.u.s with
 | .error e=>{c with err:=e}
 | .ok a=>{c with u:={c.u with t:=a},r:=ca c.u.s c.r,st:=5}
def gC (c:Mc):Mc:=
 let c0:={c with u:={c.u with t:={c.u.t with has:=true}}};if aC (bV c.u.s c.r)=true then{c0 with st:=6}
 else match dQ H (bV c.u.s c.r) with
  |none=>{c0 with err:=4}
  |some h=>{c0 with u:={c0.u with t:={c0.u.t with h:=h}},r:=ca c.u.s c.r,st:=5}
def ju (c:Mc):Mc:=bw {c with u:={c.u with q:=some (ah (bE c.u.s) (c.r.takeWhile λb=>decide (b≠35)))},r:=c.r.dropWhile λb=>decide (b≠35)}
def lo (c:Mc):Mc:={c with u:={c.u with f:=some (ah 1 c.r)},st:=13}
def ap (base:Option Adr) (c:Mc):Mc:=
 if c.st=14 then gi base c
 else if c.st=15 then gj c
 else if c.st=1 then(match base with|some b=>ib b c|none=>c)
 else if c.st=2 then(match base with|some b=>fZ b c|none=>c)
 else if c.st=3 then jt c
 else if c.st=4 then gB H c
 else if c.st=5 then eQ c
 else if c.st=6 then bX c
 else if c.st=7 then iA c
 else if c.st=8 then fq base c
 else if c.st=9 then dJ base c
 else if c.st=10 then gC H c
 else if c.st=11 then ju c
 else if c.st=12 then lo c
 else c
def gm (base:Option Adr):Nat->Mc->Option Mc
 |0,c=>if c.st=13\/c.err≠0 then some c else none
 |n+1,c=>if c.st=13\/c.err≠0 then some c else gm base n (ap H base c)
def fg (base:Option Adr) (c:Mc) (res:Except Int Adr):Prop:=∃n f,gm H base n c=some f/\match res with| .error e=>f.err=e/\e≠0| .ok a=>f.err=0/\f.u=a
theorem gD (base:Option Adr) (c:Mc) (a:Except Int Adr) (e:c.st≠13) (g:c.err=0) (h:fg H base (ap H base c) a):fg H base c a:=by
 obtain⟨n,f,d,b⟩:=h;refine⟨n+1,f,?_,b⟩;rw[gm,ab]
 .exact d
 .omega
theorem sF (base:Option Adr) (c:Mc) (b:c.st=13) (a:c.err=0):fg H base c (.ok c.u):=⟨0,c,by simp_all[gm],a,rfl⟩
theorem pO (base:Option Adr) (c:Mc) (e:Int) (b:c.err=e) (a:e≠0):fg H base c (.error e):=⟨0,c,by simp_all[gm],b,a⟩
def aA (q f:Option Bs):Bs:=cv 63 q++cv 35 f
def fh (u:Adr) (q f:Option Bs):Adr:=
 {u with q:=(match q with|none=>u.q|some x=>some (ah (bE u.s) x)),f:=(match f with|none=>u.f|some x=>some (ah 1 x))}
theorem kA (q f:Option Bs) (c:UInt8) (l:Bs) (h:aA q f=c::l):cY c=true:=by
 unfold aA at h;cases q with
 |some x=>injection h with h _;subst h;rfl
 |none=>
  cases f with
  |some y=>injection h with h _;subst h;rfl
  |none=>cases h
theorem sG (q f:Option Bs):aA q f=[]\/(∃l,aA q f=63::l/\q.isSome=true)\/(∃l,aA q f=35::l/\q=none):=by
 cases q with
 |some x=>exact .inr (.inl ⟨x++cv 35 f,rfl,rfl⟩)
 |none=>
  cases f with
  |some y=>exact .inr (.inr ⟨y,rfl,rfl⟩)
  |none=>exact .inl rfl
theorem JK (x y:Bs) (h:∀c∈x,c≠35):(x++35::y).takeWhile (λb=>decide (b≠35))=x/\(x++35::y).dropWhile (λb=>decide (b≠35))=35::y:=by simp_all
theorem yA (x:Bs) (p:UInt8->Bool) (h:∀c∈x,p c=true):x.takeWhile p=x/\x.dropWhile p=[]:=by have b:=qG (p:=p) (l₁:=x) (l₂:=[]) h;have a:=oe (p:=p) (l₁:=x) (l₂:=[]) h;simp only[dl,List.takeWhile_nil,List.dropWhile_nil] at b a;exact⟨b,a⟩
theorem yB (base:Option Adr) (c:Mc) (b:c.err=0) (a:c.st=12):fg H base c (.ok {c.u with f:=some (ah 1 c.r)}):=by
 refine gD H base c _ (by rw[a];decide) b ?_;have e:ap H base c=lo c:=by simp[ap,a]
 rw[e];exact sF H base _ rfl b
theorem kB (base:Option Adr) (c:Mc) (q f:Option Bs) (d:c.err=0) (g:c.r=aA q f) (j:∀x,q=some x->∀b∈x,b≠35):fg H base (bw c) (.ok (fh c.u q f)):=by
 cases q with
 |none=>
  cases f with
  |none=>have e:bw c={c with st:=13,r:=[]}:=(by unfold bw;rw[g];rfl);rw[e];exact sF H base _ rfl d
  |some y=>have e:bw c={c with st:=12,r:=y}:=(by unfold bw;rw[g];rfl);rw[e];exact yB H base _ d rfl
 |some x=>
  have h:=j x rfl;have e:bw c={c with st:=11,r:=x++cv 35 f}:=by unfold bw;rw[g];rfl
  rw[e];refine gD H base _ _ (by simp) d ?_;have i:ap H base {c with st:=11,r:=x++cv 35 f}=ju {c with st:=11,r:=x++cv 35 f}:=by simp[ap]
  rw[i];unfold ju;cases f with
  |none=>have a:(x++cv 35 none).takeWhile (λb=>decide (b≠35))=x/\(x++cv 35 none).dropWhile (λb=>decide (b≠35))=[]:=(by rw[show cv 35 none=[] from rfl,dl];exact yA x _ (by simpa using h));simp only[a.1,a.2];exact sF H base _ rfl d
  |some y=>have a:=JK x y h;have a:(x++cv 35 (some y)).takeWhile (λb=>decide (b≠35))=x/\(x++cv 35 (some y)).dropWhile (λb=>decide (b≠35))=35::y:=a;simp only[a.1,a.2];exact yB H base _ d rfl
theorem sH (p:UInt8->Bool) (T:Bs) (d:∀c l,T=c::l->p c=false):∀m:Bs,(m++T).takeWhile p=m.takeWhile p/\(m++T).dropWhile p=m.dropWhile p++T
 | []=>by
  cases T with
  |nil=>simp
  |cons c l=>simp_all
 |c::m=>by
  have b:=sH p T d m;cases a:p c with
  |true=>simp[List.takeWhile,List.dropWhile,a,b]
  |false=>simp[List.takeWhile,List.dropWhile,a]
theorem yC (p q:UInt8->Bool):∀m:Bs,(∀c∈m,p c=q c)->m.takeWhile p=m.takeWhile q/\m.dropWhile p=m.dropWhile q
 | [],_=>⟨rfl,rfl⟩
 |c::m,h=>by
  have d:=yC p q m (λx e=>h x (by simp[e]));have a:=h c (by simp);cases b:p c with
  |true=>rw[b] at a;simp[List.takeWhile,List.dropWhile,b,<-a,d]
  |false=>rw[b] at a;simp[List.takeWhile,List.dropWhile,b,<-a]
def cT (m:Bs):Prop:=∀c∈m,c≠35/\c≠63
theorem sI (s m:Bs) (q f:Option Bs) (d:cT m):bV s (m++aA q f)=m.takeWhile (λc=>!ak s c)/\ca s (m++aA q f)=m.dropWhile (λc=>!ak s c)++aA q f:=by unfold bV ca;have b:=sH (λc=>!fY s c) (aA q f) (λc l h=>by grind[fY,kA]) m;have a:=yC (λc=>!fY s c) (λc=>!ak s c) m (λc e=>by have:=d c e;simp[fY,cY,this.1,this.2]);rw[b.1,b.2,a.1,a.2];exact⟨rfl,rfl⟩
theorem yD (s:Bs) (c:UInt8) (h:cY c=true):ak s c=false:=by
 simp only[cY,qO,dM] at h;obtain rfl|rfl:=h
 .simp[ak]
 .simp[ak]
theorem mp (s m:Bs) (q f:Option Bs):ax (ak s) (m++aA q f)=ax (ak s) m:=by
 cases m with
 |cons c m=>rfl
 |nil=>
  show ax (ak s) (aA q f)=false;cases a:aA q f with
  |nil=>rfl
  |cons c l=>exact yD s c (kA q f c l a)
theorem jS (s:Bs) (c:UInt8) (m:Bs):aq s (c::m)=(if ak s c=true then 47 else c)::aq s m:=by
 unfold aq;cases a:ao s with
 |false=>simp_all[ak]
 |true=>
  simp only[eV,mM];congr 1;by_cases h:c=92
  .grind[ak]
  .grind[ak]
theorem mq (s:Bs) (c:UInt8) (h:ak s c=true) (m:Bs):aq s (c::m)=47::aq s m:=by simp_all[jS]
theorem nM (s:Bs) (c:UInt8) (h:ak s c=false) (m:Bs):aq s (c::m)=c::aq s m:=by simp_all[jS]
theorem mr (s:Bs) (c:UInt8) (h:ak s c=false):c≠47:=by grind[ak]
theorem lq (s:Bs):∀m:Bs,bd (aq s m)=(m.takeWhile (λc=>!ak s c),aq s (m.dropWhile (λc=>!ak s c)))
 | []=>by
  simp[aq,bd]
 |c::m=>by
  have a:=lq s m;cases b:ak s c with
  |true=>simp_all[mq,bd]
  |false=>rw[nM s c b];unfold bd at a⊢;have d:=mr s c b;simp only[mL] at a;simp only[uy,oC,b,d,ne_eq,not_false_eq_true,decide_true,eV,uz,a.1,a.2]
theorem pP (s m:Bs):(∀c∈m.takeWhile (λc=>!ak s c),ak s c=false)/\m=m.takeWhile (λc=>!ak s c)++m.dropWhile (λc=>!ak s c):=by grind[List.takeWhile_append_dropWhile,List.all_takeWhile]
theorem yE (s m:Bs) (c:UInt8) (l:Bs) (h:m.dropWhile (λc=>!ak s c)=c::l):ak s c=true:=by grind[List.head?_dropWhile_not]
theorem JL (s m:Bs):match m.dropWhile (λc=>!ak s c) with
  | []=>ar 47 (aq s m)=[m.takeWhile (λc=>!ak s c)]
  |_::l=>ar 47 (aq s m)=m.takeWhile (λc=>!ak s c)::ar 47 (aq s l):=by
 have b:=pP s m;have e:aq s m=m.takeWhile (λc=>!ak s c)++aq s (m.dropWhile (λc=>!ak s c)):=by have a:=lq s m;unfold bd at a;simp only[mL] at a;rw[<-a.1,<-a.2,PO]
 have f:=λx d=>mr s x (b.1 x d);cases g:m.dropWhile (λc=>!ak s c) with
 |nil=>grind[aq,nD]
 |cons c l=>grind[mq,yE,ks]
theorem nN (base:Option Adr) (q f:Option Bs) (i:∀x,q=some x->∀b∈x,b≠35):∀(n:Nat) (c:Mc) (m:Bs),m.length<=n->c.err=0->c.st=6->c.r=m++aA q f->cT m->fg H base c (.ok (fh {c.u with w:=⟨false,[],bU c.u.s c.u.w.g (ar 47 (aq c.u.s m))⟩} q f))
 |n,c,m,hn,he,hst,hr,hm=>by
  refine gD H base c _ (by rw[hst];decide) he ?_;have e:ap H base c=bX c:=by simp[ap,hst]
  rw[e];unfold bX;have j:=sI c.u.s m q f hm;simp only[hr,j.1,j.2,mp];have a:=JL c.u.s m;have k:=pP c.u.s m;cases g:m.dropWhile (λb=>!ak c.u.s b) with
  |nil=>
   rw[g] at a;simp only at a;rw[a];have s:=kB H base {c with u:={c.u with w:=⟨false,[],bW c.u.s c.u.w.g (m.takeWhile (λb=>!ak c.u.s b)) false⟩},r:=aA q f} q f he rfl i;have h:bU c.u.s c.u.w.g [m.takeWhile (λb=>!ak c.u.s b)]=bW c.u.s c.u.w.g (m.takeWhile (λb=>!ak c.u.s b)) false:=by
    unfold bW;rw[bU];split
    .rfl
    .rfl
   rw[h];exact s
  |cons d l=>
   rw[g] at a;simp only at a;rw[a];have v:=yE _ m d l g;have o:ax (ak c.u.s) (d::l)=true:=v;simp only[o,eV];have w:l.length<m.length:=by have:=aB List.length k.2;rw[g] at this;simp at this;omega
   match n,hn with
   |0,hn=>omega
   |n+1,hn=>
    have t:cT l:=λx y=>hm x (by grind);have p:=nN base q f i n {c with u:={c.u with w:=⟨false,[],bW c.u.s c.u.w.g (m.takeWhile (λb=>!ak c.u.s b)) true⟩},r:=l++aA q f} l (by omega) he hst rfl t;have h:bU c.u.s c.u.w.g (m.takeWhile (λb=>!ak c.u.s b)::ar 47 (aq c.u.s l))=bU c.u.s (bW c.u.s c.u.w.g (m.takeWhile (λb=>!ak c.u.s b)) true) (ar 47 (aq c.u.s l)):=by
     unfold bW;rw[bU];split
     .rfl
     .simp[hO]
    rw[h];exact p
theorem kC (s:Bs) (m:Bs):bI (aq s m)=aq s (if ax (ak s) m=true then m.drop 1 else m):=by
 cases m with
 |nil=>unfold aq;split<;>rfl
 |cons c m=>
  cases a:ak s c with
  |true=>rw[mq s c a,ae (show ax (ak s) (c::m)=true from a)];rfl
  |false=>
   rw[nM s c a,ab (show¬ax (ak s) (c::m)=true from by simp[ax,a]),nM s c a];have:=mr s c a;unfold bI;split
   .grind
   .rfl
theorem kD (s m:Bs):aq s m=[]↔m=[]:=by refine⟨λh=>uB λa=>nz s m a h,λh=>?_⟩;subst h;unfold aq;split<;>rfl
theorem nO (base:Option Adr) (c:Mc) (m:Bs) (q f:Option Bs) (s:∀x,q=some x->∀b∈x,b≠35) (n:c.err=0) (u:c.st=5) (w:c.r=m++aA q f) (o:cT m) (p:c.u.w=⟨false,[],[]⟩):fg H base c (.ok (fh {c.u with w:=aV c.u.s [] (aq c.u.s m)} q f)):=by
 refine gD H base c _ (by rw[u];decide) n ?_;have e:ap H base c=eQ c:=by simp[ap,u]
 rw[e];unfold eQ;rw[w,mp];have v:=λ(j:Mc) (k:Bs) (E:j.u=c.u) (D:j.err=0) (A:j.st=6) (z:j.r=k++aA q f) (C:cT k)=>nN H base q f s k.length j k .refl D A z C;by_cases i:ax (ak c.u.s) m=true
 .rw[ae i]
  obtain⟨d,l,rfl⟩:∃d l,m=d::l:=by
   cases m with
   |nil=>cases i
   |cons d l=>simp
  have:=v {c with r:=l++aA q f,st:=6} l rfl n rfl rfl (λx a=>o x (by simp[a]));have g:aV c.u.s [] (aq c.u.s (d::l))=⟨false,[],bU c.u.s c.u.w.g (ar 47 (aq c.u.s l))⟩:=by unfold aV bO;rw[ab (λh=>by grind[kD]),kC,ae i,p];rfl
  rw[g];exact this
 .rw[ab i]
  by_cases a:(m++aA q f=[]\/ax cY (m++aA q f)=true)/\ao c.u.s=false
  .rw[ae a]
   have B:m=[]:=by
    cases m with
    |nil=>rfl
    |cons d l=>
     have F:=o d (by simp);obtain h|h:=a.1
     .cases h
     .grind[ax,cY]
   subst B;have:=kB H base c q f n w s;have g:aV c.u.s [] (aq c.u.s [])=c.u.w:=by unfold aV bO;rw[ae ⟨(kD _ _).2 rfl,a.2⟩,p]
   rw[g];exact this
  .rw[ab a]
   have:=v {c with r:=m++aA q f,st:=6} m rfl n rfl rfl o;have g:aV c.u.s [] (aq c.u.s m)=⟨false,[],bU c.u.s c.u.w.g (ar 47 (aq c.u.s m))⟩:=by
    unfold aV bO;rw[ab,kC,ab i,p];rintro⟨t,y⟩;rw[kD] at t;subst t;refine a ⟨?_,y⟩;rcases sG q f with h|⟨l,h,_⟩|⟨l,h,_⟩
    .left;exact h
    .right;rw[show([]++aA q f:Bs)=63::l from h];rfl
    .right;rw[show([]++aA q f:Bs)=35::l from h];rfl
   rw[g];exact this
end
end Go.Moor
