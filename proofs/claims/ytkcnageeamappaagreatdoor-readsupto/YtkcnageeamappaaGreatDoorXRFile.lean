import Derived.Test.YtkcnageeamappaaGreatDoorXLaid3
set_option maxHeartbeats 32000000
set_option maxRecDepth 8000
namespace Go.Moor
open Go
structure HostMarks (H:Bs→Bool→Option Bs):Prop where
 inner:∀a b sp,a≠[]→H (a++91::b) sp=none
 close:∀x sp,x.head? =some 91→(∀c∈x,c≠93)→H x sp=none
 empty:H [] true=none
def z0Y:Bool→Bs→Option (Bs×Bs)
 |_,[]=>none
 |i,c::l=>if c=58∧i=false then some ([],l) else(z0Y (if c=91 then true else if c=93 then false else i) l).map fun p=>(c::p.1,p.2)
theorem z9G:∀(l:Bs) (i:Bool),(∀c∈l,c≠58)→z0Y i l=none
 | [],_,_=>rfl
 |c::l,i,h=>by
  rw[z0Y,if_neg (fun x=>h c (by simp) x.1),z9G l _ (fun x hx=>h x (by simp[hx]))];rfl
theorem z9H (b:Bs):∀(a:Bs),(∀c∈a,c≠58∧c≠91)→z0Y false (a++58::b)=some (a,b)
 | [],_=>by simp[z0Y]
 |c::a,h=>by
  have hc:=h c (by simp);show z0Y false (c::(a++58::b))=_;rw[z0Y,if_neg (fun x=>hc.1 x.1),if_neg hc.2];have e:(if c=93 then false else false)=false:=by split<;>rfl
  rw[e,z9H b a (fun x hx=>h x (by simp[hx]))];rfl
theorem zh4:∀(x r:Bs),(∀c∈x,c≠93)→z0Y true (x++93::r)=(z0Y false r).map fun p=>(x++93::p.1,p.2)
 | [],r,_=>by simp[z0Y]
 |c::x,r,h=>by
  have hc:=h c (by simp);show z0Y true (c::(x++93::r))=_;rw[z0Y,if_neg (fun y=>by cases y.2)];have e:(if c=91 then true else if c=93 then false else true)=true:=by rw[if_neg hc];split<;>rfl
  rw[e,zh4 x r (fun y hy=>h y (by simp[hy])),Option.map_map];rfl
theorem zbT:∀(x:Bs),(∀c∈x,c≠93)→z0Y true x=none
 | [],_=>rfl
 |c::x,h=>by
  have hc:=h c (by simp);rw[z0Y,if_neg (fun y=>by cases y.2)];have e:(if c=91 then true else if c=93 then false else true)=true:=by rw[if_neg hc];split<;>rfl
  rw[e,zbT x (fun y hy=>h y (by simp[hy]))];rfl
def z1k (t:Bs):Bs×Option Bs:=match z0Y false t with|some (h,p)=>(h,some p)|none=>(t,none)
theorem z9I (b:Bs):∀(a:Bs),(∀c∈a,c≠58)→∀i,∃y,(match z0Y i (a++91::b) with|some (h,_)=>h|none=>a++91::b)=a++91::y
 | [],_,i=>by
  show∃y,(match z0Y i (91::b) with|some (h,_)=>h|none=>91::b)=91::y;rw[z0Y,if_neg (fun h=>absurd h.1 (by decide))];cases z0Y (if(91:UInt8)=91 then true else if(91:UInt8)=93 then false else i) b with
  |none=>exact⟨b,rfl⟩
  |some p=>exact⟨p.1,rfl⟩
 |c::a,h,i=>by
  show∃y,(match z0Y i (c::(a++91::b)) with|some (h,_)=>h|none=>c::(a++91::b))=c::(a++91::y);rw[z0Y,if_neg (fun x=>h c (by simp) x.1)];obtain⟨y,hy⟩:=z9I b a (fun x hx=>h x (by simp[hx])) (if c=91 then true else if c=93 then false else i);cases hs:z0Y (if c=91 then true else if c=93 then false else i) (a++91::b) with
  |none=>rw[hs] at hy;exact⟨y,by rw[show a++91::b=a++91::y from hy];rfl⟩
  |some p=>rw[hs] at hy;exact⟨y,congrArg (fun z=>c::z) (show p.1=a++91::y from hy)⟩
theorem z4Y (c:UInt8) (l:Bs):(∀x∈l,x≠c)∨∃a b,l=a++c::b∧∀x∈a,x≠c:=by
 have:=z5j c l;cases h:z1a c l with
 |none=>rw[h] at this;exact Or.inl this
 |some p=>rw[h] at this;exact Or.inr ⟨p.1,p.2,this.1,this.2⟩
section
variable (H : Bs → Bool → Option Bs)
def z2c (t s:Bs):Except Int Auth:=
 let lp:=z0u t;if t≠[]∧lp.2=[] then .error 4
 else
  let up:=z0i 58 lp.1;let hp:=z1k lp.2
  if hp.1=[]∧(hp.2.isSome∨z0b s=true) then .error 4
  else match H hp.1 (z0b s&&decide (hp.1≠[])) with
   |none=>.error 4
   |some h=>match z1o (hp.2.getD []) s with
    |none=>.error 5
    |some p=>.ok ⟨esc 5 up.1,esc 5 (up.2.getD []),true,h,p⟩
theorem zlh (hm:HostMarks H) (t:Bs):((z1k t).1=(z10 t).1∧(z1k t).2.getD []=(z10 t).2∧((z1k t).2=none→(z1k t).1=t))∨((z1k t).1≠[]∧(z10 t).1≠[]∧∀sp,H (z1k t).1 sp=none∧H (z10 t).1 sp=none):=by
 by_cases h91:t.head? =some 91
 ·obtain⟨t2,rfl⟩:∃t2,t=91::t2:=by
   cases t with
   |nil=>cases h91
   |cons c r=>simp at h91;exact⟨r,by rw[h91]⟩
  have hstep:z0Y false (91::t2)=(z0Y true t2).map fun p=>(91::p.1,p.2):=by rw[z0Y,if_neg (fun h=>absurd h.1 (by decide))];rfl
  rcases z4Y 93 t2 with hn|⟨x,r,rfl,hx⟩
  ·
   have hn':∀c∈(91::t2:Bs),c≠93:=by
    intro c hc;rcases List.mem_cons.1 hc with rfl|hc
    ·decide
    ·exact hn c hc
   have e1:z1k (91::t2)=(91::t2,none):=(by unfold z1k;rw[hstep,zbT t2 hn];rfl);have e2:z2h (91::t2)=0:=(by unfold z2h;rw[if_pos (by rfl),z4k 93 _ hn']);refine Or.inr ?_;rw[e1];refine⟨by simp,?_⟩;have e3:(z10 (91::t2)).1.head? =some 91∧∀c∈(z10 (91::t2)).1,c≠93:=by
    unfold z10;rw[e2];have hinv:=z5j 58 (List.drop 0 (91::t2));cases hc:z1a 58 (List.drop 0 (91::t2)) with
    |none=>exact⟨rfl,hn'⟩
    |some p=>
     rw[hc] at hinv;have hi:=hinv.1;show(List.take 0 (91::t2)++p.1).head? =some 91∧∀c∈List.take 0 (91::t2)++p.1,c≠93;rw[List.take_zero,List.nil_append];refine⟨?_,fun c hc=>hn' c (by rw[show(91::t2:Bs)=List.drop 0 (91::t2) from rfl,hi];exact List.mem_append_left _ hc)⟩;cases hp:p.1 with
     |nil=>rw[hp] at hi;injection hi with h1 _;exact absurd h1 (by decide)
     |cons d q=>rw[hp] at hi;injection hi with h1 _;rw[←h1];rfl
   refine⟨fun h=>(by rw[h] at e3;cases e3.1),fun sp=>⟨hm.close _ sp rfl hn',hm.close _ sp e3.1 e3.2⟩⟩
  ·have hx':∀c∈(91::x:Bs),c≠93:=by
    intro c hc;rcases List.mem_cons.1 hc with rfl|hc
    ·decide
    ·exact hx c hc
   have e2:z2h (91::(x++93::r))=x.length+2:=(by unfold z2h;rw[if_pos (by rfl),show(91::(x++93::r):Bs)=(91::x)++93::r from rfl,z3E 93 _ (91::x) hx'];simp);have e3:z0Y false (91::(x++93::r))=(z0Y false r).map fun p=>(91::(x++93::p.1),p.2):=(by rw[hstep,zh4 x r hx,Option.map_map];rfl);have et:List.take (x.length+2) (91::(x++93::r))=91::(x++ [93]):=(by rw[show(91::(x++93::r):Bs)=(91::(x++ [93]))++r from by simp,show x.length+2=(91::(x++ [93]):Bs).length from by simp,List.take_left]);have ed:List.drop (x.length+2) (91::(x++93::r))=r:=(by rw[show(91::(x++93::r):Bs)=(91::(x++ [93]))++r from by simp,show x.length+2=(91::(x++ [93]):Bs).length from by simp,List.drop_left]);rcases z4Y 58 r with hn|⟨a,b,rfl,ha⟩
   ·refine Or.inl ?_
    unfold z1k z10;rw[e3,e2,ed,z9G r false hn,z4k 58 r hn];exact⟨rfl,rfl,fun _=>rfl⟩
   ·rcases z4Y 91 a with hn|⟨a1,a2,rfl,ha1⟩
    ·refine Or.inl ?_
     unfold z1k z10;rw[e3,e2,ed,et,z9H b a (fun c hc=>⟨ha c hc,hn c hc⟩),z3E 58 b a ha];refine⟨by simp,rfl,fun h=>by cases h⟩
    ·refine Or.inr ?_
     have hca:∀c∈a1,c≠58:=fun c hc=>ha c (by simp[hc]);obtain⟨y,hy⟩:=z9I (a2++58::b) a1 hca false;have hs1:(z1k (91::(x++93::(a1++91::a2++58::b)))).1=(91::(x++93::a1))++91::y:=by
      unfold z1k;rw[e3];have e4:(a1++91::a2++58::b:Bs)=a1++91::(a2++58::b):=(by simp);rw[e4];cases hsc:z0Y false (a1++91::(a2++58::b)) with
      |none=>rw[hsc] at hy;show 91::(x++93::(a1++91::(a2++58::b)))=_;rw[show a1++91::(a2++58::b)=a1++91::y from hy];simp
      |some p=>rw[hsc] at hy;show 91::(x++93::p.1)=_;rw[show p.1=a1++91::y from hy];simp
     have hs2:(z10 (91::(x++93::(a1++91::a2++58::b)))).1=(91::(x++93::a1))++91::a2:=(by unfold z10;rw[e2,ed,et,z3E 58 b _ ha];simp);rw[hs1,hs2];exact⟨by simp,by simp,fun sp=>⟨hm.inner _ _ sp (by simp),hm.inner _ _ sp (by simp)⟩⟩
 ·have e2:z2h t=0:=by unfold z2h;rw[if_neg h91]
  have ecp:z10 t=match z1a 58 t with|some (a,b)=>(a,b)|none=>(t,[]):=by unfold z10;rw[e2];show(match z1a 58 t with|some (a,b)=>([]++a,b)|none=>(t,[]))=_;cases z1a 58 t<;>rfl
  rcases z4Y 58 t with hn|⟨a,b,rfl,ha⟩
  ·refine Or.inl ?_
   unfold z1k;rw[ecp,z9G t false hn,z4k 58 t hn];exact⟨rfl,rfl,fun _=>rfl⟩
  ·rcases z4Y 91 a with hn|⟨a1,a2,rfl,ha1⟩
   ·refine Or.inl ?_
    unfold z1k;rw[ecp,z9H b a (fun c hc=>⟨ha c hc,hn c hc⟩),z3E 58 b a ha];exact⟨rfl,rfl,fun h=>by cases h⟩
   ·have hne:a1≠[]:=by
     rintro rfl;exact h91 rfl
    have hca:∀c∈a1,c≠58:=fun c hc=>ha c (by simp[hc]);obtain⟨y,hy⟩:=z9I (a2++58::b) a1 hca false;have hs1:(z1k (a1++91::a2++58::b)).1=a1++91::y:=by
     unfold z1k;rw[show(a1++91::a2++58::b:Bs)=a1++91::(a2++58::b) from by simp];cases hsc:z0Y false (a1++91::(a2++58::b)) with
     |none=>rw[hsc] at hy;exact hy
     |some p=>rw[hsc] at hy;exact hy
    have hs2:(z10 (a1++91::a2++58::b)).1=a1++91::a2:=(by rw[ecp,z3E 58 b _ ha]);rw[hs1,hs2];exact Or.inr ⟨by simp,by simp,fun sp=>⟨hm.inner _ _ sp hne,hm.inner _ _ sp hne⟩⟩
theorem zjF (hm:HostMarks H) (t s:Bs):z2c H t s=z2i H t s:=by
 unfold z2c z2i;simp only;by_cases h0:t≠[]∧(z0u t).2=[]
 ·rw[if_pos h0,h0.2]
  have:z1W H (z10 []).1 t s=none:=by unfold z1W;rw[if_pos ⟨rfl,h0.1⟩]
  rw[this]
 ·rw[if_neg h0]
  have hpl:=fun h=>Classical.byContradiction fun h2=>h0 ⟨h2,h⟩;rcases zlh H hm (z0u t).2 with⟨e1,e2,e3⟩|⟨n1,n2,hn⟩
  ·rw[←e1,←e2]
   by_cases hh:(z1k (z0u t).2).1=[]
   ·by_cases hc:(z1k (z0u t).2).2.isSome=true∨z0b s=true
    ·rw[if_pos ⟨hh,hc⟩,hh]
     have:z1W H [] t s=none:=by
      unfold z1W;by_cases ht:t=[]
      ·rw[if_neg (fun x=>x.2 ht)]
       rcases hc with hc|hc
       ·subst ht;cases hc
       ·rw[hc];exact hm.empty
      ·rw[if_pos ⟨rfl,ht⟩]
     rw[this]
    ·rw[if_neg (fun x=>hc x.2),hh]
     have hno:(z1k (z0u t).2).2=none:=by
      cases hx:(z1k (z0u t).2).2 with
      |none=>rfl
      |some y=>exact absurd (Or.inl (by rw[hx];rfl)) hc
     have ht:=hpl (by rw[←e3 hno];exact hh);have hsp:z0b s=false:=by
      cases hs:z0b s with
      |false=>rfl
      |true=>exact absurd (Or.inr hs) hc
     have:z1W H [] t s=H [] false:=by unfold z1W;rw[if_neg (fun x=>x.2 ht),hsp]
     rw[this,hsp];rfl
   ·rw[if_neg (fun x=>hh x.1)]
    have:z1W H (z1k (z0u t).2).1 t s=H (z1k (z0u t).2).1 (z0b s):=by unfold z1W;rw[if_neg (fun x=>hh x.1)]
    rw[this,show(z0b s&&decide ((z1k (z0u t).2).1≠[]))=z0b s from by simp[hh]];rfl
  ·rw[if_neg (fun x=>n1 x.1)]
   have:z1W H (z10 (z0u t).2).1 t s=none:=by
    unfold z1W;split
    ·rfl
    ·exact(hn _).2
   rw[this,(hn _).1]
end
def z06 (s:Bs) (c:UInt8):Bool:=c==47||(c==92&&z0b s)
def z2d (c:UInt8):Bool:=c==63||c==35
def z3y (s:Bs) (c:UInt8):Bool:=z06 s c||z2d c
def z0o (p:UInt8→Bool):Bs→Bool
 | []=>false
 |c::_=>p c
structure Mc where
 u:Adr
 r:Bs
 st:Nat
 err:Int
def z0L (c:Mc):Mc:={c with st:=(if c.r.head? =some 63 then 11 else if c.r.head? =some 35 then 12 else 13),r:=c.r.drop 1}
def z1y (b:Adr) (c:Mc):Mc:=
 if c.r=[]∨c.r.head? =some 35 then z0L {c with u:={c.u with way:=⟨false,[],c.u.way.segs++b.way.segs⟩,query:=b.query}}
 else if c.r.head? =some 63 then z0L {c with u:={c.u with way:=⟨false,[],c.u.way.segs++b.way.segs⟩}}
 else{c with u:={c.u with way:=⟨false,[],z08 c.u.scheme (c.u.way.segs++b.way.segs)⟩},st:=6}
def z3v (base:Option Adr) (c:Mc):Mc:=
 match base with
 |none=>{c with err:=3}
 |some b=>if b.way.opaq=true∧c.r.head?≠some 35 then{c with err:=3}
  else if b.way.opaq=true then z0L {c with u:={c.u with scheme:=b.scheme,way:=b.way,query:=b.query}}
  else{c with u:={c.u with scheme:=b.scheme},st:=(if b.scheme=sFile then 8 else 1)}
def z2B (c:Mc):Mc:=
 if c.r.head? =some 47 then(if(c.r.drop 1).head? =some 47 then{c with r:=c.r.drop 2,st:=4} else{c with st:=5}) else{c with st:=7}
def z3l (b:Adr) (c:Mc):Mc:=
 if z0o (z06 c.u.scheme) c.r=true then{c with r:=c.r.drop 1,st:=2} else z1y b {c with u:={c.u with auth:=b.auth}}
def z25 (b:Adr) (c:Mc):Mc:=
 if z0o (z06 c.u.scheme) c.r=true then(if z0b c.u.scheme=true then{c with st:=3} else{c with r:=c.r.drop 1,st:=4})
 else{c with u:={c.u with auth:=b.auth},st:=6}
def z4H (c:Mc):Mc:={c with r:=c.r.dropWhile (z06 c.u.scheme),st:=4}
def z1i (s r:Bs):Bs:=r.takeWhile fun c=>!z3y s c
def z23 (s r:Bs):Bs:=r.dropWhile fun c=>!z3y s c
def z2l (c:Mc):Mc:=
 if z0o (z06 c.u.scheme) c.r=true then{c with r:=c.r.drop 1,st:=6}
 else if(c.r=[]∨z0o z2d c.r=true)∧z0b c.u.scheme=false then z0L c
 else{c with st:=6}
def z1E (s:Bs) (segs:List Bs) (p:Bs) (more:Bool):List Bs:=
 if z1V p=0 then segs++ [z2G s p segs.isEmpty]
 else(if z1V p=2 then z08 s segs else segs)++(if more then [] else [[]])
def z2q (c:Mc):Mc:=
 let more:=z0o (z06 c.u.scheme) (z23 c.u.scheme c.r);let c1:={c with u:={c.u with way:=⟨false,[],z1E c.u.scheme c.u.way.segs (z1i c.u.scheme c.r) more⟩},r:=z23 c.u.scheme c.r};if more=true then{c1 with r:=c1.r.drop 1} else z0L c1
def z3r (c:Mc):Mc:=z0L {c with u:={c.u with way:=⟨true,z0X (c.r.takeWhile fun c=>!z2d c),[]⟩},r:=c.r.dropWhile fun c=>!z2d c}
def z1T (r:Bs):Bool:=z0h (r.take 2)&&(r.drop 2).all fun _=>z0o (fun c=>c==47||c==92||c==63||c==35) (r.drop 2)
def z1B (base:Option Adr):Option Adr:=base.bind fun b=>if b.scheme=sFile then some b else none
def z2b (base:Option Adr) (c:Mc):Mc:=
 let c0:={c with u:={c.u with auth:={c.u.auth with has:=true}}}
 if z0o (z06 c.u.scheme) c.r=true then{c0 with r:=c.r.drop 1,st:=9}
 else match z1B base with
  |none=>{c0 with st:=6}
  |some b=>let c1:={c0 with u:={c0.u with auth:={c0.u.auth with host:=b.auth.host}}};if¬(c.r=[]∨z0o z2d c.r=true)∧z1T c.r=true then{c1 with st:=6} else z1y b c1
def z0D (base:Option Adr) (c:Mc):Mc:=
 let c0:={c with u:={c.u with auth:={c.u.auth with has:=true}}};if z0o (z06 c.u.scheme) c.r=true then{c0 with r:=c.r.drop 1,st:=10}
 else match z1B base with
  |none=>{c0 with st:=6}
  |some b=>{c0 with u:={c0.u with auth:={c0.u.auth with host:=b.auth.host},way:=⟨false,[],c.u.way.segs++(if z1T c.r=true then [] else z13 b.way.segs)⟩},st:=6}
section
variable (H : Bs → Bool → Option Bs)
def z2Z (c:Mc):Mc:=
 match z2c H (z1i c.u.scheme c.r) c.u.scheme with
 | .error e=>{c with err:=e}
 | .ok a=>{c with u:={c.u with auth:=a},r:=z23 c.u.scheme c.r,st:=5}
def z1U (c:Mc):Mc:=
 let c0:={c with u:={c.u with auth:={c.u.auth with has:=true}}};if z0h (z1i c.u.scheme c.r)=true then{c0 with st:=6}
 else match z1v H (z1i c.u.scheme c.r) with
  |none=>{c0 with err:=4}
  |some h=>{c0 with u:={c0.u with auth:={c0.u.auth with host:=h}},r:=z23 c.u.scheme c.r,st:=5}
def z3G (c:Mc):Mc:=z0L {c with u:={c.u with query:=some (esc (z0q c.u.scheme) (c.r.takeWhile fun b=>decide (b≠35)))},r:=c.r.dropWhile fun b=>decide (b≠35)}
def z5k (c:Mc):Mc:={c with u:={c.u with frag:=some (esc 1 c.r)},st:=13}
def z0g (base:Option Adr) (c:Mc):Mc:=
 if c.st=14 then z3v base c
 else if c.st=15 then z2B c
 else if c.st=1 then(match base with|some b=>z3l b c|none=>c)
 else if c.st=2 then(match base with|some b=>z25 b c|none=>c)
 else if c.st=3 then z4H c
 else if c.st=4 then z2Z H c
 else if c.st=5 then z2l c
 else if c.st=6 then z2q c
 else if c.st=7 then z3r c
 else if c.st=8 then z2b base c
 else if c.st=9 then z0D base c
 else if c.st=10 then z1U H c
 else if c.st=11 then z3G c
 else if c.st=12 then z5k c
 else c
def z5T (base:Option Adr):Nat→Mc→Option Mc
 |0,c=>if c.st=13∨c.err≠0 then some c else none
 |n+1,c=>if c.st=13∨c.err≠0 then some c else z5T base n (z0g H base c)
def z4w (base:Option Adr) (c:Mc) (res:Except Int Adr):Prop:=∃n f,z5T H base n c=some f∧match res with| .error e=>f.err=e∧e≠0| .ok a=>f.err=0∧f.u=a
theorem z2v (base:Option Adr) (c:Mc) (res:Except Int Adr) (h13:c.st≠13) (he:c.err=0) (h:z4w H base (z0g H base c) res):z4w H base c res:=by
 obtain⟨n,f,h1,h2⟩:=h;refine⟨n+1,f,?_,h2⟩;rw[z5T,if_neg]
 ·exact h1
 ·rintro(h|h)
  ·exact h13 h
  ·exact h he
theorem zb6 (base:Option Adr) (c:Mc) (h13:c.st=13) (he:c.err=0):z4w H base c (.ok c.u):=⟨0,c,by rw[z5T,if_pos (Or.inl h13)],he,rfl⟩
theorem z8D (base:Option Adr) (c:Mc) (e:Int) (hc:c.err=e) (he:e≠0):z4w H base c (.error e):=⟨0,c,by rw[z5T,if_pos (Or.inr (by rw[hc];exact he))],hc,he⟩
def z0m (q f:Option Bs):Bs:=z1b 63 q++z1b 35 f
def fin (u:Adr) (q f:Option Bs):Adr:=
 {u with query:=(match q with|none=>u.query|some x=>some (esc (z0q u.scheme) x)),frag:=(match f with|none=>u.frag|some x=>some (esc 1 x))}
theorem z4o (q f:Option Bs) (c:UInt8) (l:Bs) (h:z0m q f=c::l):z2d c=true:=by
 unfold z0m at h;cases q with
 |some x=>injection h with h _;subst h;rfl
 |none=>
  cases f with
  |some y=>injection h with h _;subst h;rfl
  |none=>cases h
theorem zb7 (q f:Option Bs):z0m q f=[]∨(∃l,z0m q f=63::l∧q.isSome=true)∨(∃l,z0m q f=35::l∧q=none):=by
 cases q with
 |some x=>exact Or.inr (Or.inl ⟨x++z1b 35 f,rfl,rfl⟩)
 |none=>
  cases f with
  |some y=>exact Or.inr (Or.inr ⟨y,rfl,rfl⟩)
  |none=>exact Or.inl rfl
theorem zjH (x y:Bs) (h:∀c∈x,c≠35):(x++35::y).takeWhile (fun b=>decide (b≠35))=x∧(x++35::y).dropWhile (fun b=>decide (b≠35))=35::y:=by rw[List.takeWhile_append_of_pos (by simpa using h),List.dropWhile_append_of_pos (by simpa using h)];simp
theorem zf5 (x:Bs) (p:UInt8→Bool) (h:∀c∈x,p c=true):x.takeWhile p=x∧x.dropWhile p=[]:=by have e1:=List.takeWhile_append_of_pos (p:=p) (l₁:=x) (l₂:=[]) h;have e2:=List.dropWhile_append_of_pos (p:=p) (l₁:=x) (l₂:=[]) h;simp only[List.append_nil,List.takeWhile_nil,List.dropWhile_nil] at e1 e2;exact⟨e1,e2⟩
theorem zdi (base:Option Adr) (c:Mc) (he:c.err=0) (hs:c.st=12):z4w H base c (.ok {c.u with frag:=some (esc 1 c.r)}):=by
 refine z2v H base c _ (by rw[hs];decide) he ?_;have e:z0g H base c=z5k c:=by simp[z0g,hs]
 rw[e];exact zb6 H base _ rfl he
theorem z4p (base:Option Adr) (c:Mc) (q f:Option Bs) (he:c.err=0) (hr:c.r=z0m q f) (hq:∀x,q=some x→∀b∈x,b≠35):z4w H base (z0L c) (.ok (fin c.u q f)):=by
 cases q with
 |none=>
  cases f with
  |none=>have e:z0L c={c with st:=13,r:=[]}:=(by unfold z0L;rw[hr];rfl);rw[e];exact zb6 H base _ rfl he
  |some y=>have e:z0L c={c with st:=12,r:=y}:=(by unfold z0L;rw[hr];rfl);rw[e];exact zdi H base _ he rfl
 |some x=>
  have hx:=hq x rfl;have e:z0L c={c with st:=11,r:=x++z1b 35 f}:=by unfold z0L;rw[hr];rfl
  rw[e];refine z2v H base _ _ (by simp) he ?_;have e2:z0g H base {c with st:=11,r:=x++z1b 35 f}=z3G {c with st:=11,r:=x++z1b 35 f}:=by simp[z0g]
  rw[e2];unfold z3G;cases f with
  |none=>have e3:(x++z1b 35 none).takeWhile (fun b=>decide (b≠35))=x∧(x++z1b 35 none).dropWhile (fun b=>decide (b≠35))=[]:=(by rw[show z1b 35 none=[] from rfl,List.append_nil];exact zf5 x _ (by simpa using hx));simp only[e3.1,e3.2];exact zb6 H base _ rfl he
  |some y=>have e3:=zjH x y hx;have e3:(x++z1b 35 (some y)).takeWhile (fun b=>decide (b≠35))=x∧(x++z1b 35 (some y)).dropWhile (fun b=>decide (b≠35))=35::y:=e3;simp only[e3.1,e3.2];exact zdi H base _ he rfl
theorem zcI (p:UInt8→Bool) (T:Bs) (hT:∀c l,T=c::l→p c=false):∀m:Bs,(m++T).takeWhile p=m.takeWhile p∧(m++T).dropWhile p=m.dropWhile p++T
 | []=>by
  cases T with
  |nil=>exact⟨rfl,rfl⟩
  |cons c l=>simp[List.takeWhile,List.dropWhile,hT c l rfl]
 |c::m=>by
  have ih:=zcI p T hT m;cases hp:p c with
  |true=>simp[List.takeWhile,List.dropWhile,hp,ih]
  |false=>simp[List.takeWhile,List.dropWhile,hp]
theorem zf6 (p q:UInt8→Bool):∀m:Bs,(∀c∈m,p c=q c)→m.takeWhile p=m.takeWhile q∧m.dropWhile p=m.dropWhile q
 | [],_=>⟨rfl,rfl⟩
 |c::m,h=>by
  have ih:=zf6 p q m (fun x hx=>h x (by simp[hx]));have hc:=h c (by simp);cases hp:p c with
  |true=>rw[hp] at hc;simp[List.takeWhile,List.dropWhile,hp,←hc,ih]
  |false=>rw[hp] at hc;simp[List.takeWhile,List.dropWhile,hp,←hc]
def z30 (m:Bs):Prop:=∀c∈m,c≠35∧c≠63
theorem z8E (s m:Bs) (q f:Option Bs) (hm:z30 m):z1i s (m++z0m q f)=m.takeWhile (fun c=>!z06 s c)∧z23 s (m++z0m q f)=m.dropWhile (fun c=>!z06 s c)++z0m q f:=by unfold z1i z23;have h1:=zcI (fun c=>!z3y s c) (z0m q f) (fun c l h=>by simp[z3y,z4o q f c l h]) m;have h2:=zf6 (fun c=>!z3y s c) (fun c=>!z06 s c) m (fun c hc=>by have:=hm c hc;simp[z3y,z2d,this.1,this.2]);rw[h1.1,h1.2,h2.1,h2.2];exact⟨rfl,rfl⟩
theorem zbV (s:Bs) (c:UInt8) (h:z2d c=true):z06 s c=false:=by
 simp only[z2d,Bool.or_eq_true,beq_iff_eq] at h;rcases h with rfl|rfl
 ·simp[z06]
 ·simp[z06]
theorem z5q (s m:Bs) (q f:Option Bs):z0o (z06 s) (m++z0m q f)=z0o (z06 s) m:=by
 cases m with
 |cons c m=>rfl
 |nil=>
  show z0o (z06 s) (z0m q f)=false;cases ht:z0m q f with
  |nil=>rfl
  |cons c l=>exact zbV s c (z4o q f c l ht)
theorem z3V (s:Bs) (c:UInt8) (m:Bs):z02 s (c::m)=(if z06 s c=true then 47 else c)::z02 s m:=by
 unfold z02;cases hs:z0b s with
 |false=>
  simp only[Bool.false_eq_true,if_false];congr 1;by_cases h:c=47
  ·subst h;simp
  ·simp[z06,hs,h]
 |true=>
  simp only[if_true,List.map_cons];congr 1;by_cases h:c=92
  ·subst h;simp[z06,hs]
  ·by_cases h2:c=47
   ·subst h2;simp
   ·simp[z06,hs,h,h2]
theorem z4x (s:Bs) (c:UInt8) (h:z06 s c=true) (m:Bs):z02 s (c::m)=47::z02 s m:=by rw[z3V,if_pos h]
theorem z5U (s:Bs) (c:UInt8) (h:z06 s c=false) (m:Bs):z02 s (c::m)=c::z02 s m:=by rw[z3V,if_neg (by simp[h])]
theorem z45 (s:Bs) (c:UInt8) (h:z06 s c=false):c≠47:=by rintro rfl;simp[z06] at h
theorem z5l (s:Bs):∀m:Bs,z0l (z02 s m)=(m.takeWhile (fun c=>!z06 s c),z02 s (m.dropWhile (fun c=>!z06 s c)))
 | []=>by
  have e:z02 s []=[]:=by unfold z02;split<;>rfl
  simp[e,z0l]
 |c::m=>by
  have ih:=z5l s m;cases hc:z06 s c with
  |true=>rw[z4x s c hc];simp[z0l,hc,z4x s c hc]
  |false=>rw[z5U s c hc];unfold z0l at ih⊢;have hne:=z45 s c hc;simp only[Prod.mk.injEq] at ih;simp only[List.takeWhile_cons,List.dropWhile_cons,hc,hne,ne_eq,not_false_eq_true,decide_true,if_true,Bool.not_false,ih.1,ih.2]
theorem z6K (s m:Bs):(∀c∈m.takeWhile (fun c=>!z06 s c),z06 s c=false)∧m=m.takeWhile (fun c=>!z06 s c)++m.dropWhile (fun c=>!z06 s c):=by refine⟨fun c hc=>?_,(List.takeWhile_append_dropWhile).symm⟩;have:=List.all_takeWhile (p:=fun c=>!z06 s c) (l:=m);rw[List.all_eq_true] at this;simpa using this c hc
theorem zbW (s m:Bs) (c:UInt8) (l:Bs) (h:m.dropWhile (fun c=>!z06 s c)=c::l):z06 s c=true:=by have:=List.head?_dropWhile_not (fun c=>!z06 s c) m;rw[h] at this;simpa using this
theorem zi1 (s m:Bs):match m.dropWhile (fun c=>!z06 s c) with
  | []=>z0a 47 (z02 s m)=[m.takeWhile (fun c=>!z06 s c)]
  |_::l=>z0a 47 (z02 s m)=m.takeWhile (fun c=>!z06 s c)::z0a 47 (z02 s l):=by
 have ht:=z6K s m;have e:z02 s m=m.takeWhile (fun c=>!z06 s c)++z02 s (m.dropWhile (fun c=>!z06 s c)):=by have h1:=z5l s m;unfold z0l at h1;simp only[Prod.mk.injEq] at h1;rw[←h1.1,←h1.2,List.takeWhile_append_dropWhile]
 have hn:=fun x hx=>z45 s x (ht.1 x hx);cases hd:m.dropWhile (fun c=>!z06 s c) with
 |nil=>
  rw[hd] at e;have e0:z02 s []=[]:=by unfold z02;split<;>rfl
  rw[e0,List.append_nil] at e;show z0a 47 (z02 s m)=_;rw[e,z3L 47 _ hn]
 |cons c l=>rw[hd,z4x s c (zbW s m c l hd)] at e;show z0a 47 (z02 s m)=_;rw[e,z2W 47 _ _ hn]
theorem z6A (base:Option Adr) (q f:Option Bs) (hq:∀x,q=some x→∀b∈x,b≠35):∀(n:Nat) (c:Mc) (m:Bs),m.length≤n→c.err=0→c.st=6→c.r=m++z0m q f→z30 m→z4w H base c (.ok (fin {c.u with way:=⟨false,[],z0R c.u.scheme c.u.way.segs (z0a 47 (z02 c.u.scheme m))⟩} q f))
 |n,c,m,hn,he,hst,hr,hm=>by
  refine z2v H base c _ (by rw[hst];decide) he ?_;have e:z0g H base c=z2q c:=by simp[z0g,hst]
  rw[e];unfold z2q;have hu:=z8E c.u.scheme m q f hm;simp only[hr,hu.1,hu.2,z5q];have hsp:=zi1 c.u.scheme m;have hts:=z6K c.u.scheme m;cases hd:m.dropWhile (fun b=>!z06 c.u.scheme b) with
  |nil=>
   rw[hd] at hsp;simp only at hsp;rw[hsp];have hmark:=z4p H base {c with u:={c.u with way:=⟨false,[],z1E c.u.scheme c.u.way.segs (m.takeWhile (fun b=>!z06 c.u.scheme b)) false⟩},r:=z0m q f} q f he rfl hq;have e2:z0R c.u.scheme c.u.way.segs [m.takeWhile (fun b=>!z06 c.u.scheme b)]=z1E c.u.scheme c.u.way.segs (m.takeWhile (fun b=>!z06 c.u.scheme b)) false:=by
    unfold z1E;rw[z0R];split
    ·rfl
    ·rfl
   rw[e2];exact hmark
  |cons d l=>
   rw[hd] at hsp;simp only at hsp;rw[hsp];have hsl:=zbW _ m d l hd;have hh:z0o (z06 c.u.scheme) (d::l)=true:=hsl;simp only[hh,if_true];have hlen:l.length<m.length:=by have:=congrArg List.length hts.2;rw[hd] at this;simp at this;omega
   match n,hn with
   |0,hn=>omega
   |n+1,hn=>
    have hml:z30 l:=fun x hx=>hm x (by rw[hts.2,hd];simp[hx]);have ih:=z6A base q f hq n {c with u:={c.u with way:=⟨false,[],z1E c.u.scheme c.u.way.segs (m.takeWhile (fun b=>!z06 c.u.scheme b)) true⟩},r:=l++z0m q f} l (by omega) he hst rfl hml;have e2:z0R c.u.scheme c.u.way.segs (m.takeWhile (fun b=>!z06 c.u.scheme b)::z0a 47 (z02 c.u.scheme l))=z0R c.u.scheme (z1E c.u.scheme c.u.way.segs (m.takeWhile (fun b=>!z06 c.u.scheme b)) true) (z0a 47 (z02 c.u.scheme l)):=by
     unfold z1E;rw[z0R];split
     ·rfl
     ·have:(z0a 47 (z02 c.u.scheme l)).isEmpty=false:=by
       cases hx:z0a 47 (z02 c.u.scheme l) with
       |nil=>exact absurd hx (z26 47 _)
       |cons a b=>rfl
      rw[this];rfl
    rw[e2];exact ih
theorem z4q (s:Bs) (m:Bs):z0v (z02 s m)=z02 s (if z0o (z06 s) m=true then m.drop 1 else m):=by
 cases m with
 |nil=>unfold z02;split<;>rfl
 |cons c m=>
  cases hc:z06 s c with
  |true=>rw[z4x s c hc,if_pos (show z0o (z06 s) (c::m)=true from hc)];rfl
  |false=>
   rw[z5U s c hc,if_neg (show¬z0o (z06 s) (c::m)=true from by simp[z0o,hc]),z5U s c hc];have:=z45 s c hc;unfold z0v;split
   ·rename_i h
    injection h with h _;exact absurd h this
   ·rfl
theorem z3z (s m:Bs):z02 s m=[]↔m=[]:=by refine⟨fun h=>Classical.byContradiction fun h2=>z7b s m h2 h,fun h=>?_⟩;subst h;unfold z02;split<;>rfl
theorem z7z (base:Option Adr) (c:Mc) (m:Bs) (q f:Option Bs) (hq:∀x,q=some x→∀b∈x,b≠35) (he:c.err=0) (hst:c.st=5) (hr:c.r=m++z0m q f) (hm:z30 m) (hw:c.u.way=⟨false,[],[]⟩):z4w H base c (.ok (fin {c.u with way:=z0M c.u.scheme [] (z02 c.u.scheme m)} q f)):=by
 refine z2v H base c _ (by rw[hst];decide) he ?_;have e:z0g H base c=z2l c:=by simp[z0g,hst]
 rw[e];unfold z2l;rw[hr,z5q];have hsegs:=fun(c2:Mc) (m2:Bs) (hu:c2.u=c.u) (he2:c2.err=0) (hst2:c2.st=6) (hr2:c2.r=m2++z0m q f) (hm2:z30 m2)=>z6A H base q f hq m2.length c2 m2 (Nat.le_refl _) he2 hst2 hr2 hm2;by_cases hh:z0o (z06 c.u.scheme) m=true
 ·rw[if_pos hh]
  obtain⟨d,l,rfl⟩:∃d l,m=d::l:=by
   cases m with
   |nil=>cases hh
   |cons d l=>exact⟨d,l,rfl⟩
  have:=hsegs {c with r:=l++z0m q f,st:=6} l rfl he rfl rfl (fun x hx=>hm x (by simp[hx]));have e2:z0M c.u.scheme [] (z02 c.u.scheme (d::l))=⟨false,[],z0R c.u.scheme c.u.way.segs (z0a 47 (z02 c.u.scheme l))⟩:=by unfold z0M z0z;rw[if_neg (fun h=>by rw[z3z] at h;cases h.1),z4q,if_pos hh,hw];rfl
  rw[e2];exact this
 ·rw[if_neg hh]
  by_cases hx:(m++z0m q f=[]∨z0o z2d (m++z0m q f)=true)∧z0b c.u.scheme=false
  ·rw[if_pos hx]
   have hm0:m=[]:=by
    cases m with
    |nil=>rfl
    |cons d l=>
     have hd:=hm d (by simp);rcases hx.1 with h|h
     ·cases h
     ·simp[z0o,z2d,hd.1,hd.2] at h
   subst hm0;have:=z4p H base c q f he hr hq;have e2:z0M c.u.scheme [] (z02 c.u.scheme [])=c.u.way:=by unfold z0M z0z;rw[if_pos ⟨(z3z _ _).2 rfl,hx.2⟩,hw]
   rw[e2];exact this
  ·rw[if_neg hx]
   have:=hsegs {c with r:=m++z0m q f,st:=6} m rfl he rfl rfl hm;have e2:z0M c.u.scheme [] (z02 c.u.scheme m)=⟨false,[],z0R c.u.scheme c.u.way.segs (z0a 47 (z02 c.u.scheme m))⟩:=by
    unfold z0M z0z;rw[if_neg,z4q,if_neg hh,hw];rintro⟨h1,h2⟩;rw[z3z] at h1;subst h1;refine hx ⟨?_,h2⟩;rcases zb7 q f with h|⟨l,h,_⟩|⟨l,h,_⟩
    ·left;exact h
    ·right;rw[show([]++z0m q f:Bs)=63::l from h];rfl
    ·right;rw[show([]++z0m q f:Bs)=35::l from h];rfl
   rw[e2];exact this
end
section
variable (H : Bs → Bool → Option Bs)
theorem z9J (hm2:HostMarks H) (base:Option Adr) (c:Mc) (m:Bs) (q f:Option Bs) (hq:∀x,q=some x→∀b∈x,b≠35) (he:c.err=0) (hst:c.st=4) (hr:c.r=m++z0m q f) (hm:z30 m) (hw:c.u.way=⟨false,[],[]⟩):z4w H base c (match z0Q H c.u.scheme (z02 c.u.scheme m) with| .error e=>.error e| .ok (a,w)=>.ok (fin {c.u with auth:=a,way:=w} q f)):=by
 refine z2v H base c _ (by rw[hst];decide) he ?_;have e:z0g H base c=z2Z H c:=by simp[z0g,hst]
 rw[e];unfold z2Z z0Q;have hu:=z8E c.u.scheme m q f hm;simp only[hr,hu.1,hu.2,zjF H hm2,z5l];cases ha:z2i H (m.takeWhile fun b=>!z06 c.u.scheme b) c.u.scheme with
 |error n=>
  simp only;have hn:n≠0:=by
   unfold z2i at ha;simp only at ha;split at ha
   ·injection ha with ha;rw[←ha];decide
   ·split at ha
    ·injection ha with ha;rw[←ha];decide
    ·cases ha
  exact z8D H base _ n rfl hn
 |ok a=>simp only;have hts:=z6K c.u.scheme m;exact z7z H base {c with u:={c.u with auth:=a},r:=m.dropWhile (fun b=>!z06 c.u.scheme b)++z0m q f,st:=5} _ q f hq he rfl rfl (fun x hx=>hm x (by rw[hts.2];exact List.mem_append_right _ hx)) hw
theorem zdf (s:Bs) (T:Bs) (hT:∀c l,T=c::l→z06 s c=false):∀m:Bs,(m++T).dropWhile (z06 s)=m.dropWhile (z06 s)++T∧z02 s (m.dropWhile (z06 s))=z0x (z02 s m)
 | []=>by
  refine⟨?_,?_⟩
  ·cases T with
   |nil=>rfl
   |cons c l=>simp[hT c l rfl]
  ·have e0:=(z3z s []).2 rfl
   simp[e0,z0x]
 |c::m=>by
  have ih:=zdf s T hT m;cases hc:z06 s c with
  |true=>rw[z4x s c hc];simp only[List.cons_append,List.dropWhile_cons,hc,if_true];refine⟨ih.1,?_⟩;rw[ih.2];simp[z0x]
  |false=>simp only[List.cons_append,List.dropWhile_cons,hc,Bool.false_eq_true,if_false];refine⟨trivial,?_⟩;rw[z5U s c hc];have:=z45 s c hc;simp[z0x,this]
theorem zli (s m:Bs) (x:UInt8) (h:x∈m.dropWhile (z06 s)):x∈m:=(List.dropWhile_sublist _).subset h
theorem zf3 (hm2:HostMarks H) (base:Option Adr) (c:Mc) (m:Bs) (q f:Option Bs) (hq:∀x,q=some x→∀b∈x,b≠35) (he:c.err=0) (hst:c.st=3) (hr:c.r=m++z0m q f) (hm:z30 m) (hw:c.u.way=⟨false,[],[]⟩):z4w H base c (match z0Q H c.u.scheme (z0x (z02 c.u.scheme m)) with| .error e=>.error e| .ok (a,w)=>.ok (fin {c.u with auth:=a,way:=w} q f)):=by
 refine z2v H base c _ (by rw[hst];decide) he ?_;have e:z0g H base c=z4H c:=by simp[z0g,hst]
 rw[e];unfold z4H;have hd:=zdf c.u.scheme (z0m q f) (fun b l h=>zbV _ b (z4o q f b l h)) m;rw[hr,hd.1,←hd.2];exact z9J H hm2 base {c with r:=m.dropWhile (z06 c.u.scheme)++z0m q f,st:=4} _ q f hq he rfl rfl (fun x hx=>hm x (zli _ m x hx)) hw
theorem zdg (s m:Bs) (h:z0b s=false):z02 s m=m:=by unfold z02;rw[h];rfl
theorem zdh (m:Bs) (q f:Option Bs) (hm:z30 m):(m++z0m q f).takeWhile (fun c=>!z2d c)=m∧(m++z0m q f).dropWhile (fun c=>!z2d c)=z0m q f:=by have h1:=zcI (fun c=>!z2d c) (z0m q f) (fun c l h=>by simp[z4o q f c l h]) m;have h2:=zf5 m (fun c=>!z2d c) (fun c hc=>by have:=hm c hc;simp[z2d,this.1,this.2]);rw[h1.1,h1.2,h2.1,h2.2];exact⟨rfl,rfl⟩
theorem zjG (hm2:HostMarks H) (base:Option Adr) (c:Mc) (m:Bs) (q f:Option Bs) (hq:∀x,q=some x→∀b∈x,b≠35) (he:c.err=0) (hst:c.st=15) (hr:c.r=m++z0m q f) (hm:z30 m) (hw:c.u.way=⟨false,[],[]⟩) (ha:c.u.auth=noAuth) (hs:z0b c.u.scheme=false):z4w H base c (match z1l H c.u.scheme m with| .error e=>.error e| .ok (a,w)=>.ok (fin {c.u with auth:=a,way:=w} q f)):=by
 refine z2v H base c _ (by rw[hst];decide) he ?_;have e:z0g H base c=z2B c:=by simp[z0g,hst]
 rw[e];unfold z2B z1l;have hv:=fun x=>zdg c.u.scheme x hs;have tailne:∀l,z0m q f≠47::l:=fun l h=>absurd (z4o q f 47 l h) (by decide);match m,hm with
 | [],hm=>
  have h1:¬(([]++z0m q f).head? =some 47):=by
   intro h;cases ht:z0m q f with
   |nil=>rw[ht] at h;cases h
   |cons d l=>rw[ht] at h;simp at h;subst h;exact tailne l ht
  rw[hr,if_neg h1,if_neg (by simp[List.isPrefixOf]),if_neg (by simp)];simp only;refine z2v H base _ _ (by simp) he ?_;have e2:z0g H base {c with r:=[]++z0m q f,st:=7}=z3r {c with r:=[]++z0m q f,st:=7}:=by simp[z0g]
  rw[e2];unfold z3r;have ho:=zdh [] q f hm;simp only[ho.1,ho.2];have:=z4p H base {c with u:={c.u with way:=⟨true,z0X [],[]⟩},r:=z0m q f,st:=7} q f he rfl hq;rw[←ha];exact this
 |d::l,hm=>
  by_cases hd:d=47
  ·subst hd
   have h1:((47::l)++z0m q f).head? =some 47:=rfl;rw[hr,if_pos h1];have hml:z30 l:=fun x hx=>hm x (by simp[hx]);match l,hml with
   | [],hml=>
    have h2:¬((List.drop 1 ((47::[])++z0m q f)).head? =some 47):=by
     intro h;cases ht:z0m q f with
     |nil=>rw[ht] at h;cases h
     |cons x y=>rw[ht] at h;simp at h;subst h;exact tailne y ht
    rw[if_neg h2,if_neg (by simp[List.isPrefixOf]),if_pos (by rfl)];simp only;have:=z7z H base {c with r:=[47]++z0m q f,st:=5} [47] q f hq he rfl rfl hm hw;rw[hv] at this;rw[←ha];exact this
   |x::y,hml=>
    by_cases hx:x=47
    ·subst hx
     rw[if_pos (by rfl),if_pos (by rfl)];have:=z9J H hm2 base {c with r:=y++z0m q f,st:=4} y q f hq he rfl rfl (fun z hz=>hm z (by simp[hz])) hw;rw[hv] at this;exact this
    ·have h2:¬((List.drop 1 ((47::x::y)++z0m q f)).head? =some 47):=by simpa using hx
     rw[if_neg h2,if_neg (by simp[List.isPrefixOf];exact fun h=>hx h.symm),if_pos (by rfl)];simp only;have:=z7z H base {c with r:=(47::x::y)++z0m q f,st:=5} (47::x::y) q f hq he rfl rfl hm hw;rw[hv] at this;rw[←ha];exact this
  ·have h1:¬(((d::l)++z0m q f).head? =some 47):=by simpa using hd
   rw[hr,if_neg h1,if_neg (by simp[List.isPrefixOf];exact fun h=>absurd h.symm hd),if_neg (by simpa using hd)];simp only;refine z2v H base _ _ (by simp) he ?_;have e2:z0g H base {c with r:=(d::l)++z0m q f,st:=7}=z3r {c with r:=(d::l)++z0m q f,st:=7}:=(by simp[z0g]);rw[e2];unfold z3r;have ho:=zdh (d::l) q f hm;simp only[ho.1,ho.2];have:=z4p H base {c with u:={c.u with way:=⟨true,z0X (d::l),[]⟩},r:=z0m q f,st:=7} q f he rfl hq;rw[←ha];exact this
theorem zbU (base:Option Adr) (b:Adr) (c:Mc) (m:Bs) (q f:Option Bs) (hq:∀x,q=some x→∀b∈x,b≠35) (he:c.err=0) (hr:c.r=m++z0m q f) (hm:z30 m) (hs:z0o (z06 c.u.scheme) m=false) (hw:c.u.way=⟨false,[],[]⟩) (hu:c.u.query=none) (hfr:c.u.frag=none) (hbw:b.way.opaq=false∧b.way.text=[]):z4w H base (z1y b c) (.ok {c.u with way:=(z2X c.u.scheme (z02 c.u.scheme m) (q.map (esc (z0q c.u.scheme))) b).1,query:=(z2X c.u.scheme (z02 c.u.scheme m) (q.map (esc (z0q c.u.scheme))) b).2,frag:=f.map (esc 1)}):=by
 have hbw2:b.way=⟨false,[],b.way.segs⟩:=by
  cases hx:b.way with
  |mk o t sg=>rw[hx] at hbw;simp only at hbw;rw[hbw.1,hbw.2]
 have hnil:([]:List Bs)++b.way.segs=b.way.segs:=rfl;unfold z1y z2X;rw[hr,hw];simp only[hnil];cases m with
 |nil=>
  have hem:z02 c.u.scheme []=[]:=(z3z _ _).2 rfl;rw[if_neg (show¬(z02 c.u.scheme []≠[]) from fun h=>h hem)];rw[List.nil_append];rcases zb7 q f with ht|⟨l,ht,hqs⟩|⟨l,ht,hqn⟩
  ·rw[if_pos (Or.inl ht)]
   have hqf:q=none∧f=none:=by
    cases q with
    |some x=>cases ht
    |none=>
     cases f with
     |some y=>cases ht
     |none=>exact⟨rfl,rfl⟩
   obtain⟨rfl,rfl⟩:=hqf;have:=z4p H base {c with u:={c.u with way:=⟨false,[],b.way.segs⟩,query:=b.query},r:=z0m none none} none none he rfl hq;rw[←hbw2] at this⊢;simp only[fin,hfr] at this⊢;exact this
  ·rw[if_neg,if_pos]
   ·have:=z4p H base {c with u:={c.u with way:=⟨false,[],b.way.segs⟩},r:=z0m q f} q f he rfl hq
    rw[←hbw2] at this⊢;obtain⟨x,rfl⟩:∃x,q=some x:=by cases q with|none=>cases hqs|some x=>exact⟨x,rfl⟩
    simp only[fin,hfr] at this⊢;cases f with
    |none=>exact this
    |some y=>exact this
   ·rw[ht];rfl
   ·rw[ht]
    rintro(h|h)
    ·cases h
    ·simp at h
  ·subst hqn
   rw[if_pos (Or.inr (by rw[ht];rfl))];have:=z4p H base {c with u:={c.u with way:=⟨false,[],b.way.segs⟩,query:=b.query},r:=z0m none f} none f he rfl hq;rw[←hbw2] at this⊢;simp only[fin,hfr] at this⊢;cases f with
   |none=>exact this
   |some y=>exact this
 |cons d l=>
  have hd:=hm d (by simp);rw[if_neg,if_neg,if_pos (z7b _ _ (by simp))]
  ·have:=z6A H base q f hq (d::l).length {c with u:={c.u with way:=⟨false,[],z08 c.u.scheme b.way.segs⟩},r:=(d::l)++z0m q f,st:=6} (d::l) (Nat.le_refl _) he rfl rfl hm
   have e2:z0M c.u.scheme (z08 c.u.scheme b.way.segs) (z02 c.u.scheme (d::l))=⟨false,[],z0R c.u.scheme (z08 c.u.scheme b.way.segs) (z0a 47 (z02 c.u.scheme (d::l)))⟩:=(by unfold z0M z0z;rw[if_neg (fun h=>z7b _ _ (by simp) h.1),z4q,if_neg (by simp[hs])]);rw[e2];simp only[fin,hfr,hu] at this⊢;cases q with
   |none=>
    cases f with
    |none=>exact this
    |some y=>exact this
   |some x=>
    cases f with
    |none=>exact this
    |some y=>exact this
  ·simpa using hd.2
  ·simpa using hd.1
theorem z7y (s m:Bs):((z02 s m).head? =some 47)↔z0o (z06 s) m=true:=by
 cases m with
 |nil=>rw[(z3z s []).2 rfl];simp[z0o]
 |cons c m=>
  cases hc:z06 s c with
  |true=>rw[z4x s c hc];simp[z0o,hc]
  |false=>rw[z5U s c hc];have:=z45 s c hc;simp[z0o,hc,this]
theorem z6c (s m:Bs):([47,47].isPrefixOf (z02 s m)=true)↔(z0o (z06 s) m=true∧z0o (z06 s) (m.drop 1)=true):=by
 match m with
 | []=>rw[(z3z s []).2 rfl];simp[z0o,List.isPrefixOf]
 | [c]=>rw[z3V,(z3z s []).2 rfl];simp[z0o,List.isPrefixOf]
 |c::d::m=>
  rw[z3V,z3V];simp only[List.isPrefixOf,Bool.and_true,Bool.and_eq_true,beq_iff_eq,z0o,List.drop_succ_cons,List.drop_zero];constructor
  ·rintro⟨h1,h2⟩
   refine⟨?_,?_⟩
   ·cases hc:z06 s c with
    |true=>rfl
    |false=>rw[hc] at h1;exact absurd h1.symm (z45 s c hc)
   ·cases hc:z06 s d with
    |true=>rfl
    |false=>rw[hc] at h2;exact absurd h2.symm (z45 s d hc)
  ·rintro⟨h1,h2⟩
   simp[h1,h2]
theorem zb5 (l:Bs):z0x (47::l)=z0x l:=by simp[z0x]
theorem zf4 (hm2:HostMarks H) (b:Adr) (c:Mc) (m:Bs) (q f:Option Bs) (hq:∀x,q=some x→∀b∈x,b≠35) (he:c.err=0) (hst:c.st=1) (hr:c.r=m++z0m q f) (hm:z30 m) (hw:c.u.way=⟨false,[],[]⟩) (hu:c.u.query=none) (hfr:c.u.frag=none) (hbw:b.way.opaq=false∧b.way.text=[]):z4w H (some b) c (match z0U H c.u.scheme (z02 c.u.scheme m) (q.map (esc (z0q c.u.scheme))) b with| .error e=>.error e| .ok (a,w,q2)=>.ok ⟨c.u.scheme,a,w,q2,f.map (esc 1)⟩):=by
 refine z2v H (some b) c _ (by rw[hst];decide) he ?_;have e:z0g H (some b) c=z3l b c:=by simp[z0g,hst]
 rw[e];unfold z3l z0U;rw[hr,z5q];have hfin:∀(a:Auth) (w:Way),fin {c.u with auth:=a,way:=w} q f=⟨c.u.scheme,a,w,q.map (esc (z0q c.u.scheme)),f.map (esc 1)⟩:=by intro a w;unfold fin;simp only[hu,hfr];cases q<;>cases f<;>rfl
 cases hh:z0o (z06 c.u.scheme) m with
 |false=>rw[if_neg (by simp)];rw[if_neg (show¬List.isPrefixOf [47,47] (z02 c.u.scheme m)=true from fun h=>by have:=((z6c _ _).1 h).1;rw[hh] at this;cases this),if_neg (show¬(z02 c.u.scheme m).head? =some 47 from fun h=>by have:=(z7y _ _).1 h;rw[hh] at this;cases this)];have:=zbU H (some b) b {c with u:={c.u with auth:=b.auth},r:=m++z0m q f} m q f hq he rfl hm hh hw hu hfr hbw;exact this
 |true=>
  rw[if_pos rfl];obtain⟨d,l,rfl⟩:∃d l,m=d::l:=by
   cases m with
   |nil=>cases hh
   |cons d l=>exact⟨d,l,rfl⟩
  have hml:z30 l:=fun x hx=>hm x (by simp[hx]);refine z2v H (some b) _ _ (by simp) he ?_;have e2:z0g H (some b) {c with r:=((d::l)++z0m q f).drop 1,st:=2}=z25 b {c with r:=l++z0m q f,st:=2}:=by simp[z0g]
  rw[e2];unfold z25;simp only[z5q];cases h2:z0o (z06 c.u.scheme) l with
  |true=>
   rw[if_pos rfl];rw[if_pos (show List.isPrefixOf [47,47] (z02 c.u.scheme (d::l))=true from(z6c _ _).2 ⟨hh,h2⟩)];obtain⟨x,y,rfl⟩:∃x y,l=x::y:=by
    cases l with
    |nil=>cases h2
    |cons x y=>exact⟨x,y,rfl⟩
   have ed:(z02 c.u.scheme (d::x::y)).drop 2=z02 c.u.scheme y:=(by rw[z3V,z3V];rfl);have ex:z06 c.u.scheme x=true:=h2;rw[ed];cases hsp:z0b c.u.scheme with
   |true=>
    rw[if_pos rfl];have:=zf3 H hm2 (some b) {c with r:=(x::y)++z0m q f,st:=3} (x::y) q f hq he rfl rfl hml hw;simp only[z4x c.u.scheme x ex,zb5] at this;simp only[if_true];cases hfa:z0Q H c.u.scheme (z0x (z02 c.u.scheme y)) with
    |error n=>rw[hfa] at this;exact this
    |ok p=>rw[hfa] at this;simp only[hfin] at this;exact this
   |false=>
    rw[if_neg (by simp)];have:=z9J H hm2 (some b) {c with r:=y++z0m q f,st:=4} y q f hq he rfl rfl (fun z hz=>hml z (by simp[hz])) hw;simp only[Bool.false_eq_true,if_false];cases hfa:z0Q H c.u.scheme (z02 c.u.scheme y) with
    |error n=>rw[hfa] at this;exact this
    |ok p=>rw[hfa] at this;simp only[hfin] at this;exact this
  |false=>
   rw[if_neg (by simp)];rw[if_neg (show¬List.isPrefixOf [47,47] (z02 c.u.scheme (d::l))=true from fun h=>by have:=((z6c _ _).1 h).2;simp only[List.drop_succ_cons,List.drop_zero] at this;rw[h2] at this;cases this),if_pos (show(z02 c.u.scheme (d::l)).head? =some 47 from(z7y _ _).2 hh)];have:=z6A H (some b) q f hq l.length {c with u:={c.u with auth:=b.auth},r:=l++z0m q f,st:=6} l (Nat.le_refl _) he rfl rfl hml;have e3:z0M c.u.scheme [] (z02 c.u.scheme (d::l))=⟨false,[],z0R c.u.scheme c.u.way.segs (z0a 47 (z02 c.u.scheme l))⟩:=by unfold z0M z0z;rw[if_neg (fun h=>z7b _ _ (by simp) h.1),z4q,if_pos hh,hw];rfl
   simp only;rw[e3,←hfin];exact this
end
section
variable (H : Bs → Bool → Option Bs)
theorem zaA (s l:Bs) (hs:z0b s=true) (q f:Option Bs) (hm:z30 l):z1T (l++z0m q f)=z0h (z0l (z02 s l)).1:=by
 rw[z5l];show z1T (l++z0m q f)=z0h (l.takeWhile fun c=>!z06 s c);have hsl:∀c:UInt8,z06 s c=(c==47||c==92):=fun c=>by simp[z06,hs]
 have hlet:∀c,z18 c=true→z06 s c=false:=fun c hc=>by
  have:=zbF c hc;rw[hsl];simp[this.2.1,this.2.2.1]
 have hcol:∀b:UInt8,(b==58||b==124)=true→z06 s b=false:=fun b hb=>by
  simp only[Bool.or_eq_true,beq_iff_eq] at hb;rw[hsl];rcases hb with rfl|rfl<;>decide
 have hno:∀x:Bs,z0h x=true→∃a b,x=[a,b]∧z18 a=true∧(b==58||b==124)=true:=by
  intro x hx;match x,hx with
  | [a,b],hx=>simp only[z0h,Bool.and_eq_true] at hx;exact⟨a,b,rfl,hx.1,hx.2⟩
 unfold z1T;match l,hm with
 | [],_=>
  show _=false;cases hd:z0h (List.take 2 ([]++z0m q f)) with
  |false=>rfl
  |true=>
   obtain⟨a,b,h1,h2,_⟩:=hno _ hd;cases ht:z0m q f with
   |nil=>rw[ht] at h1;cases h1
   |cons c r=>have hc:=z4o q f c r ht;rw[ht] at h1;simp only[List.nil_append,List.take_succ_cons,List.cons.injEq] at h1;rw[h1.1] at hc;simp only[z2d,Bool.or_eq_true,beq_iff_eq] at hc;rcases hc with rfl|rfl<;>exact absurd h2 (by decide)
 | [x],hm=>
  have h2:z0h ([x].takeWhile fun c=>!z06 s c)=false:=by cases hx:z06 s x<;>simp[hx,z0h]
  rw[h2];cases hd:z0h (List.take 2 ([x]++z0m q f)) with
  |false=>rfl
  |true=>
   obtain⟨a,b,h1,_,h3⟩:=hno _ hd;cases ht:z0m q f with
   |nil=>rw[ht] at h1;cases h1
   |cons c r=>have hc:=z4o q f c r ht;rw[ht] at h1;simp only[List.cons_append,List.nil_append,List.take_succ_cons,List.take_zero,List.cons.injEq] at h1;rw[h1.2.1] at hc;simp only[z2d,Bool.or_eq_true,beq_iff_eq] at hc;rcases hc with rfl|rfl<;>exact absurd h3 (by decide)
 |x::y::l,hm=>
  have e1:List.take 2 ((x::y::l)++z0m q f)=[x,y]:=rfl;have e2:List.drop 2 ((x::y::l)++z0m q f)=l++z0m q f:=rfl;rw[e1,e2];cases hd:z0h [x,y] with
  |false=>
   rw[Bool.false_and];cases hd2:z0h (List.takeWhile (fun c=>!z06 s c) (x::y::l)) with
   |false=>rfl
   |true=>
    obtain⟨a,b,h1,h2,h3⟩:=hno _ hd2;have hx:z06 s x=false:=by
     cases hx:z06 s x with
     |false=>rfl
     |true=>simp[hx] at h1
    have hy:z06 s y=false:=by
     cases hy:z06 s y with
     |false=>rfl
     |true=>simp[hx,hy] at h1
    simp only[List.takeWhile_cons,hx,hy,Bool.not_false,if_true,List.cons.injEq] at h1;rw[h1.1,h1.2.1] at hd;simp only[z0h,h2,h3,Bool.and_true] at hd;cases hd
  |true=>
   rw[Bool.true_and];obtain⟨a,b,h1,h2,h3⟩:=hno _ hd;simp only[List.cons.injEq,and_true] at h1;obtain⟨rfl,rfl⟩:=h1;have ex:List.takeWhile (fun c=>!z06 s c) (x::y::l)=x::y::l.takeWhile (fun c=>!z06 s c):=by simp[hlet x h2,hcol y h3]
   rw[ex];cases l with
   |nil=>
    show _=z0h [x,y];rw[hd];cases ht:z0m q f with
    |nil=>rfl
    |cons c r=>have hc:=z4o q f c r ht;simp only[z2d,Bool.or_eq_true,beq_iff_eq] at hc;rw[List.nil_append,List.all_eq_true];intro _ _;rcases hc with rfl|rfl<;>rfl
   |cons z l=>
    have hz:=hm z (by simp);cases hsz:z06 s z with
    |true=>
     have:List.takeWhile (fun c=>!z06 s c) (z::l)=[]:=by simp[hsz]
     rw[this,hd,List.all_eq_true];intro _ _;rw[hsl] at hsz;simp only[z0o,List.cons_append,hsz,Bool.true_or]
    |false=>
     have:List.takeWhile (fun c=>!z06 s c) (z::l)=z::l.takeWhile (fun c=>!z06 s c):=by simp[hsz]
     rw[this];show _=false;rw[hsl] at hsz;simp only[z0o,List.cons_append,List.all_cons,hsz,Bool.false_or];simp[hz.1,hz.2]
theorem zjD (m:Bs) (s:Bs) (h:z0h (z0l (z02 s m)).1=true):z0o (z06 s) m=false:=by
 rw[z5l] at h;cases m with
 |nil=>rfl
 |cons c m=>
  cases hc:z06 s c with
  |false=>exact hc
  |true=>simp[hc,z0h] at h
theorem zde (base:Option Adr) (hb:∀b,base=some b→Good H b) (c:Mc) (m:Bs) (q f:Option Bs) (hq:∀x,q=some x→∀b∈x,b≠35) (he:c.err=0) (hst:c.st=8) (hr:c.r=m++z0m q f) (hm:z30 m) (hu:c.u=⟨sFile,noAuth,⟨false,[],[]⟩,none,none⟩):z4w H base c (match z1Q H (z02 sFile m) (q.map (esc (z0q sFile))) (z1B base) with| .error e=>.error e| .ok (a,w,q2)=>.ok ⟨sFile,a,w,q2,f.map (esc 1)⟩):=by
 have hsp:z0b sFile=true:=by decide
 obtain⟨u,r,st,err⟩:=c;simp only at he hst hr hu;subst he;subst hst;subst hr;subst hu;have hfin:∀(a:Auth) (w:Way),fin ⟨sFile,a,w,none,none⟩ q f=⟨sFile,a,w,q.map (esc (z0q sFile)),f.map (esc 1)⟩:=by intro a w;unfold fin;cases q<;>cases f<;>rfl
 have hsegs:=fun(a:Auth) (segs:List Bs) (l:Bs) (hl:z30 l)=>z6A H base q f hq l.length ⟨⟨sFile,a,⟨false,[],segs⟩,none,none⟩,l++z0m q f,6,0⟩ l (Nat.le_refl _) rfl rfl rfl hl;refine z2v H base _ _ (by simp) rfl ?_;have e:z0g H base ⟨⟨sFile,noAuth,⟨false,[],[]⟩,none,none⟩,m++z0m q f,8,0⟩=z2b base ⟨⟨sFile,noAuth,⟨false,[],[]⟩,none,none⟩,m++z0m q f,8,0⟩:=by simp[z0g]
 rw[e];unfold z2b;simp only[z5q];cases hh:z0o (z06 sFile) m with
 |true=>
  rw[if_pos rfl];obtain⟨d,l,rfl⟩:∃d l,m=d::l:=by
   cases m with
   |nil=>cases hh
   |cons d l=>exact⟨d,l,rfl⟩
  have hml:z30 l:=fun x hx=>hm x (by simp[hx]);have htr:z0v (z02 sFile (d::l))=z02 sFile l:=by rw[z4q,if_pos hh];rfl
  have hway:∀segs,z0M sFile segs (z02 sFile (d::l))=⟨false,[],z0R sFile segs (z0a 47 (z02 sFile l))⟩:=by intro segs;unfold z0M z0z;rw[if_neg (fun h=>z7b _ _ (by simp) h.1),htr]
  refine z2v H base _ _ (by simp) rfl ?_;have e2:z0g H base ⟨⟨sFile,{noAuth with has:=true},⟨false,[],[]⟩,none,none⟩,List.drop 1 ((d::l)++z0m q f),9,0⟩=z0D base ⟨⟨sFile,{noAuth with has:=true},⟨false,[],[]⟩,none,none⟩,l++z0m q f,9,0⟩:=by simp[z0g]
  rw[e2];unfold z0D;simp only[z5q];cases h2:z0o (z06 sFile) l with
  |true=>
   rw[if_pos rfl];obtain⟨x,y,rfl⟩:∃x y,l=x::y:=by
    cases l with
    |nil=>cases h2
    |cons x y=>exact⟨x,y,rfl⟩
   have hmy:z30 y:=fun z hz=>hml z (by simp[hz]);have ed:(z02 sFile (d::x::y)).drop 2=z02 sFile y:=(by rw[z3V,z3V];rfl);unfold z1Q;rw[if_pos (show List.isPrefixOf [47,47] (z02 sFile (d::x::y))=true from(z6c _ _).2 ⟨hh,h2⟩)];simp only[ed,z5l];refine z2v H base _ _ (by simp) rfl ?_;have e3:z0g H base ⟨⟨sFile,{noAuth with has:=true},⟨false,[],[]⟩,none,none⟩,List.drop 1 ((x::y)++z0m q f),10,0⟩=z1U H ⟨⟨sFile,{noAuth with has:=true},⟨false,[],[]⟩,none,none⟩,y++z0m q f,10,0⟩:=(by simp[z0g]);rw[e3];unfold z1U;have hut:=z8E sFile y q f hmy;simp only[hut.1,hut.2];have hts:=z6K sFile y;cases hd:z0h (y.takeWhile fun c=>!z06 sFile c) with
   |true=>
    simp only[if_true];have hdr:z0h (z0l (z02 sFile y)).1=true:=(by rw[z5l];exact hd);have hhd:=zjD y sFile hdr;have e4:z0M sFile [] (z02 sFile y)=⟨false,[],z0R sFile [] (z0a 47 (z02 sFile y))⟩:=by unfold z0M z0z;rw[if_neg (fun h=>by rw[hsp] at h;cases h.2),z4q,if_neg (by simp[hhd])]
    have:=hsegs (z1P []) [] y hmy;rw[e4,←hfin];exact this
   |false=>
    simp only[Bool.false_eq_true,if_false];cases hfh:z1v H (y.takeWhile fun c=>!z06 sFile c) with
    |none=>exact z8D H base _ 4 rfl (by decide)
    |some h=>have:=z7z H base ⟨⟨sFile,z1P h,⟨false,[],[]⟩,none,none⟩,y.dropWhile (fun c=>!z06 sFile c)++z0m q f,5,0⟩ _ q f hq rfl rfl rfl (fun x hx=>hmy x (by rw[hts.2];exact List.mem_append_right _ hx)) rfl;simp only;rw[←hfin];exact this
  |false=>
   rw[if_neg (by simp)];unfold z1Q;rw[if_neg (show¬List.isPrefixOf [47,47] (z02 sFile (d::l))=true from fun h=>by have:=((z6c _ _).1 h).2;simp only[List.drop_succ_cons,List.drop_zero] at this;rw[h2] at this;cases this)];cases hfb:z1B base with
   |none=>simp only;have:=hsegs (z1P []) [] l hml;rw[hway,←hfin];exact this
   |some b=>
    simp only;rw[htr,zaA sFile l hsp q f hml];cases hd:z0h (z0l (z02 sFile l)).1 with
    |true=>simp only[if_true,List.append_nil];have:=hsegs (z1P b.auth.host) [] l hml;rw[hway,←hfin];exact this
    |false=>simp only[Bool.false_eq_true,if_false,List.nil_append];rw[if_pos (show(z02 sFile (d::l)).head? =some 47 from(z7y _ _).2 hh)];have:=hsegs (z1P b.auth.host) (z13 b.way.segs) l hml;simp only;rw[hway,←hfin];exact this
 |false=>
  rw[if_neg (by simp)];unfold z1Q;rw[if_neg (show¬List.isPrefixOf [47,47] (z02 sFile m)=true from fun h=>by have:=((z6c _ _).1 h).1;rw[hh] at this;cases this)];have hway:∀segs,z0M sFile segs (z02 sFile m)=⟨false,[],z0R sFile segs (z0a 47 (z02 sFile m))⟩:=by intro segs;unfold z0M z0z;rw[if_neg (fun h=>by rw[hsp] at h;cases h.2),z4q,if_neg (by simp[hh])]
  have htr:z0v (z02 sFile m)=z02 sFile m:=by rw[z4q,if_neg (by simp[hh])]
  cases hfb:z1B base with
  |none=>simp only;have:=hsegs (z1P []) [] m hm;rw[hway,←hfin];exact this
  |some b=>
   have hgb:Good H b∧b.scheme=sFile:=by
    cases base with
    |none=>cases hfb
    |some d=>
     have hfb:(if d.scheme=sFile then some d else none)=some b:=hfb;split at hfb
     ·rename_i hds
      simp only[Option.some.injEq] at hfb;subst hfb;exact⟨hb d rfl,hds⟩
     ·cases hfb
   have hbo:=(hgb.1.spec (by rw[hgb.2];exact hsp)).2.1;have hbt:=(hgb.1.text hbo).1;simp only;rw[htr,zaA sFile m hsp q f hm];cases hd:z0h (z0l (z02 sFile m)).1 with
   |true=>
    have hne:¬(m++z0m q f=[]∨z0o z2d (m++z0m q f)=true):=by
     cases m with
     |nil=>rw[(z3z sFile []).2 rfl] at hd;cases hd
     |cons x y=>have hx:=hm x (by simp);simp[z0o,z2d,hx.1,hx.2]
    rw[if_pos ⟨hne,rfl⟩,if_pos rfl];have:=hsegs (z1P b.auth.host) [] m hm;simp only;rw[hway,←hfin];exact this
   |false=>rw[if_neg (fun h=>by cases h.2),if_neg (by simp),if_neg (show¬(z02 sFile m).head? =some 47 from fun h=>by have:=(z7y _ _).1 h;rw[hh] at this;cases this)];have:=zbU H base b ⟨⟨sFile,z1P b.auth.host,⟨false,[],[]⟩,none,none⟩,m++z0m q f,8,0⟩ m q f hq rfl rfl hm hh rfl rfl rfl ⟨hbo,hbt⟩;exact this
def z2u (base:Option Adr) (s:Bs):Nat:=
 if s=sFile then 8 else if z0b s=true then(if base.any (fun b=>decide (b.scheme=s))=true then 1 else 3) else 15
def z20 (s:Bs):Adr:=⟨s,noAuth,⟨false,[],[]⟩,none,none⟩
def z4G (base:Option Adr) (s rest:Bs):Mc:=⟨z20 s,rest,(if s=[] then 14 else z2u base s),0⟩
theorem zaB (c:UInt8) (t:Bs):t=(z0i c t).1++z1b c (z0i c t).2:=by
 have h:=z5j c t;unfold z0i;cases hc:z1a c t with
 |none=>show t=t++ [];simp
 |some p=>rw[hc] at h;exact h.1
theorem ze0 (t:Bs):(z0k t).2=(z1K t).middle++z0m (z1K t).query (z1K t).frag:=by have h1:=zaB 35 (z0k t).2;have h2:=zaB 63 (z0i 35 (z0k t).2).1;show _=(z0i 63 (z0i 35 (z0k t).2).1).1++(z1b 63 (z0i 63 (z0i 35 (z0k t).2).1).2++z1b 35 (z0i 35 (z0k t).2).2);rw[←List.append_assoc,←h2,←h1]
theorem zcH (t:Bs):∀x,(z1K t).query=some x→∀b∈x,b≠35:=by intro x hx b hb;have h1:=(z5L 63 (z0i 35 (z0k t).2).1).2 x hx b hb;exact((z5L 35 (z0k t).2).1 b h1).2
theorem zjE (hm2:HostMarks H) (t:Bs) (base:Option Adr) (hb:∀b,base=some b→Good H b):z4w H base (z4G base (z0k (z24 t)).1 (z0k (z24 t)).2) (z0C H t base):=by
 rw[ze0];have hcs:(z0k (z24 t)).1=(z1K (z24 t)).scheme:=rfl;have hq:=zcH (z24 t);have hm:=(z8N (z24 t)).2;rw[hcs];unfold z0C;generalize z1K (z24 t)=k at*;obtain⟨s,m,q,f⟩:=k;simp only at hq hm⊢;have hm:z30 m:=hm;have hfin:∀(s:Bs) (a:Auth) (w:Way),fin ⟨s,a,w,none,none⟩ q f=⟨s,a,w,q.map (esc (z0q s)),f.map (esc 1)⟩:=by intro s a w;unfold fin;cases q<;>cases f<;>rfl
 unfold z4G z3o;simp only;by_cases hs:s=[]
 ·subst hs
  rw[if_pos rfl,if_neg (by simp)];refine z2v H base _ _ (by simp) rfl ?_;have e:z0g H base ⟨z20 [],m++z0m q f,14,0⟩=z3v base ⟨z20 [],m++z0m q f,14,0⟩:=by simp[z0g]
  rw[e];unfold z3v;cases base with
  |none=>exact z8D H none _ 3 rfl (by decide)
  |some b=>
   have hg:=hb b rfl;simp only;cases ho:b.way.opaq with
   |true=>
    simp only[true_and,if_true];by_cases hx:m=[]∧q=none∧f.isSome=true
    ·obtain⟨rfl,rfl,hfs⟩:=hx
     obtain⟨y,rfl⟩:∃y,f=some y:=by cases f with|none=>cases hfs|some y=>exact⟨y,rfl⟩
     rw[if_neg (by simp[z0m,z1b]),if_pos ⟨rfl,rfl,rfl⟩];have:=z4p H (some b) ⟨{z20 [] with scheme:=b.scheme,way:=b.way,query:=b.query},z0m none (some y),14,0⟩ none (some y) rfl rfl (fun x hx=>by cases hx);have hnb:=hg.bare (hg.opaq ho).1;have e2:({b with frag:=Option.map (esc 1) (some y)}:Adr)=fin {z20 [] with scheme:=b.scheme,way:=b.way,query:=b.query} none (some y):=by unfold fin z20;simp only[Option.map_some,hnb]
     rw[e2];exact this
    ·rw[if_neg (show¬(m=[]∧q=none∧f.isSome=true) from hx)]
     rw[if_pos]
     ·exact z8D H (some b) _ 3 rfl (by decide)
     ·intro h
      apply hx;cases m with
      |cons x y=>simp at h;exact absurd h (hm x (by simp)).1
      |nil=>
       rcases zb7 q f with ht|⟨l,ht,_⟩|⟨l,ht,hqn⟩
       ·rw[ht] at h;cases h
       ·rw[ht] at h;simp at h
       ·subst hqn
        refine⟨rfl,rfl,?_⟩;cases f with
        |none=>cases ht
        |some y=>rfl
   |false=>
    simp only[Bool.false_eq_true,false_and,if_false];unfold z1p z17;by_cases hsf:b.scheme=sFile
    ·rw[if_pos hsf,if_pos hsf]
     have hfb:z1B (some b)=some b:=(by unfold z1B;simp[hsf]);have:=zde H (some b) hb ⟨z20 sFile,m++z0m q f,8,0⟩ m q f hq rfl rfl rfl hm rfl;rw[hfb] at this;rw[hsf];cases hx:z1Q H (z02 sFile m) (q.map (esc (z0q sFile))) (some b) with
     |error n=>rw[hx] at this;exact this
     |ok p=>rw[hx] at this;exact this
    ·rw[if_neg hsf,if_neg hsf]
     have:=zf4 H hm2 b ⟨z20 b.scheme,m++z0m q f,1,0⟩ m q f hq rfl rfl rfl hm rfl rfl rfl ⟨ho,(hg.text ho).1⟩;simp only;have this:z4w H (some b) ⟨z20 b.scheme,m++z0m q f,1,0⟩ (match z0U H b.scheme (z02 b.scheme m) (q.map (esc (z0q b.scheme))) b with| .error e=>.error e| .ok (a,w,q2)=>.ok ⟨b.scheme,a,w,q2,f.map (esc 1)⟩):=this;cases hx:z0U H b.scheme (z02 b.scheme m) (q.map (esc (z0q b.scheme))) b with
     |error n=>rw[hx] at this;exact this
     |ok p=>rw[hx] at this;exact this
 ·rw[if_neg hs,if_pos hs]
  unfold z1p z17;by_cases hsf:s=sFile
  ·subst hsf
   have hk:z2u base sFile=8:=(by unfold z2u;rw[if_pos rfl]);rw[hk,if_pos rfl];have hfb:(base.bind fun b=>if b.scheme=sFile∧z0b sFile=true then some b else none)=z1B base:=by
    unfold z1B;cases base with
    |none=>rfl
    |some b=>simp[zeG]
   rw[hfb];have:=zde H base hb ⟨z20 sFile,m++z0m q f,8,0⟩ m q f hq rfl rfl rfl hm rfl;cases hx:z1Q H (z02 sFile m) (q.map (esc (z0q sFile))) (z1B base) with
   |error n=>rw[hx] at this;exact this
   |ok p=>rw[hx] at this;exact this
  ·rw[if_neg hsf]
   cases hsp:z0b s with
   |true=>
    cases hbs:base.any (fun b=>decide (b.scheme=s)) with
    |true=>
     obtain⟨b,rfl,hsame⟩:∃b,base=some b∧b.scheme=s:=by
      cases base with
      |none=>cases hbs
      |some b=>exact⟨b,rfl,by simpa using hbs⟩
     have hk:z2u (some b) s=1:=(by unfold z2u;rw[if_neg hsf,if_pos hsp,if_pos hbs]);have hg:=hb b rfl;have ho:=(hg.spec (by rw[hsame];exact hsp)).2.1;rw[hk];have hbn:(Option.bind (some b) fun b=>if b.scheme=s∧true=true then some b else none)=some b:=(by simp[hsame]);rw[hbn];simp only;have this:=zf4 H hm2 b ⟨z20 s,m++z0m q f,1,0⟩ m q f hq rfl rfl rfl hm rfl rfl rfl ⟨ho,(hg.text ho).1⟩;have this:z4w H (some b) ⟨z20 s,m++z0m q f,1,0⟩ (match z0U H s (z02 s m) (q.map (esc (z0q s))) b with| .error e=>.error e| .ok (a,w,q2)=>.ok ⟨s,a,w,q2,f.map (esc 1)⟩):=this;cases hx:z0U H s (z02 s m) (q.map (esc (z0q s))) b with
     |error n=>rw[hx] at this;exact this
     |ok p=>rw[hx] at this;exact this
    |false=>
     have hk:z2u base s=3:=(by unfold z2u;rw[if_neg hsf,if_pos hsp,if_neg (by simp[hbs])]);have hbn:(base.bind fun b=>if b.scheme=s∧true=true then some b else none)=none:=by
      cases base with
      |none=>rfl
      |some b=>simp at hbs;simp[hbs]
     rw[hk,hbn];simp only[if_true];have this:=zf3 H hm2 base ⟨z20 s,m++z0m q f,3,0⟩ m q f hq rfl rfl rfl hm rfl;have this:z4w H base ⟨z20 s,m++z0m q f,3,0⟩ (match z0Q H s (z0x (z02 s m)) with| .error e=>.error e| .ok (a,w)=>.ok (fin ⟨s,a,w,none,none⟩ q f)):=this;cases hx:z0Q H s (z0x (z02 s m)) with
     |error n=>rw[hx] at this;exact this
     |ok p=>rw[hx] at this;simp only[hfin] at this;exact this
   |false=>
    have hk:z2u base s=15:=(by unfold z2u;rw[if_neg hsf,if_neg (by simp[hsp])]);have hbn:(base.bind fun b=>if b.scheme=s∧false=true then some b else none)=none:=by
     cases base with
     |none=>rfl
     |some b=>simp
    rw[hk,hbn,zdg s m hsp];simp only[Bool.false_eq_true,if_false];have this:=zjG H hm2 base ⟨z20 s,m++z0m q f,15,0⟩ m q f hq rfl rfl rfl hm rfl rfl hsp;have this:z4w H base ⟨z20 s,m++z0m q f,15,0⟩ (match z1l H s m with| .error e=>.error e| .ok (a,w)=>.ok (fin ⟨s,a,w,none,none⟩ q f)):=this;cases hx:z1l H s m with
    |error n=>rw[hx] at this;exact this
    |ok p=>rw[hx] at this;simp only[hfin] at this;exact this
end
end Go.Moor
