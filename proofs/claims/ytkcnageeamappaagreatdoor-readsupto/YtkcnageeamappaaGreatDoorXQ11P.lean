import Derived.Test.YtkcnageeamappaaGreatDoorXRFile
set_option maxHeartbeats 32000000
set_option maxRecDepth 8000
namespace Go.Moor
open Go
def z0P (t:Bs):Nat:=match z1a 58 t with|some (n,_)=>if z0W n=true then n.length+1 else 0|none=>0
theorem z6d (t:Bs):z0k t=if z0P t=0 then([],t) else(Lib.toLowerA (t.take (z0P t- 1)),t.drop (z0P t)):=by
 have hi:=z5j 58 t;unfold z0k z0P;cases hc:z1a 58 t with
 |none=>rfl
 |some p=>
  obtain⟨n,r⟩:=p;rw[hc] at hi;simp only at hi⊢;cases hs:z0W n with
  |false=>rfl
  |true=>simp only[if_true];rw[if_neg (by omega),hi.1];simp only[Nat.add_sub_cancel,List.take_left];congr 1;rw[show(n++58::r:Bs)=(n++ [58])++r from by simp,show n.length+1=(n++ [58]).length from by simp,List.drop_left]
theorem zc0 (c d:UInt8) (l:Bs) (h:d≠c):∃x xs,z0a c l=x::xs∧z0a c (d::l)=(d::x)::xs:=by
 cases hx:z0a c l with
 |nil=>exact absurd hx (z26 c l)
 |cons x xs=>exact⟨x,xs,rfl,by rw[z0a,if_neg h,hx]⟩
theorem z6p (c:UInt8) (h16:¬z0c c.toNat<16) (h37:c≠37):∀(n:Nat) (l:Bs),l.length≤n→c∈l→c∈z0t l
 |_,[],_,h=>by cases h
 |0,d::l,hn,_=>by simp at hn
 |n+1,d::l,hn,h=>by
  have hl:l.length≤n:=by simpa using hn
  by_cases hd:d=37
  ·subst hd
   have h:c∈l:=by
    rcases List.mem_cons.1 h with h|h
    ·exact absurd h h37
    ·exact h
   cases ht:z1u l with
   |false=>rw[z3S _ ht];exact List.mem_cons_of_mem _ (z6p c h16 h37 n l hl h)
   |true=>
    match l,ht,hl,h with
    |a::b::r,ht,hl,h=>
     rw[z37 a b r ht];simp only[z1u,Bool.and_eq_true,decide_eq_true_eq] at ht;rcases List.mem_cons.1 h with rfl|h
     ·exact absurd ht.1 h16
     ·rcases List.mem_cons.1 h with rfl|h
      ·exact absurd ht.2 h16
      ·exact List.mem_cons_of_mem _ (z6p c h16 h37 n r (by simp at hl;omega) h)
  ·rw[z3M d l hd]
   rcases List.mem_cons.1 h with rfl|h
   ·simp
   ·exact List.mem_cons_of_mem _ (z6p c h16 h37 n l hl h)
theorem z5N (c:UInt8):∀(l:Bs) (b:UInt8),b∈l→b=c∨∃x∈z0a c l,b∈x
 | [],b,h=>by cases h
 |d::l,b,h=>by
  by_cases hd:d=c
  ·rw[z0a,if_pos hd]
   rcases List.mem_cons.1 h with rfl|h
   ·exact Or.inl hd
   ·rcases z5N c l b h with h|⟨x,hx,hb⟩
    ·exact Or.inl h
    ·exact Or.inr ⟨x,by simp[hx],hb⟩
  ·obtain⟨x,xs,h1,h2⟩:=zc0 c d l hd
   rw[h2];rcases List.mem_cons.1 h with rfl|h
   ·exact Or.inr ⟨b::x,by simp,by simp⟩
   ·rcases z5N c l b h with h|⟨y,hy,hb⟩
    ·exact Or.inl h
    ·rw[h1] at hy
     rcases List.mem_cons.1 hy with rfl|hy
     ·exact Or.inr ⟨d::y,by simp,by simp[hb]⟩
     ·exact Or.inr ⟨y,by simp[hy],hb⟩
theorem z5O (base most:Int):∀(l:Bs) (n m:Int),z0H base most n l=some m→∀c∈l,z0c c.toNat<base
 | [],n,m,_,c,hc=>by cases hc
 |d::l,n,m,h,c,hc=>by
  rw[z0H] at h;split at h
  ·rename_i h1
   split at h
   ·rcases List.mem_cons.1 hc with rfl|hc
    ·exact h1
    ·exact z5O base most l _ m h c hc
   ·cases h
  ·cases h
def zeP (c:UInt8):Prop:=z0c c.toNat<16∨c=58∨c=46
theorem z5P:∀(l:List Bs) (ps qs:List Int),z29 ps l=some qs→∀x∈l,∀c∈x,z0c c.toNat<16
 | [],ps,qs,_,x,hx=>by cases hx
 |y::l,ps,qs,h,x,hx=>by
  rw[z29] at h;cases hp:z0N y with
  |none=>rw[hp] at h;cases h
  |some n=>
   rw[hp] at h;rcases List.mem_cons.1 hx with rfl|hx
   ·unfold z0N at hp
    split at hp
    ·cases hp
    ·exact z5O 16 65535 x 0 n hp
   ·exact z5P l _ qs h x hx
theorem z7c:∀(l:List Bs) (a m:Int),z2w a l=some m→∀x∈l,∀c∈x,z0c c.toNat<16
 | [],a,m,_,x,hx=>by cases hx
 |y::l,a,m,h,x,hx=>by
  rw[z2w] at h;cases hp:z1M y with
  |none=>rw[hp] at h;cases h
  |some n=>
   rw[hp] at h;rcases List.mem_cons.1 hx with rfl|hx
   ·unfold z1M at hp
    split at hp
    ·cases hp
    ·split at hp
     ·cases hp
     ·intro c hc
      have:=z5O 10 255 x 0 n hp c hc;omega
   ·exact z7c l _ m h x hx
theorem z8R (l:List Bs) (qs:List Int) (h:z1s l=some qs):∀x∈l,∀c∈x,zeP c:=by
 unfold z1s at h;cases hg:l.getLast? with
 |none=>
  rw[List.getLast?_eq_none_iff] at hg;subst hg;exact fun x hx=>by cases hx
 |some y=>
  rw[hg] at h;simp only at h;obtain⟨ys,hl⟩:=List.getLast?_eq_some_iff.1 hg;split at h
  ·cases hp:z0E l.dropLast with
   |none=>rw[hp] at h;simp[z3m] at h
   |some ps=>
    cases hd:z0J y with
    |none=>rw[hp,hd] at h;simp[z3m] at h
    |some n=>
     have h1:=z5P _ _ _ hp;have h2:∀c∈y,zeP c:=by
      unfold z0J at hd;split at hd
      ·intro c hc
       rcases z5N 46 y c hc with h|⟨x,hx,hcx⟩
       ·exact Or.inr (Or.inr h)
       ·exact Or.inl (z7c _ _ _ hd x hx c hcx)
      ·cases hd
     intro x hx c hc;rw[hl] at hx;rcases List.mem_append.1 hx with hx|hx
     ·exact Or.inl (h1 x (by rw[hl];simpa using hx) c hc)
     ·rw[List.mem_singleton] at hx;subst hx;exact h2 c hc
  ·exact fun x hx c hc=>Or.inl (z5P _ _ _ h x hx c hc)
theorem z7L (l:Bs) (b:UInt8) (h:b∈l):b=58∨∃x∈z0Z l,b∈x:=by unfold z0Z;rw[if_neg (fun e=>by rw[e] at h;cases h)];exact z5N 58 l b h
theorem zaX:∀l:Bs,z28 l=true→∃p r,l=p++58::58::r∧z28 (p++ [58])=false:=by
 intro l;induction l with
 |nil=>intro h;cases h
 |cons c l ih=>
  intro h;by_cases hh:(c==58&&l.head? ==some 58)=true
  ·simp only[Bool.and_eq_true,beq_iff_eq] at hh
   cases l with
   |nil=>cases hh.2
   |cons d l=>simp at hh;refine⟨[],l,by rw[hh.1,hh.2];rfl,by decide⟩
  ·have hl:z28 l=true:=by
    cases l with
    |nil=>simp[z28] at h
    |cons d l=>have h:((c==58&&(d::l).head? ==some 58)||z28 (d::l))=true:=h;have hh2:(c==58&&(d::l).head? ==some 58)=false:=(by simpa using hh);rw[hh2,Bool.false_or] at h;exact h
   obtain⟨p,r,hp,hcc⟩:=ih hl;refine⟨c::p,r,by rw[hp];rfl,?_⟩;cases p with
   |nil=>simp[hp] at hh;simp[z28];exact hh
   |cons d p=>show((c==58&&(d::(p++ [58])).head? ==some 58)||z28 (d::(p++ [58])))=false;have h3:z28 (d::(p++ [58]))=false:=hcc;rw[h3,Bool.or_false];rw[hp] at hh;simpa using hh
theorem zja (l a b:Bs) (h:Lib.cut l [58,58]=(a,b,true)):l=a++58::58::b:=by
 by_cases hc:z28 l=false
 ·rw[z8I l hc] at h;cases h
 ·obtain⟨p,r,rfl,hcc⟩:=zaX l (by simpa using hc)
  rw[cut_hit p r hcc] at h;simp only[Prod.mk.injEq,and_true] at h;rw[h.1,h.2]
theorem z9x (s:Bool) (f g:Option (List Int)) (qs:List Int) (h:z2S s f g=some qs):f.isSome=true∧g.isSome=true:=by
 cases f with
 |none=>cases h
 |some x=>
  cases g with
  |none=>cases h
  |some y=>exact⟨rfl,rfl⟩
theorem zg4 (l:Bs) (qs:List Int) (h:z2s l=some qs):∀c∈l,zeP c:=by
 unfold z2s at h;split at h
 ·rename_i a b hc
  have hs:=z9x _ _ _ _ h;have hl:=zja l a b hc;intro c hcm;rw[hl] at hcm;rcases List.mem_append.1 hcm with hcm|hcm
  ·rcases z7L a c hcm with h1|⟨x,hx,hcx⟩
   ·exact Or.inr (Or.inl h1)
   ·cases hp:z0E (z0Z a) with
    |none=>rw[hp] at hs;cases hs.1
    |some ps=>exact Or.inl (z5P _ _ _ hp x hx c hcx)
  ·rcases List.mem_cons.1 hcm with rfl|hcm
   ·exact Or.inr (Or.inl rfl)
   ·rcases List.mem_cons.1 hcm with rfl|hcm
    ·exact Or.inr (Or.inl rfl)
    ·rcases z7L b c hcm with h1|⟨x,hx,hcx⟩
     ·exact Or.inr (Or.inl h1)
     ·cases hp:z1s (z0Z b) with
      |none=>rw[hp] at hs;cases hs.2
      |some ps=>exact z8R _ _ hp x hx c hcx
 ·have hs:=z9x _ _ _ _ h
  intro c hcm;rcases z7L l c hcm with h1|⟨x,hx,hcx⟩
  ·exact Or.inr (Or.inl h1)
  ·cases hp:z1s (z0Z l) with
   |none=>rw[hp] at hs;cases hs.2
   |some ps=>exact z8R _ _ hp x hx c hcx
theorem zeQ (l:Bs) (h:91∈l):z1N l=none:=by
 unfold z1N;split
 ·rename_i hs
  cases hx:z2s (Lib.trimSuffix l [93]) with
  |none=>rfl
  |some ps=>
   have hsuf:∃p,l=p++ [93]:=(by obtain⟨t,ht⟩:=List.isSuffixOf_iff_suffix.1 hs;exact⟨t,ht.symm⟩);obtain⟨p,rfl⟩:=hsuf;have ht:Lib.trimSuffix (p++ [93]) [93]=p:=(by unfold Lib.trimSuffix;rw[if_pos hs];simp);rw[ht] at hx;have h91:(91:UInt8)∈p:=by
    rcases List.mem_append.1 h with h|h
    ·exact h
    ·rw[List.mem_singleton] at h;exact absurd h (by decide)
   have h9:=zg4 p ps hx 91 h91;have hno:¬zeP 91:=(by unfold zeP;decide);exact absurd h9 hno
 ·rfl
theorem zjb:HostMarks hostTell:=by
 refine⟨?_,?_,by decide+kernel⟩
 ·intro a b sp ha
  obtain⟨c,a,rfl⟩:∃c r,a=c::r:=by
   cases a with
   |nil=>exact absurd rfl ha
   |cons c r=>exact⟨c,r,rfl⟩
  unfold hostTell;split
  ·exact zeQ _ (by simp)
  ·have hmem:(91:UInt8)∈c::a++91::b:=by simp
   cases sp with
   |true=>
    simp only[if_true];have h2:=z6p 91 (by decide) (by decide) _ _ (Nat.le_refl _) hmem;unfold z14;split
    ·rfl
    ·rw[if_pos]
     rw[List.any_eq_true];exact⟨91,h2,by decide+kernel⟩
   |false=>simp only[Bool.false_eq_true,if_false];unfold z2x;rw[if_pos];rw[List.any_eq_true];exact⟨91,hmem,by decide+kernel⟩
 ·intro x sp hx hn
  unfold hostTell;rw[if_pos ((zm5 x).2 hx)];unfold z1N;rw[if_neg];intro hs;obtain⟨t,ht⟩:=List.isSuffixOf_iff_suffix.1 hs;have:(93:UInt8)∈x:=List.mem_of_mem_drop (i:=1) (by rw[←ht];simp);exact hn 93 this rfl
def z0y:Nat→Bs→Bs
 |0,_=>[]
 |_,[]=>[]
 |k+1,c::l=>if z0c c.toNat<16 then c::z0y k l else []
theorem z4d:∀(k:Nat) (l:Bs),∃r,l=z0y k l++r∧(∀c∈z0y k l,z0c c.toNat<16)∧(z0y k l).length≤k∧((z0y k l).length<k→∀c y,r=c::y→¬z0c c.toNat<16)
 |0,l=>⟨l,rfl,fun c hc=>(by cases hc),Nat.le_refl _,fun h=>(by simp[z0y] at h)⟩
 |k+1,[]=>⟨[],rfl,fun c hc=>(by cases hc),Nat.zero_le _,fun _ c y h=>(by cases h)⟩
 |k+1,c::l=>by
  by_cases hc:z0c c.toNat<16
  ·obtain⟨r,h1,h2,h3,h4⟩:=z4d k l
   refine⟨r,?_,?_,?_,?_⟩
   ·rw[z0y,if_pos hc,List.cons_append,←h1]
   ·rw[z0y,if_pos hc]
    intro x hx;rcases List.mem_cons.1 hx with rfl|hx
    ·exact hc
    ·exact h2 x hx
   ·rw[z0y,if_pos hc];simp;omega
   ·rw[z0y,if_pos hc]
    intro h;exact h4 (by simp at h;omega)
  ·refine⟨c::l,?_,?_,?_,?_⟩
   ·rw[z0y,if_neg hc];rfl
   ·rw[z0y,if_neg hc];exact fun x hx=>by cases hx
   ·rw[z0y,if_neg hc];simp
   ·intro _ x y h
    injection h with h _;subst h;exact hc
def z2z:Int→Bs→Int
 |v,[]=>v
 |v,c::l=>z2z (16*v+z0c c.toNat) l
def z0S:Nat→Bs→List Int→Option Nat→Option (List Int×Option Nat)
 |0,_,_,_=>none
 |_+1,[],ps,short=>some (ps,short)
 |n+1,c::r,ps,short=>if ps.length=8 then none
  else if c=58 then(if short.isSome then none else z0S n r (ps++ [0]) (some (ps.length+1)))
  else if((c::r).drop (z0y 4 (c::r)).length).head? =some 46 then(match z0J (c::r) with|some a=>if ps.length≤6 then some (ps++ [a/65536,a%65536],short) else none|none=>none)
  else if z0y 4 (c::r)=[] then none
  else match(c::r).drop (z0y 4 (c::r)).length with
   | []=>some (ps++ [z2z 0 (z0y 4 (c::r))],short)
   |d::y=>if d≠58∨y=[] then none else z0S n y (ps++ [z2z 0 (z0y 4 (c::r))]) short
def z3w:Option (List Int×Option Nat)→Option (List Int)
 |none=>none
 |some (ps,none)=>if ps.length=8 then some ps else none
 |some (ps,some k)=>some (ps.take k++(List.replicate (8- ps.length) 0++ps.drop k))
def z6S (l:Bs):Option (List Int):=
 match l with
 |58::58::r=>z3w (z0S (l.length+1) r [0] (some 1))
 |58::_=>none
 |_=>z3w (z0S (l.length+1) l [] none)
theorem zbX:∀(l:Bs) (v:Int),(∀c∈l,z0c c.toNat<16)→0≤v→v<65536/16^l.length→l.length≤4→z0H 16 65535 v l=some (z2z v l)
 | [],v,_,_,_,_=>rfl
 |c::l,v,h,h0,h1,h4=>by
  have hc:=h c (by simp);have hr:=z1q (c.toNat:Int);have hlen:l.length≤3:=by simpa using h4
  rw[z0H,if_pos hc,z2z,Int.mul_comm 16 v];have hb:v*16+z0c c.toNat<65536/16^l.length:=by have hl:l.length=0∨l.length=1∨l.length=2∨l.length=3:=(by omega);simp only[List.length_cons] at h1;rcases hl with hl|hl|hl|hl<;>rw[hl] at h1⊢<;>simp at h1⊢<;>omega
  have hb2:v*16+z0c c.toNat≤65535:=by have hl:l.length=0∨l.length=1∨l.length=2∨l.length=3:=(by omega);rcases hl with hl|hl|hl|hl<;>rw[hl] at hb<;>simp at hb<;>omega
  rw[if_pos hb2];exact zbX l _ (fun x hx=>h x (by simp[hx])) (by omega) hb (by omega)
theorem zdj (x:Bs) (h:∀c∈x,z0c c.toNat<16) (h4:x.length≤4) (h0:x≠[]):z0N x=some (z2z 0 x):=by
 unfold z0N;have:=List.length_pos_iff.2 h0;rw[if_neg (by omega)];refine zbX x 0 h (by omega) ?_ h4;have hl:x.length=1∨x.length=2∨x.length=3∨x.length=4:=by omega
 rcases hl with hl|hl|hl|hl<;>rw[hl]<;>decide
theorem zi2 (b:UInt8) (l:Bs) (v:Int) (h:26≤v):z0H 10 255 v (b::l)=none:=by
 have:=z1q (b.toNat:Int);rw[z0H];split
 ·rw[if_neg (by omega)]
 ·rfl
theorem zaC (b:UInt8) (l:Bs) (v k:Int) (hk:k≤v) (h:∀u,10*k≤u→z0H 10 255 u l=none):z0H 10 255 v (b::l)=none:=by
 have:=z1q (b.toNat:Int);rw[z0H];split
 ·split
  ·exact h _ (by omega)
  ·rfl
 ·rfl
theorem zi3:∀k:Fin 256,z0c k.val=0→k.val=48:=by decide+kernel
theorem zlj (a b c d:UInt8) (p:Bs):z1M (a::b::c::d::p)=none:=by
 unfold z1M;rw[if_neg (by simp)];split
 ·rfl
 ·rename_i hnz
  have ra:=z1q (a.toNat:Int);have ha0:z0c a.toNat≠0:=by intro h0;refine hnz ⟨?_,by simp⟩;rw[z79 a 48 (zi3 ⟨a.toNat,a.toNat_lt⟩ h0)];rfl
  rw[z0H];split
  ·split
   ·refine zaC b _ _ 1 (by omega) fun u hu=>zaC c _ u 10 hu fun v hv=>zi2 d _ v (by omega)
   ·rfl
  ·rfl
theorem z5a (c:UInt8) (l x:Bs) (xs:List Bs) (h:z0a c l=x::xs):(xs=[]∧l=x∧∀b∈x,b≠c)∨∃r,l=x++c::r∧z0a c r=xs∧∀b∈x,b≠c:=by
 rcases z4Y c l with hn|⟨a,b,rfl,ha⟩
 ·rw[z3L c l hn] at h
  injection h with h1 h2;subst h1;subst h2;exact Or.inl ⟨rfl,rfl,hn⟩
 ·rw[z2W c b a ha] at h
  injection h with h1 h2;subst h1;exact Or.inr ⟨b,rfl,h2,ha⟩
theorem zb8 (c:UInt8) (h:z0c c.toNat<16):c≠58∧c≠46:=by refine⟨?_,?_⟩<;>rintro rfl<;>exact absurd h (by decide)
theorem ze1 (l:Bs) (c:UInt8):0≤Lib.indexByte l c↔c∈l:=by
 rcases z2D c l with⟨h1,h2⟩|⟨p,r,h1,h2,h3⟩
 ·rw[h1]
  exact⟨fun h=>by omega,fun h=>absurd rfl (h2 c h)⟩
 ·rw[h3,h1]
  exact⟨fun _=>by simp,fun _=>by omega⟩
theorem z9K:∀(l:List Bs) (ps:List Int),z29 ps l=(z0E l).map (ps++ ·)
 | [],ps=>by simp[z0E,z29]
 |x::l,ps=>by
  unfold z0E;rw[z29,z29];cases z0N x with
  |none=>rfl
  |some n=>show z29 (ps++ [n]) l=Option.map (ps++ ·) (z29 ([]++ [n]) l);rw[z9K l (ps++ [n]),z9K l ([]++ [n]),Option.map_map];congr 1;funext y;simp
theorem z4e (x:Bs) (l:List Bs):z0E (x::l)=match z0N x with|some n=>(z0E l).map (n:: ·)|none=>none:=by
 unfold z0E;rw[z29];cases z0N x with
 |none=>rfl
 |some n=>show z29 ([]++ [n]) l=_;rw[z9K];rfl
theorem z5V (x y:Bs) (l:List Bs):z1s (x::y::l)=match z0N x with|some n=>(z1s (y::l)).map (n:: ·)|none=>none:=by
 unfold z1s;have e1:(x::y::l).getLast? =(y::l).getLast?:=by simp[List.getLast?_cons]
 rw[e1];cases hg:(y::l).getLast? with
 |none=>simp at hg
 |some z=>
  simp only;have e2:(x::y::l).dropLast=x::(y::l).dropLast:=rfl;rw[e2,z4e,z4e];cases z0N x with
  |none=>
   split
   ·simp[z3m]
   ·rfl
  |some n=>
   split
   ·cases z0E (y::l).dropLast with
    |none=>simp[z3m]
    |some ps=>
     cases z0J z with
     |none=>simp[z3m]
     |some a=>simp[z3m]
   ·rfl
theorem z7N (x:Bs):z1s [x]=if 46∈x then(z0J x).map (fun a=>[a/65536,a%65536]) else(z0N x).map fun n=>[n]:=by
 unfold z1s;simp only[List.getLast?_singleton,ze1];split
 ·cases z0J x with
  |none=>rfl
  |some a=>rfl
 ·rw[z4e]
  cases z0N x with
  |none=>rfl
  |some n=>rfl
theorem zbY (x:Bs) (c:UInt8) (hc:c∈x) (h:¬z0c c.toNat<16):z0N x=none:=by
 cases hp:z0N x with
 |none=>rfl
 |some n=>
  unfold z0N at hp;split at hp
  ·cases hp
  ·exact absurd (z5O 16 65535 x 0 n hp c hc) h
theorem zbZ (x:Bs) (h:4<x.length):z0N x=none:=by unfold z0N;rw[if_pos (Or.inr h)]
theorem z7O (l:Bs) (c:UInt8) (hc:c∈l) (h:¬z0c c.toNat<16) (h46:c≠46):z0J l=none:=by
 cases hd:z0J l with
 |none=>rfl
 |some a=>
  unfold z0J at hd;split at hd
  ·rcases z5N 46 l c hc with h1|⟨x,hx,hcx⟩
   ·exact absurd h1 h46
   ·exact absurd (z7c _ _ _ hd x hx c hcx) h
  ·cases hd
def z5r (n:Nat) (xs:List Bs) (r:Bs) (ps:List Int) (short:Option Nat):Option (List Int×Option Nat):=if xs=[] then some (ps,short) else if r=[] then none else z0S n r ps short
theorem z6L (n:Nat) (l x:Bs) (xs:List Bs) (r:Bs) (hx:z0a 58 l=x::xs) (hr:(xs=[]∧l=x∧r=[])∨(l=x++58::r∧z0a 58 r=xs)) (hne:x≠[]) (ps:List Int) (h8:ps.length<8) (short:Option Nat):z0S (n+1) l ps short=if xs=[]∧46∈x then(match z0J x with|some a=>if ps.length≤6 then some (ps++ [a/65536,a%65536],short) else none|none=>none) else match z0N x with|some v=>z5r n xs r (ps++ [v]) short|none=>none:=by
 have hx58:∀b∈x,b≠58:=by
  rcases z5a 58 l x xs hx with⟨_,_,h⟩|⟨_,_,_,h⟩
  ·exact h
  ·exact h
 obtain⟨c,x',rfl⟩:∃c x',x=c::x':=by
  cases x with
  |nil=>exact absurd rfl hne
  |cons c x'=>exact⟨c,x',rfl⟩
 have hc58:=hx58 c (by simp);obtain⟨l',hl⟩:∃l',l=c::l':=by
  rcases hr with⟨_,h,_⟩|⟨h,_⟩
  ·exact⟨x',h⟩
  ·exact⟨x'++58::r,h⟩
 obtain⟨t,ht1,ht2,ht3,ht4⟩:=z4d 4 l;have hdrop:l.drop (z0y 4 l).length=t:=by have:=congrArg (List.drop (z0y 4 l).length) ht1;rw[List.drop_left] at this;exact this
 rw[hl,z0S,if_neg (by omega),if_neg hc58,←hl,hdrop];generalize hh:z0y 4 l=h4 at*;rcases hr with⟨rfl,hlx,rfl⟩|⟨hlx,hxs⟩
 ·
  rw[←hlx] at hx58⊢;have hlne:l≠[]:=by rw[hl];simp
  clear hx hlx;cases t with
  |nil=>rw[List.append_nil] at ht1;have hno:=fun h=>(zb8 46 (ht2 46 (by rw[←ht1];exact h))).2 rfl;rw[if_neg (by simp),if_neg (by rw[←ht1];exact hlne),if_neg (fun h=>hno h.2)];have hp:=zdj h4 ht2 ht3 (by rw[←ht1];exact hlne);rw[ht1,hp];simp only[z5r,if_true]
  |cons d y=>
   by_cases hd:d=46
   ·subst hd
    have h46:46∈l:=(by rw[ht1];simp);rw[if_pos (by rfl),if_pos ⟨rfl,h46⟩]
   ·rw[if_neg (by simpa using hd)]
    have hd58:=hx58 d (by rw[ht1];simp);have hcase:=fun h=>ht4 h d y rfl;have hpn:z0N l=none:=by
     by_cases hlen:h4.length<4
     ·exact zbY l d (by rw[ht1];simp) (hcase hlen)
     ·refine zbZ l ?_
      rw[ht1];simp;omega
    have hrhs:(if([]:List Bs)=[]∧46∈l then(match z0J l with|some a=>if ps.length≤6 then some (ps++ [a/65536,a%65536],short) else none|none=>none) else match z0N l with|some v=>z5r n [] [] (ps++ [v]) short|none=>none)=none:=by
     rw[hpn];split
     ·have:z0J l=none:=by
       by_cases hlen:h4.length<4
       ·exact z7O l d (by rw[ht1];simp) (hcase hlen) hd
       ·have h44:h4.length=4:=by omega
        by_cases hdh:z0c d.toNat<16
        ·
         cases hdd:z0J l with
         |none=>rfl
         |some a=>
          unfold z0J at hdd;split at hdd
          ·rcases z4Y 46 y with hn|⟨p,q,rfl,hp⟩
           ·have hno:¬(46∈l):=by
             rw[ht1];intro h;rcases List.mem_append.1 h with h|h
             ·exact(zb8 46 (ht2 46 h)).2 rfl
             ·rcases List.mem_cons.1 h with h|h
              ·exact hd h.symm
              ·exact hn 46 h rfl
            rename_i h46 _;exact absurd h46.2 hno
           ·have hsp:z0a 46 l=(h4++d::p)::z0a 46 q:=by
             rw[ht1,show h4++d::(p++46::q)=(h4++d::p)++46::q from by simp];refine z2W 46 q _ ?_;intro b hb;rcases List.mem_append.1 hb with hb|hb
             ·exact(zb8 b (ht2 b hb)).2
             ·rcases List.mem_cons.1 hb with rfl|hb
              ·exact hd
              ·exact hp b hb
            rw[hsp,z2w] at hdd;have:z1M (h4++d::p)=none:=by
             match h4,h44 with
             | [a1,b1,c1,e1],_=>exact zlj a1 b1 c1 e1 (d::p)
            rw[this] at hdd;cases hdd
          ·cases hdd
        ·exact z7O l d (by rw[ht1];simp) hdh hd
      rw[this]
     ·rfl
    rw[hrhs];split
    ·rfl
    ·exact if_pos (Or.inl hd58)
 ·have hxs2:xs≠[]:=fun h=>z26 58 r (by rw[hxs,h])
  rw[if_neg (show¬(xs=[]∧46∈c::x') from fun h=>hxs2 h.1)];rcases Nat.lt_trichotomy h4.length (c::x').length with hlt|heq|hgt
  ·
   have hpre:∃d y',c::x'=h4++d::y'∧t=d::(y'++58::r):=by
    have e1:h4=(c::x').take h4.length:=(by have:=congrArg (List.take h4.length) (ht1.symm.trans hlx);rw[List.take_left,List.take_append_of_le_length (by omega)] at this;exact this);have e2:t=(c::x').drop h4.length++58::r:=(by have:=congrArg (List.drop h4.length) (ht1.symm.trans hlx);rw[List.drop_left,List.drop_append_of_le_length (by omega)] at this;exact this);cases hd:(c::x').drop h4.length with
    |nil=>have:=congrArg List.length hd;simp at this;simp at hlt;omega
    |cons d y'=>
     refine⟨d,y',?_,?_⟩
     ·conv=>lhs;rw[←List.take_append_drop h4.length (c::x')]
      rw[←e1,hd]
     ·rw[e2,hd];rfl
   obtain⟨d,y',hx',rfl⟩:=hpre;have hd58:=hx58 d (by rw[hx'];simp);have hpn:z0N (c::x')=none:=by
    by_cases hlen:h4.length<4
    ·exact zbY _ d (by rw[hx'];simp) (ht4 hlen d _ rfl)
    ·exact zbZ _ (by omega)
   rw[hpn];simp only;by_cases hd:d=46
   ·subst hd
    rw[if_pos (by rfl),z7O l 58 (by rw[hlx];simp) (by decide) (by decide)]
   ·rw[if_neg (by simpa using hd)]
    split
    ·rfl
    ·exact if_pos (Or.inl hd58)
  ·have e1:h4=c::x'∧t=58::r:=by
    have:=ht1.symm.trans hlx;exact List.append_inj this heq
   obtain⟨e1,rfl⟩:=e1;subst e1;rw[if_neg (by simp),if_neg (by simp),zdj _ ht2 ht3 (by simp)];simp only[z5r];rw[if_neg hxs2];by_cases hr0:r=[]
   ·rw[if_pos hr0,if_pos (Or.inr hr0)]
   ·rw[if_neg hr0,if_neg (fun h=>by rcases h with h|h;exact h rfl;exact hr0 h)]
  ·
   have:(58:UInt8)∈h4:=by have e1:h4=(c::x'++58::r).take h4.length:=(by have:=congrArg (List.take h4.length) (ht1.symm.trans hlx);rw[List.take_left] at this;exact this);rw[e1,List.take_append];refine List.mem_append_right _ ?_;obtain⟨k,hk⟩:∃k,h4.length-(c::x').length=k+1:=⟨h4.length-(c::x').length- 1,by omega⟩;rw[hk];simp
   exact absurd (ht2 58 this) (by decide)
def z51 (ps:List Int) (short:Option Nat) (o:Option (List Int)):Option (List Int×Option Nat):=
 match o with
 |some qs=>if ps.length+qs.length≤8 then some (ps++qs,short) else none
 |none=>none
theorem zi4 (x:Bs) (xs:List Bs) (qs:List Int) (h:z1s (x::xs)=some qs):qs≠[]:=by
 cases xs with
 |nil=>
  rw[z7N] at h;split at h
  ·cases hd:z0J x with
   |none=>rw[hd] at h;cases h
   |some a=>rw[hd] at h;simp at h;rw[←h];simp
  ·cases hd:z0N x with
   |none=>rw[hd] at h;cases h
   |some a=>rw[hd] at h;simp at h;rw[←h];simp
 |cons y l=>
  rw[z5V] at h;cases hd:z0N x with
  |none=>rw[hd] at h;cases h
  |some n=>
   rw[hd] at h;simp only at h;cases hl:z1s (y::l) with
   |none=>rw[hl] at h;cases h
   |some zs=>rw[hl] at h;simp at h;rw[←h];simp
theorem z7A:z0N []=none:=by decide
theorem z5b (l:Bs) (h:l≠[]):z0Z l=z0a 58 l:=by unfold z0Z;rw[if_neg h]
theorem zjI (a l:Bs) (h:z28 (a++l)=false):z28 l=false:=by
 induction a with
 |nil=>exact h
 |cons c a ih=>have h:((c==58&&(a++l).head? ==some 58)||z28 (a++l))=false:=h;rw[Bool.or_eq_false_iff] at h;exact ih h.2
theorem zh5 (a r:Bs) (h:z28 (a++58::r)=false):z28 r=false∧r.head?≠some 58:=by have h1:=zjI a _ h;have h1:(((58:UInt8)==58&&r.head? ==some 58)||z28 r)=false:=h1;rw[Bool.or_eq_false_iff] at h1;refine⟨h1.2,fun e=>?_⟩;rw[e] at h1;exact absurd h1.1 (by decide)
theorem z7B:∀(n:Nat) (l:Bs) (ps:List Int) (short:Option Nat),l.length<n→ps.length≤8→(short.isSome=true∨(z28 l=false∧l.head?≠some 58))→z0S n l ps short=z51 ps short (z1s (z0Z l))
 |0,l,ps,short,hn,_,_=>by omega
 |n+1,[],ps,short,_,h8,_=>by
  rw[z0S];show _=if ps.length+0≤8 then some (ps++ [],short) else none;rw[if_pos (by omega),List.append_nil]
 |n+1,c::l',ps,short,hn,h8,hs=>by
  obtain⟨x,xs,hx⟩:∃x xs,z0a 58 (c::l')=x::xs:=by
   cases hx:z0a 58 (c::l') with
   |nil=>exact absurd hx (z26 58 _)
   |cons x xs=>exact⟨x,xs,rfl⟩
  rw[z5b _ (by simp),hx];by_cases he:ps.length=8
  ·have hl:z0S (n+1) (c::l') ps short=none:=by rw[z0S,if_pos he]
   rw[hl];unfold z51;cases hq:z1s (x::xs) with
   |none=>rfl
   |some qs=>have:=List.length_pos_iff.2 (zi4 x xs qs hq);simp only;rw[if_neg (by omega)]
  ·by_cases hxe:x=[]
   ·subst hxe
    rcases z5a 58 _ _ _ hx with⟨_,h,_⟩|⟨r,h,h2,_⟩
    ·cases h
    ·injection h with hc hl
     subst hc;have hss:short.isSome=true:=by
      rcases hs with hs|hs
      ·exact hs
      ·exact absurd rfl hs.2
     rw[z0S,if_neg he,if_pos rfl,if_pos hss];cases xs with
     |nil=>exact absurd h2 (z26 58 r)
     |cons y ys=>rw[z5V,z7A];rfl
   ·rcases z5a 58 _ _ _ hx with⟨rfl,hlx,_⟩|⟨r,hlx,h2,_⟩
    ·rw[z6L n _ x [] [] hx (Or.inl ⟨rfl,hlx,rfl⟩) hxe ps (by omega) short,z7N]
     by_cases h46:46∈x
     ·rw[if_pos ⟨rfl,h46⟩,if_pos h46]
      cases z0J x with
      |none=>rfl
      |some a=>
       simp only[Option.map_some,z51,List.length_cons,List.length_nil];by_cases h6:ps.length≤6
       ·rw[if_pos h6,if_pos (by omega)]
       ·rw[if_neg h6,if_neg (by omega)]
     ·rw[if_neg (fun h=>h46 h.2),if_neg h46]
      cases z0N x with
      |none=>rfl
      |some v=>simp only[Option.map_some,z51,List.length_cons,List.length_nil,z5r,if_true];rw[if_pos (by omega)]
    ·have hxs:xs≠[]:=fun h=>z26 58 r (by rw[h2,h])
     rw[z6L n _ x xs r hx (Or.inr ⟨hlx,h2⟩) hxe ps (by omega) short,if_neg (fun h=>hxs h.1)];obtain⟨y,ys,rfl⟩:∃y ys,xs=y::ys:=by
      cases xs with
      |nil=>exact absurd rfl hxs
      |cons y ys=>exact⟨y,ys,rfl⟩
     rw[z5V];cases z0N x with
     |none=>rfl
     |some v=>
      simp only[z5r];rw[if_neg hxs];by_cases hr:r=[]
      ·subst hr
       have h3:(y::ys:List Bs)=[[]]:=h2.symm;rw[if_pos rfl,h3,z7N,z7A];rfl
      ·rw[if_neg hr]
       have hlen:r.length<n:=(by have:=congrArg List.length hlx;simp at this hn;omega);rw[z7B n r (ps++ [v]) short hlen (by simp;omega) (by
        rcases hs with hs|hs
        ·exact Or.inl hs
        ·rw[hlx] at hs
         exact Or.inr (zh5 x r hs.1)),z5b r hr,h2]
       unfold z51;cases z1s (y::ys) with
       |none=>rfl
       |some qs=>simp only[Option.map_some,List.length_append,List.length_cons,List.length_nil,List.append_assoc,List.cons_append,List.nil_append];have e:ps.length+(0+1)+qs.length=ps.length+(qs.length+1):=(by omega);rw[e]
theorem zf7 (b:Bs):∀(n:Nat) (a:Bs) (ps:List Int),a.length+b.length+2<n→ps.length≤8→a≠[]→a.head?≠some 58→z28 (a++ [58])=false→z0S n (a++58::58::b) ps none=match z0E (z0a 58 a) with
   |some fs=>if ps.length+fs.length<8 then z51 (ps++fs++ [0]) (some (ps.length+fs.length+1)) (z1s (z0Z b)) else none
   |none=>none
 |0,a,ps,hn,_,_,_,_=>by omega
 |n+1,a,ps,hn,h8,hne,hh,hcc=>by
  obtain⟨x,xs,hx⟩:∃x xs,z0a 58 a=x::xs:=by
   cases hx:z0a 58 a with
   |nil=>exact absurd hx (z26 58 _)
   |cons x xs=>exact⟨x,xs,rfl⟩
  obtain⟨c,a',rfl⟩:∃c a',a=c::a':=by
   cases a with
   |nil=>exact absurd rfl hne
   |cons c a'=>exact⟨c,a',rfl⟩
  have hxe:x≠[]:=by
   rintro rfl;rcases z5a 58 _ _ _ hx with⟨_,h,_⟩|⟨r,h,_,_⟩
   ·cases h
   ·injection h with h _
    subst h;exact hh rfl
  rw[hx,z4e];by_cases he:ps.length=8
  ·have hl:z0S (n+1) (c::a'++58::58::b) ps none=none:=by rw[List.cons_append,z0S,if_pos he]
   rw[hl];cases z0N x with
   |none=>rfl
   |some v=>
    cases z0E xs with
    |none=>rfl
    |some fs=>simp only[Option.map_some];rw[if_neg (by simp;omega)]
  ·rcases z5a 58 _ _ _ hx with⟨rfl,hax,hno⟩|⟨r,hax,h2,hno⟩
   ·
    have hsp:z0a 58 (c::a'++58::58::b)=x::z0a 58 (58::b):=(by rw[hax];exact z2W 58 _ x hno);have hsn:z0a 58 (58::b)≠[]:=z26 58 _;rw[z6L n _ x _ (58::b) hsp (Or.inr ⟨by rw[hax],rfl⟩) hxe ps (by omega) none,if_neg (fun h=>hsn h.1)];cases z0N x with
    |none=>rfl
    |some v=>
     simp only[z5r];rw[if_neg hsn,if_neg (by simp)];match n,hn with
     |0,hn=>omega
     |n+1,hn=>
      show z0S (n+1) (58::b) (ps++ [v]) none=_;rw[z0S];have e0:z0E []=some []:=rfl;simp only[e0,Option.map_some,List.length_append,List.length_cons,List.length_nil];by_cases h7:ps.length+(0+1)=8
      ·rw[if_pos h7,if_neg (by omega)]
      ·rw[if_neg h7,if_pos trivial,if_neg (by simp),if_pos (by omega)]
       rw[z7B n b _ _ (by simp at hn;omega) (by simp;omega) (Or.inl rfl)]
   ·have hsp:z0a 58 (c::a'++58::58::b)=x::z0a 58 (r++58::58::b):=by
     rw[hax,List.append_assoc];exact z2W 58 _ x hno
    have hsn:z0a 58 (r++58::58::b)≠[]:=z26 58 _;rw[z6L n _ x _ (r++58::58::b) hsp (Or.inr ⟨by rw[hax];simp,rfl⟩) hxe ps (by omega) none,if_neg (fun h=>hsn h.1)];have hcc2:=hcc;rw[hax,List.append_assoc] at hcc2;have hnx:z28 (r++ [58])=false∧(r++ [58]).head?≠some 58:=zh5 x (r++ [58]) hcc2;have hr0:r≠[]:=(by rintro rfl;exact hnx.2 rfl);have hrh:r.head?≠some 58:=by
     cases r with
     |nil=>exact absurd rfl hr0
     |cons d y=>exact hnx.2
    cases z0N x with
    |none=>rfl
    |some v=>
     simp only[z5r];rw[if_neg hsn,if_neg (by simp)];have hlen:r.length+b.length+2<n:=by have:=congrArg List.length hax;simp at this hn;omega
     rw[zf7 b n r (ps++ [v]) hlen (by simp;omega) hr0 hrh hnx.1,h2];cases z0E xs with
     |none=>rfl
     |some fs=>simp only[Option.map_some,List.length_append,List.length_cons,List.length_nil,List.append_assoc,List.cons_append,List.nil_append];have e:ps.length+(0+1)+fs.length=ps.length+(fs.length+1):=(by omega);rw[e]
theorem zf8 (f g:List Int) (h:f.length+1+g.length≤8):z3w (some (f++ [0]++g,some (f.length+1)))=z2S true (some f) (some g):=by
 unfold z3w z2S;have hd:decide ((f.length:Int)+(g.length:Int)<8)=true:=decide_eq_true (by omega);simp only[hd,if_true];have e1:(f++ [0]++g).take (f.length+1)=f++ [0]:=by rw[show f.length+1=(f++ [(0:Int)]).length from by simp,List.take_left]
 have e2:(f++ [0]++g).drop (f.length+1)=g:=by rw[show f.length+1=(f++ [(0:Int)]).length from by simp,List.drop_left]
 have e3:(f++ [0]++g).length=f.length+1+g.length:=by simp;omega
 rw[e1,e2,e3];obtain⟨k,hk⟩:∃k,8- f.length- g.length=k+1:=⟨8- f.length- g.length- 1,by omega⟩;have hk2:8-(f.length+1+g.length)=k:=by omega
 rw[hk,hk2,List.replicate_succ];simp
theorem z9L (f g:List Int) (h:¬f.length+1+g.length≤8):z2S true (some f) (some g)=none:=by unfold z2S;have hd:decide ((f.length:Int)+(g.length:Int)<8)=false:=decide_eq_false (by omega);simp[hd]
theorem zlk (l:Bs):z6S l=z2s l:=by
 unfold z6S;split
 ·rename_i r
  have hcut:Lib.cut (58::58::r) [58,58]=([],r,true):=cut_hit [] r (by decide);rw[z7B _ r [0] (some 1) (by simp;omega) (by simp) (Or.inl rfl)];unfold z2s;rw[hcut];simp only;have e0:z0E (z0Z [])=some []:=rfl;rw[e0];cases hq:z1s (z0Z r) with
  |none=>rfl
  |some qs=>
   unfold z51;by_cases h8:1+qs.length≤8
   ·simp only[List.length_cons,List.length_nil]
    rw[if_pos (by omega)];exact zf8 [] qs (by simp;omega)
   ·simp only[List.length_cons,List.length_nil]
    rw[if_neg (by omega)];exact(z9L [] qs (by simp;omega)).symm
 ·rename_i r hno
  have hno:r.head?≠some 58:=by
   cases r with
   |nil=>simp
   |cons d y=>intro h;simp at h;subst h;exact hno y rfl
  show none=z2s (58::r);have hfirst:∀q:Bs,∃y ys,z0a 58 (58::q)=[]::y::ys:=by
   intro q;cases hq:z0a 58 q with
   |nil=>exact absurd hq (z26 58 q)
   |cons y ys=>exact⟨y,ys,by rw[z0a,if_pos rfl,hq]⟩
  unfold z2s;by_cases hc:z28 (58::r)=false
  ·rw[z8I _ hc]
   simp only;obtain⟨y,ys,h⟩:=hfirst r;rw[z5b (58::r) (by simp),h,z5V,z7A];rfl
  ·obtain⟨p,q,hl,hcc⟩:=zaX _ (by simpa using hc)
   rw[hl,cut_hit p q hcc];simp only;cases p with
   |nil=>injection hl with _ hl;rw[hl] at hno;exact absurd rfl hno
   |cons d p=>injection hl with hd _;rw[←hd];obtain⟨y,ys,h⟩:=hfirst p;rw[z5b (58::p) (by simp),h,z4e,z7A];rfl
 ·rename_i h1 h2
  have hh:l.head?≠some 58:=by
   cases l with
   |nil=>simp
   |cons d y=>intro h;simp at h;subst h;exact h2 y rfl
  unfold z2s;by_cases hc:z28 l=false
  ·rw[z8I _ hc,z7B _ l [] none (by omega) (by simp) (Or.inr ⟨hc,hh⟩)]
   simp only;have e0:z0E (z0Z [])=some []:=rfl;rw[e0];cases z1s (z0Z l) with
   |none=>rfl
   |some qs=>
    unfold z51 z2S;simp only[List.length_nil,Nat.zero_add,List.nil_append,Bool.false_eq_true,if_false];by_cases h8:qs.length=8
    ·rw[if_pos (by omega),if_pos (by simp[h8])]
     unfold z3w;simp[h8]
    ·rw[if_neg (show¬((((0:Nat):Int)+(qs.length:Int)==8)=true) from by simp;omega)]
     split
     ·unfold z3w
      simp[h8]
     ·rfl
  ·obtain⟨p,q,rfl,hcc⟩:=zaX _ (by simpa using hc)
   have hp0:p≠[]:=(by rintro rfl;exact hh rfl);have hph:p.head?≠some 58:=by
    cases p with
    |nil=>exact absurd rfl hp0
    |cons d y=>exact hh
   rw[cut_hit p q hcc,zf7 q _ p [] (by simp;omega) (by simp) hp0 hph hcc];simp only;rw[z5b p hp0];cases z0E (z0a 58 p) with
   |none=>rfl
   |some fs=>
    simp only[List.length_nil,Nat.zero_add,List.nil_append];by_cases hf:fs.length<8
    ·rw[if_pos hf]
     cases z1s (z0Z q) with
     |none=>rfl
     |some qs=>
      unfold z51;simp only[List.length_append,List.length_cons,List.length_nil];by_cases h8:fs.length+1+qs.length≤8
      ·rw[if_pos (by omega)]
       exact zf8 fs qs h8
      ·rw[if_neg (by omega)]
       exact(z9L fs qs h8).symm
    ·rw[if_neg hf]
     cases z1s (z0Z q) with
     |none=>rfl
     |some qs=>exact(z9L fs qs (by omega)).symm
theorem zax:∀(l:Bs) (v:Int) (c:UInt8),z2z v (l++ [c])=16*z2z v l+z0c c.toNat
 | [],_,_=>rfl
 |d::l,v,c=>by rw[List.cons_append,z2z,z2z,zax l _ c]
theorem z9C:∀(l:Bs) (v:Int),(∀c∈l,z0c c.toNat<16)→0≤v→0≤z2z v l∧z2z v l<(v+1)*16^l.length
 | [],v,_,h=>by simp only[z2z,List.length_nil,Int.pow_zero,Int.mul_one];omega
 |c::l,v,hl,h=>by
  have h1:=hl c List.mem_cons_self;have h2:=z1q (c.toNat:Int);obtain⟨h3,h4⟩:=z9C l (16*v+z0c c.toNat) (fun x hx=>hl x (List.mem_cons_of_mem _ hx)) (by omega);rw[z2z];refine⟨h3,Int.lt_of_lt_of_le h4 ?_⟩;have e:(v+1)*16^(c::l).length=(16*v+16)*16^l.length:=by rw[List.length_cons,Int.pow_succ,Int.mul_comm ((16:Int)^l.length) 16,←Int.mul_assoc];congr 1;omega
  rw[e];exact Int.mul_le_mul_of_nonneg_right (by omega) (Int.pow_nonneg (by omega))
theorem z9D (l:Bs) (h:∀c∈l,z0c c.toNat<16) (h4:l.length≤4):0≤z2z 0 l∧z2z 0 l≤65535:=by
 obtain⟨h1,h2⟩:=z9C l 0 h (by omega);refine⟨h1,?_⟩;have:l.length=0∨l.length=1∨l.length=2∨l.length=3∨l.length=4:=by omega
 rcases this with e|e|e|e|e<;>(rw[e] at h2;have h3:((0:Int)+1)*16^4=65536:=by decide)<;>simp at h2<;>omega
theorem zhQ (r:Bs) (j:Nat) (h:j<(z0y 4 r).length):∃h2:j<r.length,z0c r[j].toNat<16∧(z0y 4 r).take (j+1)=(z0y 4 r).take j++ [r[j]]∧j<4:=by
 obtain⟨r',h1,h2,h3,_⟩:=z4d 4 r;generalize z0y 4 r=T at*;subst h1;have h5:j<(T++r').length:=by rw[List.length_append];omega
 have e:(T++r')[j]=T[j]:=List.getElem_append_left h;refine⟨h5,?_,?_,by omega⟩
 ·rw[e];exact h2 _ (List.getElem_mem h)
 ·rw[e,List.take_add_one,List.getElem?_eq_getElem h];rfl
theorem zgf (r:Bs):(z0y 4 r).length=r.length∨((z0y 4 r).length<r.length∧(z0y 4 r).length=4)∨((z0y 4 r).length<4∧∃h:(z0y 4 r).length<r.length,¬z0c r[(z0y 4 r).length].toNat<16):=by
 obtain⟨r',h1,h2,h3,h4⟩:=z4d 4 r;generalize z0y 4 r=T at*;subst h1;cases r' with
 |nil=>left;simp
 |cons c y=>
  right;by_cases h:T.length=4
  ·left;exact⟨by simp,h⟩
  ·right
   refine⟨by omega,by simp,?_⟩;rw[List.getElem_append_right (Nat.le_refl _)];simp;exact Int.not_lt.1 (h4 (by omega) c y rfl)
theorem zgg (r:Bs):(∀c∈z0y 4 r,z0c c.toNat<16)∧(z0y 4 r).length≤4:=by obtain⟨r',_,h2,h3,_⟩:=z4d 4 r;exact⟨h2,h3⟩
theorem zgh (l:Bs) (i j:Nat) (T:Bs) (hT:T=z0y 4 (l.drop i)) (h:j<T.length):∃c,l[i+j]?=some c∧z0c c.toNat<16∧T.take (j+1)=T.take j++ [c]∧j<4:=by subst hT;obtain⟨h2,h3,h4,h5⟩:=zhQ (l.drop i) j h;refine⟨(l.drop i)[j],?_,h3,h4,h5⟩;rw[←List.getElem?_drop,List.getElem?_eq_getElem h2]
theorem z9E (l:Bs) (i:Nat) (T:Bs) (hT:T=z0y 4 (l.drop i)) (hi:i≤l.length):i+T.length=l.length∨(i+T.length<l.length∧T.length=4)∨(i+T.length<l.length∧T.length<4∧∃c,l[i+T.length]?=some c∧¬z0c c.toNat<16):=by
 subst hT;rcases zgf (l.drop i) with h|⟨h1,h2⟩|⟨h1,h2,h3⟩
 ·rw[List.length_drop] at h;left;omega
 ·rw[List.length_drop] at h1;right;left;exact⟨by omega,h2⟩
 ·right;right
  refine⟨by have h4:=h2;rw[List.length_drop] at h4;omega,h1,(l.drop i)[(z0y 4 (l.drop i)).length],?_,h3⟩;rw[←List.getElem?_drop,List.getElem?_eq_getElem h2]
def z0w (ps:List Int):List Int:=ps++List.replicate (8- ps.length) 0
theorem z1L (ps:List Int) (h:ps.length≤8):(z0w ps).length=8:=by unfold z0w;simp;omega
theorem zgi (ps:List Int) (h:ps.length<8):z0w (ps++ [0])=z0w ps:=by unfold z0w;rw[List.length_append,List.append_assoc];congr 1;rw[show 8- ps.length=(8-(ps.length+1))+1 by omega];rfl
theorem z7h (ps:List Int) (x:Int) (h:ps.length<8):(z0w ps).set ps.length x=z0w (ps++ [x]):=by unfold z0w;rw[List.set_append_right _ _ (Nat.le_refl _),List.length_append,List.append_assoc,Nat.sub_self];congr 1;rw[show 8- ps.length=(8-(ps.length+1))+1 by omega];rfl
theorem zmV (ps:List Int) (j:Nat) (h:j<ps.length):(z0w ps)[j]?=some ps[j]:=by unfold z0w;rw[List.getElem?_append_left h,List.getElem?_eq_getElem h]
theorem zjm (ps:List Int) (h:ps.length=8):z0w ps=ps:=by unfold z0w;rw[h];simp
def mvI (ps:List Int) (s k:Nat):List Int:=ps.take s++(List.replicate (8- ps.length) 0++((ps.drop s).take (k- s)++List.replicate (ps.length- k) 0))
theorem zjn (ps:List Int) (s:Nat) (hs:s≤ps.length) (h8:ps.length≤8):mvI ps s s=z0w (ps.take s):=by unfold mvI z0w;rw[Nat.sub_self,List.take_zero,List.nil_append,List.replicate_append_replicate,List.length_take];congr 2;omega
theorem zgZ (ps:List Int) (s k:Nat) (hs:s≤k) (hk:k≤ps.length) (h8:ps.length≤8):(mvI ps s k).length=8:=by unfold mvI;simp;omega
theorem zmW (ps:List Int) (s k:Nat) (hs:s≤k) (hk:k<ps.length) (h8:ps.length≤8):(mvI ps s k).set (8- ps.length+k) ps[k]=mvI ps s (k+1):=by
 unfold mvI;have e1:(ps.take s).length=s:=by rw[List.length_take];omega
 rw[List.set_append_right _ _ (by omega),e1];congr 1;rw[List.set_append_right _ _ (by simp;omega)];congr 1;have e2:((ps.drop s).take (k- s)).length=k- s:=by simp;omega
 rw[List.set_append_right _ _ (by simp;omega),e2,List.length_replicate];have e3:(ps.drop s).take (k+1- s)=(ps.drop s).take (k- s)++ [ps[k]]:=by rw[show k+1- s=(k- s)+1 by omega,List.take_add_one,List.getElem?_drop,show s+(k- s)=k by omega,List.getElem?_eq_getElem hk];rfl
 rw[e3,List.append_assoc];congr 1;rw[show 8- ps.length+k- s-(8- ps.length)-(k- s)=0 by omega,show ps.length- k=(ps.length-(k+1))+1 by omega];rfl
theorem zmX (ps:List Int) (s:Nat):mvI ps s ps.length=ps.take s++(List.replicate (8- ps.length) 0++ps.drop s):=by unfold mvI;have e:(ps.drop s).take (ps.length- s)=ps.drop s:=List.take_of_length_le (by rw[List.length_drop];omega);rw[Nat.sub_self,e];simp
theorem zl2 (ps:List Int) (k:Nat) (hk:k<ps.length) (h8:ps.length≤8):(z0w (ps.take k)).set k ps[k]=z0w (ps.take (k+1)):=by
 have e:(ps.take k).length=k:=by rw[List.length_take];omega
 have h:=z7h (ps.take k) ps[k] (by omega);rw[e] at h;rw[h,List.take_add_one,List.getElem?_eq_getElem hk];rfl
theorem zl3 (f:Nat) (ps:List Int) (sh:Option Nat):z0S (f+1) [] ps sh=some (ps,sh):=rfl
theorem zjo (f:Nat) (c:UInt8) (r:Bs) (ps:List Int) (sh:Option Nat) (h:ps.length=8):z0S (f+1) (c::r) ps sh=none:=by rw[z0S,if_pos h]
theorem zhR (f:Nat) (r:Bs) (ps:List Int) (sh:Option Nat) (h:ps.length≠8):z0S (f+1) (58::r) ps sh=if sh.isSome then none else z0S f r (ps++ [0]) (some (ps.length+1)):=by rw[z0S,if_neg h,if_pos rfl]
theorem zl4 (f:Nat) (c:UInt8) (r:Bs) (ps:List Int) (sh:Option Nat) (h:ps.length≠8) (hc:c≠58) (hd:((c::r).drop (z0y 4 (c::r)).length).head? =some 46):z0S (f+1) (c::r) ps sh=match z0J (c::r) with|some a=>if ps.length≤6 then some (ps++ [a/65536,a%65536],sh) else none|none=>none:=by rw[z0S,if_neg h,if_neg hc,if_pos hd];all_goals(cases z0J (c::r)<;>rfl)
theorem zmY (f:Nat) (c:UInt8) (r:Bs) (ps:List Int) (sh:Option Nat) (h:ps.length≠8) (hc:c≠58) (hd:((c::r).drop (z0y 4 (c::r)).length).head?≠some 46) (ht:z0y 4 (c::r)=[]):z0S (f+1) (c::r) ps sh=none:=by rw[z0S,if_neg h,if_neg hc,if_neg hd,if_pos ht]
theorem zhS (f:Nat) (c:UInt8) (r:Bs) (ps:List Int) (sh:Option Nat) (h:ps.length≠8) (hc:c≠58) (ht:z0y 4 (c::r)≠[]) (hl:(c::r).drop (z0y 4 (c::r)).length=[]):z0S (f+1) (c::r) ps sh=some (ps++ [z2z 0 (z0y 4 (c::r))],sh):=by rw[z0S,if_neg h,if_neg hc,if_neg (by rw[hl];simp),if_neg ht,hl]
theorem zjp (f:Nat) (c:UInt8) (r:Bs) (ps:List Int) (sh:Option Nat) (d:UInt8) (y:Bs) (h:ps.length≠8) (hc:c≠58) (hd:d≠46) (ht:z0y 4 (c::r)≠[]) (hl:(c::r).drop (z0y 4 (c::r)).length=d::y):z0S (f+1) (c::r) ps sh=if d≠58∨y=[] then none else z0S f y (ps++ [z2z 0 (z0y 4 (c::r))]) sh:=by rw[z0S,if_neg h,if_neg hc,if_neg (by rw[hl];simpa using hd),if_neg ht,hl]
end Go.Moor
