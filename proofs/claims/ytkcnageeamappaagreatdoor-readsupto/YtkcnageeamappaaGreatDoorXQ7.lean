import Derived.Test.YtkcnageeamappaaGreatDoorXQ11P
set_option maxHeartbeats 32000000
set_option maxRecDepth 8000
namespace Go.Moor
open Go
def z3A:List Nat→Nat
 | []=>0
 |p::l=>if p=0 then z3A l+1 else 0
def z1F:List Nat→Nat→Int→Nat→Int×Nat
 | [],_,f,s=>(f,s)
 |p::l,i,f,s=>if s<z3A (p::l) then z1F l (i+1) i (z3A (p::l)) else z1F l (i+1) f s
def flat (p:Nat):Nat:=if p=0 then 0 else 1
theorem zdk:∀l:List Nat,z3A (l.map flat)=z3A l
 | []=>rfl
 |p::l=>by
  show z3A (flat p::l.map flat)=_;rw[z3A,z3A,zdk l];by_cases h:p=0
  ·subst h;rfl
  ·have:flat p≠0:=by unfold flat;rw[if_neg h];decide
   rw[if_neg this,if_neg h]
theorem z7i:∀(l:List Nat) (i:Nat) (f:Int) (s:Nat),z1F (l.map flat) i f s=z1F l i f s
 | [],_,_,_=>rfl
 |p::l,i,f,s=>by
  have h:=zdk (p::l);show z1F (flat p::l.map flat) i f s=_;have h:z3A (flat p::l.map flat)=z3A (p::l):=h;rw[z1F,z1F,h,z7i l,z7i l]
theorem z7j:∀(l:List Nat) (i row s k:Nat),z0B (l.map flat) i row s k=z0B l i row s k
 | [],_,_,_,_=>rfl
 |p::l,i,row,s,k=>by
  show z0B (flat p::l.map flat) i row s k=_;rw[z0B,z0B];by_cases h:p=0
  ·subst h
   have e:flat 0=0:=rfl;simp only[e,ne_eq,not_true_eq_false,if_false,z7j l]
  ·have h2:flat p≠0:=by unfold flat;rw[if_neg h];decide
   rw[if_pos h2,if_pos h,z7j l]
def z3W (b:Nat) (j:Nat):Nat:=b/2^j%2
theorem zll:∀b:Fin 256,let l:=[z3W b.val 0,z3W b.val 1,z3W b.val 2,z3W b.val 3,z3W b.val 4,z3W b.val 5,z3W b.val 6,z3W b.val 7]
 z1F l 0 (-1) 1=if(z0B l 0 0 0 0).2<2 then(-1,1) else(((z0B l 0 0 0 0).1:Int),(z0B l 0 0 0 0).2):=by decide+kernel
theorem z5s (p:Nat):flat p<2:=by unfold flat;split<;>omega
theorem zne (a0 a1 a2 a3 a4 a5 a6 a7:Nat) (h0:a0<2) (h1:a1<2) (h2:a2<2) (h3:a3<2) (h4:a4<2) (h5:a5<2) (h6:a6<2) (h7:a7<2):∃b:Fin 256,[z3W b.val 0,z3W b.val 1,z3W b.val 2,z3W b.val 3,z3W b.val 4,z3W b.val 5,z3W b.val 6,z3W b.val 7]=[a0,a1,a2,a3,a4,a5,a6,a7]:=by refine⟨⟨a0+2*a1+4*a2+8*a3+16*a4+32*a5+64*a6+128*a7,by omega⟩,?_⟩;unfold z3W;simp only[List.cons.injEq,and_true];refine⟨by omega,by omega,by omega,by omega,by omega,by omega,by omega,by omega⟩
theorem zf9 (l:List Nat) (h8:l.length=8):z1F l 0 (-1) 1=if(z0B l 0 0 0 0).2<2 then(-1,1) else(((z0B l 0 0 0 0).1:Int),(z0B l 0 0 0 0).2):=by
 match l,h8 with
 | [p0,p1,p2,p3,p4,p5,p6,p7],_=>obtain⟨b,hb⟩:=zne (flat p0) (flat p1) (flat p2) (flat p3) (flat p4) (flat p5) (flat p6) (flat p7) (z5s _) (z5s _) (z5s _) (z5s _) (z5s _) (z5s _) (z5s _) (z5s _);have h:=zll b;simp only at h;rw[hb] at h;have e:[flat p0,flat p1,flat p2,flat p3,flat p4,flat p5,flat p6,flat p7]=[p0,p1,p2,p3,p4,p5,p6,p7].map flat:=rfl;rw[e,z7i,z7j] at h;exact h
def z2H (base n d:Int):Int:=if n*base+d>4294967295 then 4294967296 else n*base+d
def z31 (base:Int):Int→Bs→Option Int
 |n,[]=>some n
 |n,c::l=>if z0c c.toNat<base then z31 base (z2H base n (z0c c.toNat)) l else none
theorem zdl (base most:Int) (hb:2≤base) (hm:most≤4294967295) (hm0:0≤most):∀(l:Bs) (n m:Int),most<n→z31 base n l=some m→most<m
 | [],n,m,hn,h=>by simp only[z31,Option.some.injEq] at h;omega
 |c::l,n,m,hn,h=>by
  rw[z31] at h;split at h
  ·have hr:=z1q (c.toNat:Int)
   have hge:n≤n*base:=(by have:=Int.mul_le_mul_of_nonneg_left (show(1:Int)≤base by omega) (show 0≤n by omega);omega);refine zdl base most hb hm hm0 l _ m ?_ h;unfold z2H;split<;>omega
  ·cases h
theorem z8F (base most:Int) (hb:2≤base) (hm:most≤4294967295) (hm0:0≤most):∀(l:Bs) (n:Int),0≤n→n≤most→z0H base most n l=match z31 base n l with|none=>none|some m=>if m≤most then some m else none
 | [],n,h0,hn=>by rw[z0H,z31];simp only;rw[if_pos hn]
 |c::l,n,h0,hn=>by
  have hr:=z1q (c.toNat:Int);have hge:0≤n*base:=Int.mul_nonneg h0 (by omega);rw[z0H,z31];split
  ·rename_i hc
   split
   ·rename_i h1
    have e:z2H base n (z0c c.toNat)=n*base+z0c c.toNat:=(by unfold z2H;rw[if_neg (by omega)]);rw[e];exact z8F base most hb hm hm0 l _ (by omega) h1
   ·rename_i h1
    cases hs:z31 base (z2H base n (z0c c.toNat)) l with
    |none=>rfl
    |some m=>have:=zdl base most hb hm hm0 l _ m (by unfold z2H;split<;>omega) hs;simp only;rw[if_neg (by omega)]
  ·rfl
def z21 (s:Bs):Int×Bs:=if Lib.hasPrefix s [48,120] then(16,s.drop 2) else if 1<s.length∧s.head? =some 48 then(8,s.drop 1) else(10,s)
theorem z8T (most:Int) (s:Bs):z0I most s=if s=[] then none else z0H (z21 s).1 most 0 (z21 s).2:=by
 unfold z21;match s with
 | []=>rfl
 | [c]=>
  have e1:Lib.hasPrefix [c] [48,120]=false:=by simp[Lib.hasPrefix,List.isPrefixOf]
  rw[e1,z77 most c [] (Or.inr rfl)];simp
 |c::d::l=>
  by_cases hc:c=48
  ·subst hc
   by_cases hd:d=120
   ·subst hd
    have e1:Lib.hasPrefix (48::120::l) [48,120]=true:=(by simp[Lib.hasPrefix]);rw[e1];simp[z0I]
   ·have e1:Lib.hasPrefix (48::d::l) [48,120]=false:=by
     simp[Lib.hasPrefix,List.isPrefixOf];exact fun h=>hd h.symm
    rw[e1,z9p most d l hd];simp
  ·have e1:Lib.hasPrefix (c::d::l) [48,120]=false:=by
    simp[Lib.hasPrefix,List.isPrefixOf];exact fun h=>absurd h.symm hc
   rw[e1,z77 most c (d::l) (Or.inl hc)];simp[hc]
def leB:Nat→Nat→List Nat
 |0,_=>[]
 |k+1,n=>leB k n++ [n/256^k%256]
theorem z8e:∀k n:Nat,(leB k n).length=k
 |0,_=>rfl
 |k+1,n=>by rw[leB,List.length_append,z8e k n];rfl
theorem zbL:∀(k n x:Nat),x∈leB k n→x<256
 |0,_,_,h=>by cases h
 |k+1,n,x,h=>by
  rw[leB] at h;rcases List.mem_append.1 h with h|h
  ·exact zbL k n x h
  ·simp at h
   omega
theorem z8y (k:Nat):0<256^k:=Nat.pow_pos (by omega)
theorem zgX (a n m:Nat):∀k:Nat,k≤m→leB k (a*256^m+n)=leB k n
 |0,_=>rfl
 |k+1,h=>by
  rw[leB,leB,zgX a n m k (by omega)];have e:a*256^m=(a*256^(m- k- 1)*256)*256^k:=by rw[Nat.mul_assoc,Nat.mul_assoc,←Nat.mul_assoc (256^(m- k- 1))];rw[show 256^(m- k- 1)*256*256^k=256^m by rw[←Nat.pow_succ,←Nat.pow_add];congr 1;omega]
  rw[e,Nat.mul_comm _ (256^k),Nat.mul_add_div (z8y k),Nat.add_comm,Nat.add_mul_mod_self_right]
theorem zb0 (a n m:Nat) (hn:n<256^m):∀k:Nat,leB m n++leB k a=leB (m+k) (a*256^m+n)
 |0=>by rw[leB,List.append_nil,Nat.add_zero,zgX a n m m (Nat.le_refl _)]
 |k+1=>by
  rw[←Nat.add_assoc,leB,leB,←zb0 a n m hn k,List.append_assoc];have e:(a*256^m+n)/256^(m+k)=a/256^k:=by rw[Nat.pow_add,←Nat.div_div_eq_div_mul,Nat.mul_comm a,Nat.mul_add_div (z8y m),Nat.div_eq_of_lt hn,Nat.add_zero]
  rw[e]
theorem zkY (n:Nat):(leB 4 n).reverse=[z2m n 0,z2m n 1,z2m n 2,z2m n 3]:=by simp[leB,z2m]
theorem zkZ (k n:Nat):n/256^k/256=n/256^(k+1):=by rw[Nat.div_div_eq_div_mul,Nat.pow_succ]
theorem zjl (k n:Nat):0<n/256^k↔¬n<256^k:=by rw[Nat.div_pos_iff];have:=z8y k;omega
theorem z8z:∀(xs:List Bs) (a:Int) (x:Bs),z3c a (xs++ [x])=match z3c a xs with|none=>none|some b=>match z0I 255 x with|some n=>some (b*256+n)|none=>none
 | [],a,x=>by
  simp only[List.nil_append,z3c];cases z0I 255 x<;>rfl
 |y::xs,a,x=>by
  simp only[List.cons_append,z3c];cases z0I 255 y with
  |none=>rfl
  |some n=>simp only;exact z8z xs _ x
theorem zbM:∀(xs ys:List Bs) (a:Int),z3c a xs=none→z3c a (xs++ys)=none
 | [],_,a,h=>by simp[z3c] at h
 |x::xs,ys,a,h=>by
  simp only[List.cons_append,z3c] at h⊢;cases hx:z0I 255 x with
  |none=>rfl
  |some n=>rw[hx] at h;simp only at h⊢;exact zbM xs ys _ h
def z8f (ls:List Bs) (q:Nat) (bs:List Nat):Prop:=
 (q<ls.length∧∃a:Nat,z3c 0 (ls.take q)=some (a:Int)∧bs=(leB q a).reverse)∨(q=ls.length∧∃N:Nat,ip4 ls=some (N:Int)∧bs=(leB 4 N).reverse)
def z3q (ls:List Bs) (q:Nat):Nat:=if q+1=ls.length then 5- ls.length else 1
theorem zoq (k:Nat):(2:Int)^(8*k)=256^k:=by rw[Int.pow_mul];rfl
theorem z8A {α:Type} (ls:List α) (q:Nat) (h:q<ls.length):ls.take (q+1)=ls.take q++ [ls[q]]:=by rw[List.take_add_one,List.getElem?_eq_getElem h];rfl
theorem zbN (ls:List Bs) (q:Nat) (h:q<ls.length) (hq:q+1=ls.length):ls.getLastD []=ls[q]:=by rw[List.getLastD_eq_getLast?,List.getLast?_eq_getElem?,show ls.length- 1=q by omega,List.getElem?_eq_getElem h];rfl
theorem zmT (ls:List Bs) (q:Nat) (bs:List Nat) (h:q<ls.length) (hinv:z8f ls q bs) (hn:z0I (256^z3q ls q- 1) ls[q]=none):ip4 ls=none:=by
 rcases hinv with⟨_,a,ha,_⟩|⟨hq,_⟩
 ·unfold ip4
  split
  ·rfl
  ·rename_i h4
   unfold z3q at hn;by_cases hl:q+1=ls.length
   ·rw[if_pos hl] at hn
    have e:ls.dropLast=ls.take q:=(by rw[List.dropLast_eq_take];congr 1;omega);rw[e,ha,zbN ls q h hl,zoq,hn]
   ·rw[if_neg hl] at hn
    have e:ls.dropLast=ls.take (q+1)++(ls.take (ls.length- 1)).drop (q+1):=by
     rw[List.dropLast_eq_take];conv=>lhs;rw[←List.take_append_drop (q+1) (ls.take (ls.length- 1))]
     rw[List.take_take];congr 2;omega
    have:z3c 0 (ls.take (q+1))=none:=by rw[z8A ls q h,z8z,ha];simp only;rw[show(255:Int)=256^1- 1 by decide,hn]
    rw[e,zbM _ _ _ this]
 ·omega
theorem zmU (ls:List Bs) (q:Nat) (bs:List Nat) (m:Nat) (h:q<ls.length) (h4:ls.length≤4) (hinv:z8f ls q bs) (hn:z0I (256^z3q ls q- 1) ls[q]=some (m:Int)) (hm:m<256^z3q ls q):z8f ls (q+1) (bs++(leB (z3q ls q) m).reverse):=by
 rcases hinv with⟨_,a,ha,rfl⟩|⟨hq,_⟩
 ·by_cases hl:q+1=ls.length
  ·have e1:z3q ls q=5- ls.length:=if_pos hl
   rw[e1] at hn hm⊢;refine Or.inr ⟨hl,a*256^(5- ls.length)+m,?_,?_⟩
   ·unfold ip4
    rw[if_neg (by omega)];have e:ls.dropLast=ls.take q:=(by rw[List.dropLast_eq_take];congr 1;omega);rw[e,ha,zbN ls q h hl,zoq,hn];simp only[Option.some.injEq];rw[Int.natCast_add,Int.natCast_mul,Int.natCast_pow];rfl
   ·rw[←List.reverse_append,zb0 a m _ hm q]
    congr 2;omega
  ·have e1:z3q ls q=1:=if_neg hl
   rw[e1] at hn hm⊢;refine Or.inl ⟨by omega,a*256+m,?_,?_⟩
   ·rw[z8A ls q h,z8z,ha]
    simp only;rw[show(255:Int)=256^1- 1 by decide,hn];simp only[Option.some.injEq];omega
   ·rw[←List.reverse_append,zb0 a m _ hm q]
    rw[Nat.pow_one,Nat.add_comm]
 ·omega
theorem zl0 (ls:List Bs) (q:Nat) (bs:List Nat) (h:z8f ls q bs) (h4:ls.length≤4):bs.length≤4∧∀x∈bs,x<256:=by
 rcases h with⟨h1,a,_,rfl⟩|⟨h1,a,_,rfl⟩
 ·refine⟨by rw[List.length_reverse,z8e];omega,fun x hx=>zbL _ _ x (List.mem_reverse.1 hx)⟩
 ·refine⟨by rw[List.length_reverse,z8e];omega,fun x hx=>zbL _ _ x (List.mem_reverse.1 hx)⟩
def z3j (l:List Nat):Bs:=Lib.join (l.map Lib.decDigits) [46]
theorem zgd (ps:List Nat) (i:Nat) (h:i<ps.length) (hi:0<i):z3j (ps.take (i+1))=z3j (ps.take i)++46::Lib.decDigits ps[i]:=by
 rw[z8A ps i h];unfold z3j;rw[List.map_append];have hl:((ps.take i).map Lib.decDigits).length=i:=by simp;omega
 generalize(ps.take i).map Lib.decDigits=l at*;cases l with
 |nil=>simp at hl;omega
 |cons x r=>rw[List.cons_append,Lib.join_cons,Lib.join_cons];unfold Lib.joinTail;simp
theorem zhM (ps:List Nat) (h:0<ps.length):z3j (ps.take 1)=Lib.decDigits ps[0]:=by
 cases ps with
 |nil=>simp at h
 |cons x r=>exact Lib.join_one _ _
theorem zbO:∀ps:List Nat,(∀x∈ps,x<256)→(z3j ps).length≤4*ps.length
 | [],_=>Nat.le_refl _
 |x::r,h=>by
  unfold z3j;rw[List.map_cons,Lib.join_cons];have h1:=z6b x (h x List.mem_cons_self);have h2:∀l:List Nat,(∀x∈l,x<256)→(Lib.joinTail [46] (l.map Lib.decDigits)).length≤4*l.length:=by
   intro l;induction l with
   |nil=>intro _;simp[Lib.joinTail]
   |cons y l ih=>intro hl;have h3:=z6b y (hl y List.mem_cons_self);have h4:=ih (fun x hx=>hl x (List.mem_cons_of_mem _ hx));simp[Lib.joinTail] at h4⊢;omega
  have h5:=h2 r (fun x hx=>h x (List.mem_cons_of_mem _ hx));simp;omega
theorem zge (n:Nat):z3j (leB 4 n).reverse=z2U n:=by rw[zkY];rfl
theorem zgY (k:Nat) (h:k≤4):(256:Int)^k- 1≤4294967295∧0≤(256:Int)^k- 1:=by
 have:k=0∨k=1∨k=2∨k=3∨k=4:=by omega
 rcases this with rfl|rfl|rfl|rfl|rfl<;>decide
theorem z5S (s:Bs):2≤(z21 s).1∧(z21 s).1≤16:=by
 unfold z21;split
 ·simp
 ·split<;>simp
theorem zhN (x:Bs) (k:Nat) (h:k≤4) (hs:z31 (z21 x).1 0 (z21 x).2=none):z0I (256^k- 1) x=none:=by
 rw[z8T];split
 ·rfl
 ·obtain⟨h1,h2⟩:=zgY k h
  rw[z8F _ _ (z5S x).1 h1 h2 _ 0 (by omega) h2,hs]
theorem zhO (x:Bs) (k:Nat) (h:k≤4) (hx:x≠[]) (m:Nat) (hs:z31 (z21 x).1 0 (z21 x).2=some (m:Int)):z0I (256^k- 1) x=if m<256^k then some (m:Int) else none:=by
 rw[z8T,if_neg hx];obtain⟨h1,h2⟩:=zgY k h;rw[z8F _ _ (z5S x).1 h1 h2 _ 0 (by omega) h2,hs];simp only;have e:((256^k:Nat):Int)=256^k:=by rw[Int.natCast_pow];rfl
 by_cases hm:m<256^k
 ·rw[if_pos hm,if_pos (by omega)]
 ·rw[if_neg hm,if_neg (by omega)]
theorem zl1 (base n:Int) (l:Bs) (k:Nat) (h:k<l.length):z31 base n (l.drop k)=if z0c l[k].toNat<base then z31 base (z2H base n (z0c l[k].toNat)) (l.drop (k+1)) else none:=by rw[List.drop_eq_getElem_cons h];rfl
end Go.Moor
namespace Go.Proofs
open Go.RowKit Go.Moor Go.Proofs.Tryz
theorem znX (s:ByteArray) (c:UInt8) (w:World) (hs:s.size≤35184372088832):C0 110 #[.string s,.int .u8 c.toNat] w (.bool (s.data.toList.contains c)):=by
 go_enter func110,ntmps110;go_wp2_with fail;go_loopw [5] (fun i wr=>∃k:Nat,k≤s.size∧i=.int .i64 k∧(∀(j:Nat) (hj:j<s.size),j<k→¬s[j]=c)∧wr=w) (fun i _=>s.size-(intOf i).toNat)
 case atStart=>exact⟨0,Nat.zero_le _,rfl,fun j hj h=>by omega,rfl⟩
 case round=>
  obtain⟨k,hk,rfl,hno,rfl⟩:=hrel;have HN:=hI hno;clear hno;by_cases hlt:k<s.size
  ·by_cases hb:s[k]=c
   ·have HC:Hid (s.data.toList.contains c=true):=by
     show _=_;rw[List.contains_iff_mem,←hb];exact List.mem_of_getElem? (i:=k) (by rw[Array.getElem?_toList];exact Array.getElem?_eq_getElem hlt)
    have hc:(s[k].toNat:Int)=(c.toNat:Int):=(by rw[hb]);have hc2:((s[k].toNat:Int)==(c.toNat:Int))=true:=(by simpa using hc);go_wp2;go_ret;rw[HC.out];exact⟨rfl,rfl⟩
   ·have hc2:((s[k].toNat:Int)==(c.toNat:Int))=false:=by
     rw[beq_eq_false_iff_ne];intro h;exact hb (UInt8.toNat_inj.1 (by omega))
    go_wp2;go_roundw
    case rel=>
     refine⟨k+1,by omega,by go_num,fun j hj h=>?_,trivial⟩;by_cases e:j=k
     ·subst e;exact hb
     ·exact HN j hj (by omega)
    case measure=>(simp[intOf];try omega)
  ·have HC:Hid (s.data.toList.contains c=false):=by
    show _=_;rw[Bool.eq_false_iff];intro h;rw[List.contains_iff_mem,List.mem_iff_getElem?] at h;obtain⟨j,hj⟩:=h;rw[Array.getElem?_toList,Array.getElem?_eq_some_iff] at hj;obtain⟨h1,h2⟩:=hj;exact HN j h1 (by have:j<s.size:=h1;omega) h2
   go_wp2;go_ret;rw[HC.out];exact⟨rfl,rfl⟩
def z1Y (c:UInt8):Int:=if z0c c.toNat<16 then z0c c.toNat else -1
theorem zdY (c:UInt8) (w:World):C0 66 #[.int .u8 c.toNat] w (.int .i64 (z1Y c)):=by
 have hc:=c.toNat_lt
 have HV:Hid (∀n:Int,n=c.toNat→z1Y c=if 48≤n∧n≤57 then n- 48 else if 97≤n∧n≤102 then n- 97+10 else if 65≤n∧n≤70 then n- 65+10 else -1):=by
  intro n hn
  unfold z1Y z0c
  rw[←hn]
  repeat' split
  all_goals omega
 obtain⟨n,hn⟩:=z09 (c.toNat:Int);have HVN:=HV n hn;rw[HVN,←hn];have h0:0≤n∧n≤255:=by omega
 obtain⟨h00,h01⟩:=h0;clear HVN HV hn hc
 by_cases h1:48≤n
 ·by_cases h2:n≤57
  ·rw[if_pos ⟨h1,h2⟩]
   go_enter func66,ntmps66;go_wp2;go_ret;exact⟨by first|rfl|go_num,rfl⟩
  ·rw[if_neg (by omega)]
   by_cases h3:97≤n
   ·by_cases h4:n≤102
    ·rw[if_pos ⟨h3,h4⟩]
     go_enter func66,ntmps66;go_wp2;go_ret;exact⟨by first|rfl|go_num,rfl⟩
    ·rw[if_neg (by omega)]
     have h5:65≤n:=by omega
     have h6:¬n≤70:=(by omega);rw[if_neg (by omega)];go_enter func66,ntmps66;go_wp2;go_ret;exact⟨by first|rfl|go_num,rfl⟩
   ·rw[if_neg (by omega)]
    by_cases h5:65≤n
    ·by_cases h6:n≤70
     ·rw[if_pos ⟨h5,h6⟩]
      go_enter func66,ntmps66;go_wp2;go_ret;exact⟨by first|rfl|go_num,rfl⟩
     ·rw[if_neg (by omega)]
      go_enter func66,ntmps66;go_wp2;go_ret;exact⟨by first|rfl|go_num,rfl⟩
    ·rw[if_neg (by omega)]
     go_enter func66,ntmps66;go_wp2;go_ret;exact⟨by first|rfl|go_num,rfl⟩
 ·have h3:¬97≤n:=by omega
  have h5:¬65≤n:=by omega
  rw[if_neg (by omega),if_neg (by omega),if_neg (by omega)];go_enter func66,ntmps66;go_wp2;go_ret;exact⟨by first|rfl|go_num,rfl⟩
def refDigit (c:UInt8):Bool:=decide (48≤c.toNat∧c.toNat≤57)
theorem zbK (c:UInt8) (w:World):C0 173 #[.int .u8 c.toNat] w (.bool (refDigit c)):=by
 by_cases h1:(48:Int)≤(c.toNat:Int)
 ·by_cases h2:(c.toNat:Int)≤57
  ·have HR:Hid (refDigit c=true):=by show _=_;unfold refDigit;rw[decide_eq_true_eq];omega
   rw[HR.out];go_enter func173,ntmps173;go_wp2;go_ret;exact⟨rfl,rfl⟩
  ·have HR:Hid (refDigit c=false):=by show _=_;unfold refDigit;rw[decide_eq_false_iff_not];omega
   rw[HR.out];go_enter func173,ntmps173;go_wp2;go_ret;exact⟨rfl,rfl⟩
 ·have HR:Hid (refDigit c=false):=by show _=_;unfold refDigit;rw[decide_eq_false_iff_not];omega
  rw[HR.out];go_enter func173,ntmps173;go_wp2;go_ret;exact⟨rfl,rfl⟩
theorem zkk (n:Nat) (h:n<16) (w:World):C0 111 #[.int .u8 (n:Int)] w (.int .u8 (z0T n).toNat):=by
 have HX:Hid (((z0T n).toNat:Int)=if n<10 then 48+(n:Int) else 55+(n:Int)):=by
  show _=_;have:∀k:Fin 16,((z0T k.val).toNat:Int)=if k.val<10 then 48+(k.val:Int) else 55+(k.val:Int):=by decide+kernel
  exact this ⟨n,h⟩
 rw[HX.out];by_cases h1:n<10
 ·rw[if_pos h1]
  have h2:(n:Int)<10:=by omega
  go_enter func111,ntmps111;go_wp2;go_ret;exact⟨by first|rfl|go_num,rfl⟩
 ·rw[if_neg h1]
  have h2:¬(n:Int)<10:=by omega
  go_enter func111,ntmps111;go_wp2;go_ret;exact⟨by first|rfl|go_num,rfl⟩
def qL:List UInt8:=[32,34,35,60,62]
def pL:List UInt8:=[63,94,96,123,125]
def uL:List UInt8:=[47,58,59,61,64,91,92,93,124]
def fL:List UInt8:=[32,34,60,62,96]
def kL:List UInt8:=[36,37,38,43,44]
def zhW (s:Nat) (c:UInt8):Bool:=
 match s with
 |0=>false
 |1=>fL.contains c
 |2=>qL.contains c
 |3=>qL.contains c||c==39
 |4=>qL.contains c||pL.contains c
 |5=>qL.contains c||pL.contains c||uL.contains c
 |_=>qL.contains c||pL.contains c||uL.contains c||kL.contains c
theorem zn3:∀s:Fin 7,∀c:Fin 256,z0n s.val c.val=if c.val<32∨126<c.val then true else zhW s.val c.val.toUInt8:=by decide+kernel
theorem zor (s:Nat) (hs:s<7) (c:UInt8):z0n s c.toNat=if c.toNat<32∨126<c.toNat then true else zhW s c:=by
 have h:=zn3 ⟨s,hs⟩ ⟨c.toNat,c.toNat_lt⟩;simp only at h;have e:c.toNat.toUInt8=c:=by simp
 rw[e] at h;exact h
theorem zl8 (c:UInt8) (s:Nat) (hs:s<7) (w:World):C0 63 #[.int .u8 c.toNat,.int .i64 (s:Int)] w (.bool (z0n s c.toNat)):=by
 have HM:=zor s hs c;by_cases h1:(c.toNat:Int)<32
 ·have HR:Hid (z0n s c.toNat=true):=by show _=_;rw[HM,if_pos (by omega)]
  rw[HR.out];clear HM HR;go_enter func63,ntmps63;go_wp2;go_ret;exact⟨rfl,rfl⟩
 ·by_cases h2:(126:Int)<(c.toNat:Int)
  ·have HR:Hid (z0n s c.toNat=true):=by show _=_;rw[HM,if_pos (by omega)]
   rw[HR.out];clear HM HR;go_enter func63,ntmps63;go_wp2;go_ret;exact⟨rfl,rfl⟩
  ·rw[if_neg (by omega)] at HM
   rw[HM];clear HM;have HQ:Hid (C0 110 #[.string ⟨#[32,34,35,60,62]⟩,.int .u8 c.toNat] w (.bool (qL.contains c))):=znX ⟨#[32,34,35,60,62]⟩ c w (by decide);have HP:Hid (C0 110 #[.string ⟨#[63,94,96,123,125]⟩,.int .u8 c.toNat] w (.bool (pL.contains c))):=znX ⟨#[63,94,96,123,125]⟩ c w (by decide);have HU:Hid (C0 110 #[.string ⟨#[47,58,59,61,64,91,92,93,124]⟩,.int .u8 c.toNat] w (.bool (uL.contains c))):=znX ⟨#[47,58,59,61,64,91,92,93,124]⟩ c w (by decide);have HF:Hid (C0 110 #[.string ⟨#[32,34,60,62,96]⟩,.int .u8 c.toNat] w (.bool (fL.contains c))):=znX ⟨#[32,34,60,62,96]⟩ c w (by decide);have HK:Hid (C0 110 #[.string ⟨#[36,37,38,43,44]⟩,.int .u8 c.toNat] w (.bool (kL.contains c))):=znX ⟨#[36,37,38,43,44]⟩ c w (by decide);have h39:((c.toNat:Int)==39)=(c==39):=by
    by_cases h:c=39
    ·rw[h];rfl
    ·have h2:¬(c.toNat:Int)=39:=fun e=>h (UInt8.toNat_inj.1 (by show c.toNat=39;omega))
     rw[beq_eq_false_iff_ne.2 h,beq_eq_false_iff_ne.2 h2]
   unfold zhW;generalize qL.contains c=q at*;generalize pL.contains c=p at*;generalize uL.contains c=u at*;generalize fL.contains c=f at*;generalize kL.contains c=k at*;generalize(c==39)=t at*;generalize(c.toNat:Int)=n at*;obtain⟨qp,hqp⟩:=z09 (q||p);simp only[←hqp];obtain⟨qpu,hqpu⟩:=z09 (qp||u);simp only[←hqpu];have HQP:=hI hqp;have HQPU:=hI hqpu;clear hqp hqpu;go_enter func63,ntmps63;go_wp2_with fail;refine HQ.out.mono ?_;rintro e W0 ⟨rfl,hw0⟩;obtain rfl:=hw0.symm;go_upto_region 4 with fail;go_cut [6] (fun x wx=>x=.bool qp∧wx=w)
   case first=>
    as_aux_lemma=>
     cases q with
     |true=>go_wp2_with fail;go_meet;exact⟨by rw[HQP.out];rfl,rfl⟩
     |false=>go_wp2_with fail;refine HP.out.mono ?_;rintro e W0 ⟨rfl,hw0⟩;obtain rfl:=hw0.symm;go_wp2_with fail;go_meet;exact⟨by rw[HQP.out];rfl,rfl⟩
   case rest=>
   obtain⟨hx,hwc⟩:=hcut;subst hx;obtain rfl:=hwc.symm;go_upto_region 5 with fail;go_cut [7] (fun x wx=>x=.bool qpu∧wx=w)
   case first=>
    as_aux_lemma=>
     cases qp with
     |true=>go_wp2_with fail;go_meet;exact⟨by rw[HQPU.out];rfl,rfl⟩
     |false=>go_wp2_with fail;refine HU.out.mono ?_;rintro e W0 ⟨rfl,hw0⟩;obtain rfl:=hw0.symm;go_wp2_with fail;go_meet;exact⟨by rw[HQPU.out];rfl,rfl⟩
   case rest=>
   obtain⟨hx,hwc⟩:=hcut;subst hx;obtain rfl:=hwc.symm;have hs7:s=0∨s=1∨s=2∨s=3∨s=4∨s=5∨s=6:=(by omega);rcases hs7 with rfl|rfl|rfl|rfl|rfl|rfl|rfl
   ·go_wp2_with fail
    go_ret;exact⟨rfl,rfl⟩
   ·go_wp2_with fail
    refine HF.out.mono ?_;rintro e W0 ⟨rfl,hw0⟩;obtain rfl:=hw0.symm;go_wp2_with fail;go_ret;exact⟨rfl,rfl⟩
   ·go_wp2_with fail
    go_ret;exact⟨rfl,rfl⟩
   ·clear HQP
    cases q with
    |true=>go_wp2_with fail;go_ret;exact⟨rfl,rfl⟩
    |false=>go_wp2_with fail;go_ret;exact⟨rfl,rfl⟩
   ·go_wp2_with fail
    go_ret;exact⟨rfl,rfl⟩
   ·go_wp2_with fail
    go_ret;exact⟨rfl,rfl⟩
   ·clear HQPU
    cases qpu with
    |true=>go_wp2_with fail;go_ret;exact⟨rfl,rfl⟩
    |false=>go_wp2_with fail;refine HK.out.mono ?_;rintro e W0 ⟨rfl,hw0⟩;obtain rfl:=hw0.symm;go_wp2_with fail;go_ret;exact⟨rfl,rfl⟩
theorem zhX (w:World) (a b c:Value) (t:TypeId) (i:Nat):(w.alloc (.cells #[a,b,c] t)).cell? ⟨w.heap.size,i,none⟩=(#[a,b,c]:Array Value)[i]?:=World.cell?_alloc_new w #[a,b,c] t i
theorem zkl (c:UInt8) (w:World):CB 64 #[.int .u8 c.toNat] w (.string ⟨#[37,z0T (c.toNat/16),z0T (c.toNat%16)]⟩):=by
 have hc:=c.toNat_lt;have HC1:Hid (C0 111 #[.int .u8 ((c.toNat/16:Nat):Int)] w (.int .u8 (z0T (c.toNat/16)).toNat)):=zkk _ (by omega) w;have HC2:Hid (C0 111 #[.int .u8 ((c.toNat%16:Nat):Int)] w (.int .u8 (z0T (c.toNat%16)).toNat)):=zkk _ (by omega) w;generalize z0T (c.toNat/16)=x1 at*;generalize z0T (c.toNat%16)=x2 at*;have hcv:(convert 47 9 (.slice (some ⟨w.heap.size,0,none⟩) 3 3)).run prog (w.alloc (.cells #[.int .u8 37,.int .u8 x1.toNat,.int .u8 x2.toNat] 5))=.ok (.string ⟨#[37,x1,x2]⟩) (w.alloc (.cells #[.int .u8 37,.int .u8 x1.toNat,.int .u8 x2.toNat] 5)):=
  run_convert_bytes_back _ 47 9 5 ⟨w.heap.size,0,none⟩ 3 [37,x1,x2] underlying47 underlying5 underlying9 (fun i hi=>by
   match i,hi with
   |0,_=>exact zhX w _ _ _ _ 0
   |1,_=>exact zhX w _ _ _ _ 1
   |2,_=>exact zhX w _ _ _ _ 2)
 obtain⟨n,hn⟩:=z09 (c.toNat:Nat);rw[←hn] at HC1 HC2 hc⊢;have e1:((n/16:Nat):Int)=(n:Int)/16:=by omega
 have e2:((n%16:Nat):Int)=(n:Int)%16:=by omega
 rw[e1] at HC1;rw[e2] at HC2;clear e1 e2;clear hn;go_enter func64,ntmps64;go_wp2_with fail;refine HC1.out.mono ?_;rintro e W0 ⟨rfl,hw0⟩;obtain rfl:=hw0.symm;go_wp2_with fail;refine HC2.out.mono ?_;rintro e W0 ⟨rfl,hw0⟩;obtain rfl:=hw0.symm;go_wp2_with fail;go_ret;exact⟨rfl,(Below.refl _ _).alloc (Nat.le_refl _) _⟩
theorem z3U (l:List UInt8) (k:Nat) (h:k<l.length):l.take (k+1)=l.take k++ [l[k]]:=by rw[List.take_add_one,List.getElem?_eq_getElem h];rfl
theorem zl9 (s:Int) (l:List UInt8) (k:Nat) (h:k<l.length):esc s (l.take (k+1))=esc s (l.take k)++z43 s l[k]:=by rw[z3U l k h];unfold esc;rw[List.flatMap_append];simp
theorem zn4 (s:Int) (l:List UInt8):(esc s l).length≤3*l.length:=by
 induction l with
 |nil=>simp[esc]
 |cons c l ih=>
  have h1:(z43 s c).length≤3:=by unfold z43;split<;>simp
  have h2:esc s (c::l)=z43 s c++esc s l:=by simp[esc]
  rw[h2,List.length_append,List.length_cons];omega
theorem z59 (s:ByteArray) (k:Nat) (h:k<s.size):s.extract k (k+1)=⟨#[s[k]]⟩:=by
 apply ByteArray.ext;apply Array.ext';have h2:k<s.data.toList.length:=by rw[Array.length_toList];exact h
 rw[ByteArray.data_extract,Array.toList_extract,List.extract_eq_take_drop,show k+1- k=1 by omega,List.drop_eq_getElem_cons h2];rfl
theorem zb3 (s:ByteArray) (set:Int) (w:World) (hs:s.size≤35184372088832):CB 40 #[.string s,.int .i64 set] w (.string ⟨(esc set s.data.toList).toArray⟩):=by
 obtain⟨l,hl⟩:=z09 s.data.toList;have hlen:l.length=s.size:=by rw[hl,Array.length_toList];rfl
 have HG:Hid (∀(k:Nat) (h:k<s.size) (h2:k<l.length),l[k]=s[k]):=by intro k h h2;subst hl;simp;rfl
 rw[←hl];have HME:Hid (∀(c:UInt8) w1,0≤set→set≤6→C0 63 #[.int .u8 c.toNat,.int .i64 set] w1 (.bool (z0n set c.toNat))):=by intro c w1 h0 h6;obtain⟨n,rfl⟩:∃n:Nat,set=n:=⟨set.toNat,by omega⟩;exact zl8 c n (by omega) w1
 have HNO:Hid (¬(0≤set∧set≤6)→∀c:UInt8,z0n set c.toNat=false):=by
  intro h c;unfold z0n;rw[Bool.and_eq_false_iff];left;rw[Bool.and_eq_false_iff];by_cases h0:0≤set
  ·right;rw[decide_eq_false_iff_not];omega
  ·left;rw[decide_eq_false_iff_not];omega
 have HE:Hid (∀k,(esc set (l.take k)).length≤3*s.size):=by
  intro k;have h1:=zn4 set (l.take k);have h2:(l.take k).length≤l.length:=by rw[List.length_take];omega
  omega
 clear hl;go_enter func40,ntmps40;go_wp2_with fail;go_loopw [5,6] (fun o i wr=>∃k:Nat,k≤s.size∧i=.int .i64 k∧o=.string ⟨(esc set (l.take k)).toArray⟩∧Below w.heap.size w wr) (fun _ i _=>s.size-(intOf i).toNat)
 case atStart=>exact⟨0,Nat.zero_le _,rfl,rfl,Below.refl _ _⟩
 case round=>
  obtain⟨k,hk,rfl,rfl,hb⟩:=hrel;have HB:=hI hb;clear hb;by_cases hlt:k<s.size
  ·have h2:k<l.length:=by omega
   have hg:=HG k hlt h2;have HNX:Hid (esc set (l.take (k+1))=esc set (l.take k)++z43 set s[k]):=(by show _=_;rw[zl9 set l k h2,hg]);have hel:=HE k;have hsz:(⟨(esc set (l.take k)).toArray⟩:ByteArray).size=(esc set (l.take k)).length:=z07 _;have hmem:=HME s[k] wr;have HMEM:Hid _:=hmem;have HES:=hI (zkl s[k] wr);have HX:=hI (z59 s k hlt);have hnof:=HNO;have HNOF:=hI fun h=>HNO h s[k];have HA1:Hid (z0n set s[k].toNat=true→(⟨(esc set (l.take k)).toArray⟩:ByteArray)++⟨#[37,z0T (s[k].toNat/16),z0T (s[k].toNat%16)]⟩=⟨(esc set (l.take (k+1))).toArray⟩):=(by intro h;rw[HNX.out];unfold z43;rw[if_pos h];exact z0G _ [37,z0T (s[k].toNat/16),z0T (s[k].toNat%16)]);have HA2:Hid (z0n set s[k].toNat=false→(⟨(esc set (l.take k)).toArray⟩:ByteArray)++s.extract k (k+1)=⟨(esc set (l.take (k+1))).toArray⟩):=(by intro h;rw[HNX.out,HX.out];unfold z43;rw[if_neg (by simp[h])];exact z0G _ [s[k]]);have zx:(s.extract k (k+1)).size=1:=(by rw[HX.out];rfl);have ze:(⟨#[37,z0T (s[k].toNat/16),z0T (s[k].toNat%16)]⟩:ByteArray).size=3:=rfl;generalize(⟨#[37,z0T (s[k].toNat/16),z0T (s[k].toNat%16)]⟩:ByteArray)=ex at*;generalize(⟨(esc set (l.take k)).toArray⟩:ByteArray)=acc at*;have g1:∀W:World,(Op.stringOp .add acc ex).run prog W=.ok (.string (acc++ex)) W:=fun W=>run_string_add_sum W _ _ (by omega);have g2:∀W:World,(Op.stringOp .add acc (s.extract k (k+1))).run prog W=.ok (.string (acc++s.extract k (k+1))) W:=fun W=>run_string_add_sum W _ _ (by omega);clear hg hel hsz hmem hnof zx ze HG HNX HE HX;have hk0:(0:Int)≤(k:Int):=(by omega);have hk1:(k:Int)<(s.size:Int):=(by omega);by_cases h0:0≤set
   ·by_cases h6:set≤6
    ·have HM2:Hid _:=HMEM h0 h6
     cases hh:z0n set s[k].toNat with
     |true=>
      have HA:Hid _:=HA1 hh;rw[hh] at HM2;clear HA1 HA2 HMEM HNOF hh;go_wp2_with fail;refine Calls.mono HM2 ?_;rintro e W0 ⟨rfl,hw0⟩;obtain rfl:=hw0.symm;go_wp2_with fail;refine HES.out.mono ?_;rintro e w2 ⟨rfl,b2⟩;have HB2:=hI (HB.out.trans (b2.mono HB.out.size));clear b2;go_wp2;go_roundw
      case rel=>exact⟨k+1,by omega,by go_num,congrArg Value.string HA,HB2⟩
      case measure=>(simp[intOf];try omega)
     |false=>
      have HA:Hid _:=HA2 hh;rw[hh] at HM2;clear HA1 HA2 HMEM HNOF hh;go_wp2_with fail;refine Calls.mono HM2 ?_;rintro e W0 ⟨rfl,hw0⟩;obtain rfl:=hw0.symm;go_wp2;go_roundw
      case rel=>exact⟨k+1,by omega,by go_num,congrArg Value.string HA,HB⟩
      case measure=>(simp[intOf];try omega)
    ·have HA:Hid _:=HA2 (HNOF (by omega))
     clear HA1 HA2 HMEM HNOF;go_wp2;go_roundw
     case rel=>exact⟨k+1,by omega,by go_num,congrArg Value.string HA,HB⟩
     case measure=>(simp[intOf];try omega)
   ·have HA:Hid _:=HA2 (HNOF (by omega))
    clear HA1 HA2 HMEM HNOF;go_wp2;go_roundw
    case rel=>exact⟨k+1,by omega,by go_num,congrArg Value.string HA,HB⟩
    case measure=>(simp[intOf];try omega)
  ·have HQ:Hid (l.take k=l):=List.take_of_length_le (by omega)
   rw[HQ.out];go_wp2;go_ret;exact⟨rfl,HB⟩
theorem z4n (c:UInt8) (h:z0c c.toNat<16):z1Y c=z0c c.toNat∧0≤z1Y c∧z1Y c≤15:=by have:=z1q c.toNat;unfold z1Y;rw[if_pos h];omega
theorem z7x (c:UInt8) (h:¬z0c c.toNat<16):z1Y c= -1:=by unfold z1Y;rw[if_neg h]
theorem zjt (a b:UInt8) (ha:z0c a.toNat<16) (hb:z0c b.toNat<16):((z49 a b).toNat:Int)=16*z1Y a+z1Y b:=by have h1:=z4n a ha;have h2:=z4n b hb;have ra:=z1q a.toNat;have rb:=z1q b.toNat;rw[h1.1,h2.1];unfold z49;have e:(16*(z0c a.toNat).toNat+(z0c b.toNat).toNat).toUInt8.toNat=(16*(z0c a.toNat).toNat+(z0c b.toNat).toNat)%256:=rfl;rw[e];omega
theorem zju (l:List UInt8) (k:Nat) (h:k<l.length):l.drop k=l[k]::l.drop (k+1):=List.drop_eq_getElem_cons h
theorem z9F (c a b:UInt8) (r:List UInt8):z0t (c::a::b::r)=if c=37 then(if z1u (a::b::r) then z49 a b::z0t r else 37::z0t (a::b::r)) else c::z0t (a::b::r):=by rw[z0t]
theorem zjv (c a b:UInt8) (r:List UInt8) (hc:c=37) (ha:z0c a.toNat<16) (hb:z0c b.toNat<16):z0t (c::a::b::r)=z49 a b::z0t r:=by
 have:z1u (a::b::r)=true:=by simp[z1u,ha,hb]
 rw[z9F,if_pos hc,if_pos this]
theorem zhY (c a b:UInt8) (r:List UInt8) (h:¬(z0c a.toNat<16∧z0c b.toNat<16)):z0t (c::a::b::r)=c::z0t (a::b::r):=by
 have:¬z1u (a::b::r)=true:=by intro h2;simp only[z1u,Bool.and_eq_true,decide_eq_true_eq] at h2;exact h h2
 rw[z9F];split
 ·rename_i hc
  first|rw[if_neg this,hc]|rw[hc]
 ·rfl
theorem zdb (c:UInt8) (l:List UInt8) (h:c≠37∨l.length<2):z0t (c::l)=c::z0t l:=by
 rcases h with h|h
 ·exact z3M c l h
 ·match l,h with
  | [],_=>rfl
  | [a],_=>rfl
theorem zp4 (w:World) (a:Value) (t:TypeId) (i:Nat):(w.alloc (.cells #[a] t)).cell? ⟨w.heap.size,i,none⟩=(#[a]:Array Value)[i]?:=World.cell?_alloc_new w #[a] t i
theorem zo0 (x:UInt8) (n:Int) (hx:(x.toNat:Int)=n) (w:World):(convert 47 9 (.slice (some ⟨w.heap.size,0,none⟩) 1 1)).run prog (w.alloc (.cells #[.int .u8 n] 5))=.ok (.string ⟨#[x]⟩) (w.alloc (.cells #[.int .u8 n] 5)):=
 run_convert_bytes_back _ 47 9 5 ⟨w.heap.size,0,none⟩ 1 [x] underlying47 underlying5 underlying9 (fun i hi=>by
  match i,hi with
  |0,_=>
   refine(zp4 w _ _ 0).trans ?_;show some (Value.int .u8 n)=some (Value.int .u8 (x.toNat:Int));rw[hx])
theorem zjw (s:ByteArray) (w:World) (hs:s.size≤35184372088832):CB 42 #[.string s] w (.string ⟨(z0t s.data.toList).toArray⟩):=by
 obtain⟨l,hl⟩:=z09 s.data.toList;have hlen:l.length=s.size:=by rw[hl,Array.length_toList];rfl
 have HG:Hid (∀(k:Nat) (h:k<s.size),l.drop k=s[k]::l.drop (k+1)):=by intro k h;subst hl;rw[zju _ k (by rw[Array.length_toList];exact h)];rfl
 have HLN:=hI hlen;rw[←hl];have HHX:=hI fun c w1=>zdY c w1;clear hl hlen;go_enter func42,ntmps42;go_wp2_with fail;go_loopw [3,4] (fun o i wr=>∃(k:Nat) (a:List UInt8),k≤s.size∧i=.int .i64 k∧o=.string ⟨a.toArray⟩∧a.length≤k∧a++z0t (l.drop k)=z0t l∧Below w.heap.size w wr) (fun _ i _=>s.size-(intOf i).toNat)
 case atStart=>exact⟨0,[],Nat.zero_le _,rfl,rfl,by simp,rfl,Below.refl _ _⟩
 case round=>
  obtain⟨k,a,hk,rfl,rfl,hal,hrest,hb⟩:=hrel;have HB:=hI hb;have HRE:=hI hrest;clear hb hrest;by_cases hlt:k<s.size
  ·have HD:=hI (HG.out k hlt)
   have HX:=hI (z59 s k hlt);have HA2:Hid ((⟨a.toArray⟩:ByteArray)++s.extract k (k+1)=⟨(a++ [s[k]]).toArray⟩):=(by show _=_;rw[HX.out];exact z0G a [s[k]]);have HONE:Hid (z0t (s[k]::l.drop (k+1))=s[k]::z0t (l.drop (k+1))→(a++ [s[k]])++z0t (l.drop (k+1))=z0t l):=(by intro h;rw[←HRE.out,HD.out,h];simp);have hsz:(⟨a.toArray⟩:ByteArray).size=a.length:=z07 _;have zx:(s.extract k (k+1)).size=1:=(by rw[HX.out];rfl);have g2:∀W:World,(Op.stringOp .add ⟨a.toArray⟩ (s.extract k (k+1))).run prog W=.ok (.string (⟨a.toArray⟩++s.extract k (k+1))) W:=fun W=>run_string_add_sum W _ _ (by omega);have hk0:(0:Int)≤(k:Int):=(by omega);have hk1:(k:Int)<(s.size:Int):=(by omega);by_cases hc:s[k]=37
   ·have hcb:((s[k].toNat:Int)==37)=true:=by rw[hc];rfl
    by_cases h2:k+2<s.size
    ·have h2i:(k:Int)+2<(s.size:Int):=by omega
     have HD1:=hI (HG.out (k+1) (by omega));have HD2:=hI (HG.out (k+2) h2);have HH1:Hid (C0 66 #[.int .u8 s[k+1].toNat] wr (.int .i64 (z1Y s[k+1]))):=HHX.out _ wr;have HH2:Hid (C0 66 #[.int .u8 s[k+2].toNat] wr (.int .i64 (z1Y s[k+2]))):=HHX.out _ wr;have hw1:wrap64 ((k:Int)+1)=(k:Int)+1:=(by unfold wrap64;omega);have hw2:wrap64 ((k:Int)+2)=(k:Int)+2:=(by unfold wrap64;omega);by_cases hx:z0c s[k+1].toNat<16∧z0c s[k+2].toNat<16
     ·obtain⟨hx1,hx2⟩:=hx
      have hr1:=(z4n _ hx1).2;have hr2:=(z4n _ hx2).2;have hpv:=zjt s[k+1] s[k+2] hx1 hx2;have HFIN:Hid ((a++ [z49 s[k+1] s[k+2]])++z0t (l.drop (k+3))=z0t l):=(by show _=_;rw[←HRE.out,HD.out,HD1.out,HD2.out,zjv _ _ _ _ hc hx1 hx2];simp);have HA1:=hI (z0G a [z49 s[k+1] s[k+2]]);generalize z49 s[k+1] s[k+2]=x at*;generalize z1Y s[k+1]=r1 at*;generalize z1Y s[k+2]=r2 at*;have HCV:Hid _:=zo0 x (16*r1+r2) hpv wr;have G1:Hid (∀W:World,(Op.stringOp .add ⟨a.toArray⟩ ⟨#[x]⟩).run prog W=.ok (.string (⟨a.toArray⟩++⟨#[x]⟩)) W):=fun W=>run_string_add_sum W _ _ (by rw[hsz];show _+1≤_;omega);have HR1:=hI hr1;have HR2:=hI hr2;clear hr1 hr2;clear hsz zx hc hx1 hx2 HONE HA2;clear hpv;go_wp2_with fail;refine HH1.out.mono ?_;rintro e W0 ⟨rfl,hw0⟩;obtain rfl:=hw0.symm;go_wp2_with fail;refine HH2.out.mono ?_;rintro e W0 ⟨rfl,hw0⟩;obtain rfl:=hw0.symm;obtain⟨hr1a,hr1b⟩:=HR1.out;obtain⟨hr2a,hr2b⟩:=HR2.out;have hcv:=HCV.out;have g1:=G1.out;go_wp2;go_roundw
      case rel=>exact⟨k+3,a++ [x],by omega,by go_num,congrArg Value.string HA1.out,by simp;omega,HFIN.out,HB.out.alloc HB.out.size _⟩
      case measure=>(simp[intOf];try omega)
     ·have HF:Hid _:=HONE.out (by rw[HD1.out,HD2.out];exact zhY _ _ _ _ hx)
      have hrr:¬0≤z1Y s[k+1]∨(0≤z1Y s[k+1]∧¬0≤z1Y s[k+2]):=by
       by_cases hx1:z0c s[k+1].toNat<16
       ·right
        refine⟨(z4n _ hx1).2.1,?_⟩;rw[z7x _ (fun h=>hx ⟨hx1,h⟩)];decide
       ·left
        rw[z7x _ hx1];decide
      generalize z1Y s[k+1]=r1 at*;generalize z1Y s[k+2]=r2 at*;clear hsz zx hc hx HONE;rcases hrr with hr|⟨hr,hr2⟩;all_goals
       go_wp2_with fail;refine HH1.out.mono ?_;rintro e W0 ⟨rfl,hw0⟩;obtain rfl:=hw0.symm;go_wp2_with fail;refine HH2.out.mono ?_;rintro e W0 ⟨rfl,hw0⟩;obtain rfl:=hw0.symm;go_wp2;go_roundw
       case rel=>exact⟨k+1,a++ [s[k]],by omega,by go_num,congrArg Value.string HA2.out,by simp;omega,HF.out,HB.out⟩
       case measure=>(simp[intOf];try omega)
    ·have h2i:¬(k:Int)+2<(s.size:Int):=by omega
     have HF:Hid _:=HONE.out (zdb _ _ (Or.inr (by have:=HLN.out;rw[List.length_drop];omega)));clear hsz zx hc;go_wp2;go_roundw
     case rel=>exact⟨k+1,a++ [s[k]],by omega,by go_num,congrArg Value.string HA2.out,by simp;omega,HF.out,HB.out⟩
     case measure=>(simp[intOf];try omega)
   ·have hcb:((s[k].toNat:Int)==37)=false:=by
     rw[beq_eq_false_iff_ne];intro h;exact hc (UInt8.toNat_inj.1 (by show s[k].toNat=37;omega))
    have HF:Hid _:=HONE.out (zdb _ _ (Or.inl hc));clear hsz zx;go_wp2;go_roundw
    case rel=>exact⟨k+1,a++ [s[k]],by omega,by go_num,congrArg Value.string HA2.out,by simp;omega,HF.out,HB.out⟩
    case measure=>(simp[intOf];try omega)
  ·have HQ:Hid (a=z0t l):=by
    show _=_;have h:=HRE.out;rw[List.drop_eq_nil_of_le (by have:=HLN.out;omega)] at h;simpa[z0t] using h
   go_wp2;go_ret;rw[←HQ.out];exact⟨rfl,HB.out⟩
theorem zla:∀c:Fin 256,((Lib.lowerB c.val.toUInt8).toNat:Int)=if 65≤c.val∧c.val≤90 then(c.val:Int)+32 else(c.val:Int):=by decide+kernel
theorem zlb (c:UInt8):((Lib.lowerB c).toNat:Int)=if 65≤c.toNat∧c.toNat≤90 then(c.toNat:Int)+32 else(c.toNat:Int):=by
 have h:=zla ⟨c.toNat,c.toNat_lt⟩;simp only at h;have e:c.toNat.toUInt8=c:=by simp
 rw[e] at h;exact h
theorem zm8 (s:ByteArray) (w:World) (hs:s.size≤35184372088832):CB 118 #[.string s] w (.string ⟨(Lib.toLowerA s.data.toList).toArray⟩):=by
 obtain⟨l,hl⟩:=z09 s.data.toList;have hlen:l.length=s.size:=by rw[hl,Array.length_toList];rfl
 have HG:Hid (∀(k:Nat) (h:k<s.size) (h2:k<l.length),l[k]=s[k]):=by intro k h h2;subst hl;simp;rfl
 rw[←hl];clear hl;go_enter func118,ntmps118;go_wp2_with fail;go_loopw [3,4] (fun o i wr=>∃k:Nat,k≤s.size∧i=.int .i64 k∧o=.string ⟨(Lib.toLowerA (l.take k)).toArray⟩∧Below w.heap.size w wr) (fun _ i _=>s.size-(intOf i).toNat)
 case atStart=>exact⟨0,Nat.zero_le _,rfl,rfl,Below.refl _ _⟩
 case round=>
  obtain⟨k,hk,rfl,rfl,hb⟩:=hrel;have HB:=hI hb;clear hb;by_cases hlt:k<s.size
  ·have h2:k<l.length:=by omega
   have hg:=HG k hlt h2;have HA:Hid ((⟨(Lib.toLowerA (l.take k)).toArray⟩:ByteArray)++⟨#[Lib.lowerB s[k]]⟩=⟨(Lib.toLowerA (l.take (k+1))).toArray⟩):=(by show _=_;rw[z3U l k h2,hg];unfold Lib.toLowerA;rw[List.map_append];exact z0G _ [Lib.lowerB s[k]]);have hsz:(⟨(Lib.toLowerA (l.take k)).toArray⟩:ByteArray).size≤s.size:=(by rw[z07];unfold Lib.toLowerA;rw[List.length_map,List.length_take];omega);have hlv:=zlb s[k];have hcl:=s[k].toNat_lt;generalize(⟨(Lib.toLowerA (l.take k)).toArray⟩:ByteArray)=acc at*;have G1:Hid (∀W:World,(Op.stringOp .add acc ⟨#[Lib.lowerB s[k]]⟩).run prog W=.ok (.string (acc++⟨#[Lib.lowerB s[k]]⟩)) W):=fun W=>run_string_add_sum W _ _ (by show _+1≤_;omega);clear hsz hg HG;by_cases hc:65≤s[k].toNat∧s[k].toNat≤90
   ·rw[if_pos hc] at hlv
    have hc1:(65:Int)≤(s[k].toNat:Int):=(by omega);have hc2:(s[k].toNat:Int)≤90:=(by omega);have hcv:=zo0 (Lib.lowerB s[k]) ((s[k].toNat:Int)+32) hlv wr;have g1:=G1.out;generalize Lib.lowerB s[k]=x at*;clear hlv hc;go_wp2;go_roundw
    case rel=>exact⟨k+1,by omega,by go_num,congrArg Value.string HA,HB.out.alloc HB.out.size _⟩
    case measure=>(simp[intOf];try omega)
   ·rw[if_neg hc] at hlv
    have hcv:=zo0 (Lib.lowerB s[k]) (s[k].toNat:Int) hlv wr;have g1:=G1.out;have hcc:¬(65:Int)≤(s[k].toNat:Int)∨((65:Int)≤(s[k].toNat:Int)∧¬(s[k].toNat:Int)≤90):=(by omega);generalize Lib.lowerB s[k]=x at*;clear hlv hc;rcases hcc with hc1|⟨hc1,hc2⟩;all_goals
     go_wp2;go_roundw
     case rel=>exact⟨k+1,by omega,by go_num,congrArg Value.string HA,HB.out.alloc HB.out.size _⟩
     case measure=>(simp[intOf];try omega)
  ·have HQ:Hid (l.take k=l):=List.take_of_length_le (by omega)
   rw[HQ.out];go_wp2;go_ret;exact⟨rfl,HB⟩
theorem z1Z (s:ByteArray) (i j:Nat):(s.extract i j)=⟨((s.data.toList.drop i).take (j- i)).toArray⟩:=by apply ByteArray.ext;apply Array.ext';rw[ByteArray.data_extract,Array.toList_extract,List.extract_eq_take_drop]
theorem zlc (c:UInt8) (l:List UInt8) (f i:Nat) (hf:f≤i) (hi:i<l.length) (hn:∀(j:Nat) (hj:j<l.length),f≤j→j<i→¬l[j]=c) (hc:l[i]=c):z0a c (l.drop f)=(l.drop f).take (i- f)::z0a c (l.drop (i+1)):=by
 have e:l.drop f=(l.drop f).take (i- f)++c::l.drop (i+1):=by
  conv=>lhs;rw[←List.take_append_drop (i- f) (l.drop f)]
  rw[List.drop_drop,show f+(i- f)=i by omega,List.drop_eq_getElem_cons hi,hc]
 rw[e,z2W c _ _ (fun x hx=>?_)]
 ·rw[←e]
 ·rw[List.mem_iff_getElem?] at hx
  obtain⟨j,hj⟩:=hx;rw[List.getElem?_take] at hj;split at hj
  ·rename_i hj2
   rw[List.getElem?_drop] at hj;have hj3:=List.getElem?_eq_some_iff.1 hj;obtain⟨h1,h2⟩:=hj3;intro hx2;exact hn (f+j) h1 (by omega) (by omega) (h2.trans hx2)
  ·cases hj
theorem zhZ (c:UInt8) (l:List UInt8) (f:Nat) (hn:∀(j:Nat) (hj:j<l.length),f≤j→¬l[j]=c):z0a c (l.drop f)=[l.drop f]:=by refine z3L c _ (fun x hx=>?_);rw[List.mem_iff_getElem?] at hx;obtain⟨j,hj⟩:=hx;rw[List.getElem?_drop] at hj;obtain⟨h1,h2⟩:=List.getElem?_eq_some_iff.1 hj;intro hx2;exact hn (f+j) h1 (by omega) (h2.trans hx2)
theorem zm9 (s:ByteArray) (c:UInt8) (w:World) (hs:s.size≤4294967281):Calls prog 78 #[.string s,.int .u8 c.toNat] w fun e w'=>(∃v,e=.returned v∧w'.ownsRow w.heap.size 9 1 v (z0a c s.data.toList).length (z1J (z0a c s.data.toList)))∧Below w.heap.size w w':=by
 obtain⟨i0,hi,hz0,hz1,hz2⟩:=info_parts zox;obtain⟨l,hl⟩:=z09 s.data.toList;have hlen:l.length=s.size:=by rw[hl,Array.length_toList];rfl
 have HG:Hid (∀(k:Nat) (h:k<s.size) (h2:k<l.length),l[k]=s[k]):=by intro k h h2;subst hl;simp;rfl
 have HXT:Hid (∀i j:Nat,s.extract i j=⟨((l.drop i).take (j- i)).toArray⟩):=by intro i j;rw[hl];exact z1Z s i j
 rw[←hl];have HLN:=hI hlen;clear hl;go_enter func78,ntmps78;go_wp2_with fail;go_loopw [5,6,7] (fun v f i wr=>∃(a k:Nat) (ps:List (List UInt8)),a≤k∧k≤s.size∧ps.length≤a∧f=.int .i64 a∧i=.int .i64 k∧wr.ownsRow w.heap.size 9 1 v ps.length (z1J ps)∧ps++z0a c (l.drop a)=z0a c l∧(∀(j:Nat) (hj:j<l.length),a≤j→j<k→¬l[j]=c)∧Below w.heap.size w wr) (fun _ _ i _=>s.size-(intOf i).toNat)
 case atStart=>exact⟨0,0,[],Nat.le_refl _,Nat.zero_le _,Nat.le_refl _,rfl,rfl,⟨rfl,Or.inl ⟨rfl,rfl⟩⟩,rfl,fun j hj h1 h2=>by omega,Below.refl _ _⟩
 case round=>
  obtain⟨a,k,ps,hak,hk,hpl,rfl,rfl,hown,hrest,hno,hb⟩:=hrel;obtain⟨sp,cap,rfl,_⟩:=z1t hown;have HB:=hI hb;have HO:=hI hown;have HRE:=hI hrest;have HNO:=hI hno;have hbz:=hb.size;clear hb hown hrest hno;by_cases hlt:k<s.size
  ·have h2:k<l.length:=by omega
   have hg:=HG k hlt h2;by_cases hc:s[k]=c
   ·have hc2:((s[k].toNat:Int)==(c.toNat:Int))=true:=by rw[hc];simp
    have HX:Hid _:=HXT a k;have HFI:Hid ((ps++ [(l.drop a).take (k- a)])++z0a c (l.drop (k+1))=z0a c l):=(by show _=_;rw[←HRE.out,zlc c l a k hak h2 HNO.out (hg.trans hc)];simp);generalize(l.drop a).take (k- a)=pc at*;obtain⟨xb,hxb⟩:=z09 (s.extract a k:ByteArray);have HXB:Hid _:=hxb.trans HX;have hxb2:=hxb.symm;have hak2:(a:Int)≤(k:Int):=(by omega);have hks:(k:Int)≤(s.size:Int):=(by omega);have ha0:(0:Int)≤(a:Int):=(by omega);have HO4:=HO.out.alloc (.cells #[.string xb] 9);clear hg hxb HX hc;go_wp2_with(at_builtin;refine wpList_append_lies _ rfl _ _ 28 rfl w.heap.size 9 i0 (.string ⟨#[]⟩) 1 16 underlying28 hi hz0 hz1 hz2 rfl (by decide) _ _ _ rfl HO4 ⟨wr.heap.size,0,none⟩ 1 1 [.string xb] rfl rfl ?c1 ?c2 (by decide) ?c3 ?c4 ?c5 _ rfl ?_)
    case c1=>
     intro j u hj;match j,hj with
     |0,hj=>simp at hj;subst hj;exact World.cell?_alloc_new wr #[.string xb] 9 0
    case c2=>intro u hu;simp at hu;subst hu;rfl
    case c3=>unfold maxLen;omega
    case c4=>omega
    case c5=>simp;omega
    intro g cap3 w5 hown' hgrow hat hglt;have HOW:=hI hown';have HBN:Hid _:=(HB.out.alloc hbz _).grown hgrow (by simp;omega) (fun k hk=>(HO4.lt k hk).1);clear hown' hgrow HO4 hat;go_wp2;go_roundw
    case rel=>refine⟨k+1,k+1,ps++ [pc],Nat.le_refl _,by omega,by simp;omega,by go_num,by go_num,?_,HFI,fun j hj h1 h2=>by omega,HBN⟩;rw[List.length_append,z4S];have e:z1J [pc]=[.string xb]:=(by rw[HXB.out];rfl);rw[e];exact HOW
    case measure=>(simp[intOf];try omega)
   ·have hc2:((s[k].toNat:Int)==(c.toNat:Int))=false:=by
     rw[beq_eq_false_iff_ne];intro h;exact hc (UInt8.toNat_inj.1 (by omega))
    have HNX:Hid (∀(j:Nat) (hj:j<l.length),a≤j→j<k+1→¬l[j]=c):=by
     intro j hj h1 h3;by_cases e:j=k
     ·subst e;rw[hg];exact hc
     ·exact HNO j hj h1 (by omega)
    clear hg;go_wp2;go_roundw
    case rel=>exact⟨a,k+1,ps,by omega,by omega,hpl,rfl,by go_num,HO,HRE,HNX,HB⟩
    case measure=>(simp[intOf];try omega)
  ·have hke:k=s.size:=by omega
   subst hke;have HFI:Hid (ps++ [l.drop a]=z0a c l):=by show _=_;rw[←HRE.out,zhZ c l a (fun j hj h1=>HNO.out j hj h1 (by omega))]
   have HX:Hid (s.extract a s.size=⟨(l.drop a).toArray⟩):=(by show _=_;rw[HXT.out a s.size,List.take_of_length_le (by rw[List.length_drop];omega)]);generalize l.drop a=pc at*;obtain⟨xb,hxb⟩:=z09 (s.extract a s.size:ByteArray);have HXB:Hid _:=hxb.trans HX;have hxb2:=hxb.symm;have hak2:(a:Int)≤(s.size:Int):=(by omega);have ha0:(0:Int)≤(a:Int):=(by omega);have HO4:=HO.out.alloc (.cells #[.string xb] 9);clear hxb HX;go_wp2_with(at_builtin;refine wpList_append_lies _ rfl _ _ 28 rfl w.heap.size 9 i0 (.string ⟨#[]⟩) 1 16 underlying28 hi hz0 hz1 hz2 rfl (by decide) _ _ _ rfl HO4 ⟨wr.heap.size,0,none⟩ 1 1 [.string xb] rfl rfl ?c1 ?c2 (by decide) ?c3 ?c4 ?c5 _ rfl ?_)
   case c1=>
    intro j u hj;match j,hj with
    |0,hj=>simp at hj;subst hj;exact World.cell?_alloc_new wr #[.string xb] 9 0
   case c2=>intro u hu;simp at hu;subst hu;rfl
   case c3=>unfold maxLen;omega
   case c4=>omega
   case c5=>simp;omega
   intro g cap3 w5 hown' hgrow hat hglt;have HOW:=hI hown';have HBN:Hid _:=(HB.out.alloc hbz _).grown hgrow (by simp;omega) (fun k hk=>(HO4.lt k hk).1);clear hown' hgrow HO4 hat;go_wp2;go_ret;refine⟨⟨_,rfl,?_⟩,HBN⟩;rw[←HFI.out,List.length_append,z4S];have e:z1J [pc]=[.string xb]:=(by rw[HXB.out];rfl);rw[e];exact HOW
theorem zn5:∀c:Fin 256,decide (z0c c.val<10)=decide (48≤c.val∧c.val≤57):=by decide+kernel
theorem zjx (c:UInt8):decide (z0c c.toNat<10)=refDigit c:=zn5 ⟨c.toNat,c.toNat_lt⟩
theorem zld (l:List UInt8):Moor.allB 10 l=l.all refDigit:=by unfold Moor.allB;congr 1;funext c;exact zjx c
theorem zgj (l:List UInt8):z1R l=if l=[] then false else if l.all refDigit then true else if Lib.hasPrefix l [48,120] then Moor.allB 16 (l.drop 2) else false:=by
 unfold z1R;by_cases h0:l=[]
 ·subst h0;rfl
 ·rw[if_neg h0]
  by_cases hp:Lib.hasPrefix l [48,120]=true
  ·have hx:¬l.all refDigit=true:=by
    intro h;match l,hp,h with
    | [],hp,_=>simp[Lib.hasPrefix] at hp
    | [a],hp,_=>simp[Lib.hasPrefix] at hp
    |a::b::r,hp,h=>simp[Lib.hasPrefix] at hp;rw[List.all_eq_true] at h;have:=h b (by simp);rw[←hp.2] at this;exact absurd this (by decide)
   rw[if_pos hp,if_neg hx,if_pos hp]
  ·rw[if_neg hp,zld]
   have he:l.isEmpty=false:=(by cases l with|nil=>exact absurd rfl h0|cons=>rfl);rw[he];by_cases ha:l.all refDigit=true
   ·rw[if_pos ha,ha];rfl
   ·rw[if_neg ha,if_neg hp]
    have:l.all refDigit=false:=by simpa using ha
    rw[this];rfl
theorem zko (s:ByteArray) (w:World) (hs:s.size≤35184372088832):Calls Tryz.prog 119 #[.string s] w fun e w'=>e=.returned (.bool (z1R s.data.toList))∧w'=w:=by
 obtain⟨l,hl⟩:=z09 s.data.toList;have hlen:l.length=s.size:=by rw[hl,Array.length_toList];rfl
 have HG:Hid (∀(k:Nat) (h:k<s.size) (h2:k<l.length),l[k]=s[k]):=by intro k h h2;subst hl;simp;rfl
 have HXT:Hid (∀i j:Nat,s.extract i j=⟨((l.drop i).take (j- i)).toArray⟩):=by intro i j;rw[hl];exact z1Z s i j
 have hemp:s.toList.isEmpty=l.isEmpty:=by rw[hl,Lib.toList_data]
 rw[←hl,zgj];have HDI:=hI fun c w1=>zbK c w1;have HHX:=hI fun c w1=>zdY c w1;have HLN:=hI hlen;clear hl;by_cases h0:l=[]
 ·rw[if_pos h0]
  rw[h0] at hemp;have hemp2:s.toList.isEmpty=true:=hemp;clear hemp;go_enter Tryz.func119,Tryz.ntmps119;go_wp2;go_ret;exact⟨rfl,rfl⟩
 ·rw[if_neg h0]
  have he:l.isEmpty=false:=by cases l with|nil=>exact absurd rfl h0|cons=>rfl
  rw[he] at hemp;suffices key:∀res:Bool,Hid (l.all refDigit=true→res=true)→Hid (l.all refDigit=false→res=if Lib.hasPrefix l [48,120] then Moor.allB 16 (l.drop 2) else false)→Calls Tryz.prog 119 #[.string s] w fun e w'=>e=.returned (.bool res)∧w'=w from key _ (fun h=>if_pos h) (fun h=>if_neg (by simp[h]))
  intro res HR1 HR2;go_enter Tryz.func119,Tryz.ntmps119;go_wp2_with fail;go_loopw [3,4] (fun o i wr=>∃k:Nat,k≤s.size∧i=.int .i64 k∧o=.bool ((l.take k).all refDigit)∧wr=w) (fun _ i _=>s.size-(intOf i).toNat)
  case atStart=>exact⟨0,Nat.zero_le _,rfl,rfl,rfl⟩
  case round=>
   obtain⟨k,hk,rfl,rfl,hwr⟩:=hrel;obtain rfl:=hwr.symm;by_cases hlt:k<s.size
   ·have h2:k<l.length:=by omega
    have hg:=HG.out k hlt h2;have HNX:Hid ((l.take (k+1)).all refDigit=((l.take k).all refDigit&&refDigit s[k])):=(by show _=_;rw[z3U l k h2,List.all_append,hg];simp);have HD:Hid _:=HDI.out s[k] w;generalize(l.take k).all refDigit=ac at*;generalize refDigit s[k]=d at*;clear hg;go_wp2_with fail;refine Calls.mono HD.out ?_;rintro e W0 ⟨rfl,hw0⟩;obtain rfl:=hw0.symm;cases ac with
    |true=>
     go_wp2;go_roundw
     case rel=>exact⟨k+1,by omega,by go_num,by rw[HNX.out];rfl,trivial⟩
     case measure=>(simp[intOf];try omega)
    |false=>
     go_wp2;go_roundw
     case rel=>exact⟨k+1,by omega,by go_num,by rw[HNX.out];rfl,trivial⟩
     case measure=>(simp[intOf];try omega)
   ·have hte:l.take k=l:=List.take_of_length_le (by omega)
    rw[hte];clear hte;cases hall:l.all refDigit with
    |true=>have hres:=HR1.out hall;subst hres;go_wp2;go_ret;exact⟨rfl,rfl⟩
    |false=>
     have hres:=HR2.out hall;have HRES:Hid _:=hres;clear hres HR1 HR2 hall HDI;by_cases h2:s.size<2
     ·have hi2:(s.size:Int)<2:=by omega
      have HRF:Hid (res=false):=by
       show _=_;rw[HRES.out,if_neg];intro hp;match l,hp,HLN.out with
       | [],hp,_=>simp[Lib.hasPrefix] at hp
       | [a],hp,_=>simp[Lib.hasPrefix] at hp
       |a::b::r,_,hl=>simp at hl;omega
      go_wp2;go_ret;rw[HRF.out];exact⟨rfl,rfl⟩
     ·have hi2:¬(s.size:Int)<2:=by omega
      have hi3:(2:Int)≤(s.size:Int):=(by omega);have hpx:((s.extract 0 2).toList==[48,120])=Lib.hasPrefix l [48,120]:=by
       rw[HXT.out 0 2,Lib.toList_data];show(List.take 2 (List.drop 0 l)==[48,120])=_;match l,HLN.out with
       | [],hl=>simp at hl;omega
       | [a],hl=>simp at hl;omega
       |a::b::r,_=>
        simp[Lib.hasPrefix];rw[Bool.eq_iff_iff];simp;constructor
        ·rintro⟨rfl,rfl⟩;exact⟨rfl,rfl⟩
        ·rintro⟨rfl,rfl⟩;exact⟨rfl,rfl⟩
      cases hp:Lib.hasPrefix l [48,120] with
      |false=>
       rw[hp] at hpx;have HRF:Hid (res=false):=by show _=_;rw[HRES.out,if_neg (by simp[hp])]
       clear hp;go_wp2;go_ret;rw[HRF.out];exact⟨rfl,rfl⟩
      |true=>
       rw[hp] at hpx;have HRF:Hid (res=Moor.allB 16 (l.drop 2)):=by show _=_;rw[HRES.out,if_pos hp]
       clear hp HRES;go_wp2_with fail;go_loopw [6] (fun i wr=>∃k:Nat,2≤k∧k≤s.size∧i=.int .i64 k∧(∀(j:Nat) (hj:j<l.length),2≤j→j<k→z0c l[j].toNat<16)∧wr=w) (fun i _=>s.size-(intOf i).toNat)
       case atStart=>exact⟨2,Nat.le_refl _,by omega,rfl,fun j hj h1 h2=>by omega,rfl⟩
       case round=>
        obtain⟨k,hk2,hk,rfl,hgood,hwr⟩:=hrel;obtain rfl:=hwr.symm;have HGD:=hI hgood;clear hgood;by_cases hlt:k<s.size
        ·have h2:k<l.length:=by omega
         have hg:=HG.out k hlt h2;have HH:Hid _:=HHX.out s[k] w;by_cases hx:z0c s[k].toNat<16
         ·have hr:=(z4n _ hx).2.1
          have HGN:Hid (∀(j:Nat) (hj:j<l.length),2≤j→j<k+1→z0c l[j].toNat<16):=by
           intro j hj h1 h3;by_cases e:j=k
           ·subst e;rw[hg];exact hx
           ·exact HGD.out j hj h1 (by omega)
          generalize z1Y s[k]=r at*;have hr2:¬r<0:=(by omega);clear hg hx;go_wp2_with fail;refine Calls.mono HH.out ?_;rintro e W0 ⟨rfl,hw0⟩;obtain rfl:=hw0.symm;go_wp2;go_roundw
          case rel=>exact⟨k+1,by omega,by omega,by go_num,HGN.out,trivial⟩
          case measure=>(simp[intOf];try omega)
         ·have hr:=z7x _ hx
          have HRN:Hid (Moor.allB 16 (l.drop 2)=false):=(by show _=_;unfold Moor.allB;rw[Bool.eq_false_iff];intro ha;rw[List.all_eq_true] at ha;have:=ha l[k] (List.mem_of_getElem? (i:=k- 2) (by rw[List.getElem?_drop,show 2+(k- 2)=k by omega];exact List.getElem?_eq_getElem h2));rw[hg] at this;exact hx (by simpa using this));rw[hr] at HH;clear hg hx hr;go_wp2_with fail;refine Calls.mono HH.out ?_;rintro e W0 ⟨rfl,hw0⟩;obtain rfl:=hw0.symm;go_wp2;go_ret;rw[HRF.out,HRN.out];exact⟨rfl,rfl⟩
        ·have HRT:Hid (Moor.allB 16 (l.drop 2)=true):=by
          show _=_;unfold Moor.allB;rw[List.all_eq_true];intro c hc;rw[List.mem_iff_getElem?] at hc;obtain⟨j,hj⟩:=hc;rw[List.getElem?_drop] at hj;obtain⟨h1,h2⟩:=List.getElem?_eq_some_iff.1 hj;have:=HGD.out (2+j) h1 (by omega) (by omega);rw[h2] at this;simpa using this
         go_wp2;go_ret;rw[HRF.out,HRT.out];exact⟨rfl,rfl⟩
end Go.Proofs
