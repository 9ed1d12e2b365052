import Derived.Test.YtkcnageeamappaaGreatDoorXLaid
import Derived.OwnWalk
import Derived.Laws.ResultCell
set_option maxHeartbeats 32000000
set_option maxRecDepth 8000
namespace Go.Moor
open Go
def z1A (n:Nat):UInt8:=if n<10 then(48+n).toUInt8 else(87+n).toUInt8
def z0O (b:Nat):Nat→Nat→List UInt8
 |0,n=>[z1A n]
 |k+1,n=>if n<b then [z1A n] else z0O b k (n/b)++ [z1A (n%b)]
theorem zeF:∀d:Fin 16,z0c (z1A d.val).toNat=d.val:=by decide+kernel
theorem z8M (b m:Int):∀(l r:List UInt8) (a:Int),z0H b m a (l++r)=(z0H b m a l).bind fun x=>z0H b m x r
 | [],r,a=>rfl
 |c::l,r,a=>by
  rw[List.cons_append,z0H,z0H];split
  ·split
   ·exact z8M b m l r _
   ·rfl
  ·rfl
theorem z8t (b m a:Int) (d:Nat) (hd:d<16) (hdb:(d:Int)<b) (hm:a*b+d≤m):z0H b m a [z1A d]=some (a*b+d):=by have h:=zeF ⟨d,hd⟩;simp only at h;unfold z0H;rw[h,if_pos hdb,if_pos hm];rfl
theorem z75 (b:Nat) (m:Int) (hb0:2≤b) (hb:b≤16):∀(k n:Nat),n<b^(k+1)→(n:Int)≤m→z0H b m 0 (z0O b k n)=some (n:Int)
 |0,n,hn,hm=>by
  have hn':n<b:=by simpa using hn
  have:=z8t b m 0 n (by omega) (by omega) (by simpa using hm);simpa[z0O] using this
 |k+1,n,hn,hm=>by
  unfold z0O;split
  ·rename_i h
   have:=z8t b m 0 n (by omega) (by omega) (by simpa using hm);simpa using this
  ·rename_i h
   have hq:n/b<b^(k+1):=(by rw[Nat.div_lt_iff_lt_mul (by omega)];rwa[Nat.pow_succ] at hn);have hqn:n/b≤n:=Nat.div_le_self _ _;rw[z8M,z75 b m hb0 hb k (n/b) hq (by omega)];have hr:n%b<b:=Nat.mod_lt _ (by omega);have e:=Nat.div_add_mod' n b;have e2:((n/b:Nat):Int)*(b:Int)+((n%b:Nat):Int)=(n:Int):=(by rw[←Int.natCast_mul,←Int.natCast_add,e]);show z0H b m ((n/b:Nat):Int) [z1A (n%b)]=_;rw[z8t b m _ (n%b) (by omega) (by omega) (by rw[e2];exact hm),e2]
theorem z76 (b:Nat) (hb0:2≤b):∀(k n:Nat),n<b^(k+1)→∀c∈z0O b k n,∃d,d<b∧c=z1A d
 |0,n,hn,c,hc=>by
  simp[z0O] at hc;exact⟨n,by simpa using hn,hc⟩
 |k+1,n,hn,c,hc=>by
  unfold z0O at hc;split at hc
  ·rename_i h
   simp at hc;exact⟨n,h,hc⟩
  ·have hq:n/b<b^(k+1):=by
    rw[Nat.div_lt_iff_lt_mul (by omega)];rwa[Nat.pow_succ] at hn
   rcases List.mem_append.1 hc with h|h
   ·exact z76 b hb0 k (n/b) hq c h
   ·simp at h
    exact⟨n%b,Nat.mod_lt _ (by omega),h⟩
theorem z4U (b:Nat) (hb0:2≤b):∀(k n:Nat),n<b^(k+1)→∃d r,z0O b k n=z1A d::r∧d<b∧(d=0→n=0)∧(d=0→r=[])
 |0,n,hn=>⟨n,[],rfl,by simpa using hn,fun h=>h,fun _=>rfl⟩
 |k+1,n,hn=>by
  unfold z0O;split
  ·rename_i h
   exact⟨n,[],rfl,h,fun h=>h,fun _=>rfl⟩
  ·rename_i h
   have hq:n/b<b^(k+1):=(by rw[Nat.div_lt_iff_lt_mul (by omega)];rwa[Nat.pow_succ] at hn);have hq1:1≤n/b:=(Nat.le_div_iff_mul_le (by omega)).2 (by omega);obtain⟨d,r,e,hd,h0,_⟩:=z4U b hb0 k (n/b) hq;exact⟨d,r++ [z1A (n%b)],by rw[e];rfl,hd,fun h=>by have:=h0 h;omega,fun h=>by have:=h0 h;omega⟩
def z2Y (r n:Nat):List UInt8:=
 match r with
 |0=>48::120::z0O 16 31 n
 |1=>48::z0O 8 31 n
 |_=>z0O 10 31 n
theorem z3k (b:Nat) (hb:8≤b):4294967296≤b^(31+1):=
 Nat.le_trans (by decide:4294967296≤8^32) (Nat.pow_le_pow_left hb 32)
theorem z9p (m:Int) (c:UInt8) (l:List UInt8) (h:c≠120):z0I m (48::c::l)=z0H 8 m 0 (c::l):=by
 unfold z0I;split
 ·rename_i h';simp at h'
 ·rename_i h';simp at h';exact absurd h'.1 h
 ·rename_i _ h';simp at h';rw[h'.1,h'.2]
 ·rename_i h1 h2;exact absurd rfl (h2 c l)
theorem z77 (m:Int) (c:UInt8) (l:List UInt8) (h:c≠48∨l=[]):z0I m (c::l)=z0H 10 m 0 (c::l):=by
 unfold z0I;split
 ·rename_i h';simp at h'
 ·rename_i h'
  simp at h';rcases h with h|h
  ·exact absurd h'.1 h
  ·rw[h] at h';simp at h'
 ·rename_i _ h'
  simp at h';rcases h with h|h
  ·exact absurd h'.1 h
  ·rw[h] at h';simp at h'
 ·rfl
theorem zbz:∀d:Fin 16,z1A d.val≠120:=by decide+kernel
theorem zcX:∀d:Fin 16,d.val≠0→z1A d.val≠48:=by decide+kernel
theorem z6o (r n:Nat) (m:Int) (hn:n<4294967296) (hm:(n:Int)≤m):z0I m (z2Y r n)=some (n:Int):=by
 match r with
 |0=>show z0I m (48::120::z0O 16 31 n)=_;have e:z0I m (48::120::z0O 16 31 n)=z0H 16 m 0 (z0O 16 31 n):=rfl;rw[e];exact z75 16 m (by omega) (by omega) 31 n (Nat.lt_of_lt_of_le hn (z3k 16 (by omega))) hm
 |1=>show z0I m (48::z0O 8 31 n)=_;obtain⟨d,l,e,hd,_,_⟩:=z4U 8 (by omega) 31 n (Nat.lt_of_lt_of_le hn (z3k 8 (by omega)));have hv:=z75 8 m (by omega) (by omega) 31 n (Nat.lt_of_lt_of_le hn (z3k 8 (by omega))) hm;rw[e] at hv⊢;rw[z9p m _ _ (zbz ⟨d,by omega⟩)];exact hv
 |r+2=>
  show z0I m (z0O 10 31 n)=_;obtain⟨d,l,e,hd,_,hl⟩:=z4U 10 (by omega) 31 n (Nat.lt_of_lt_of_le hn (z3k 10 (by omega)));have hv:=z75 10 m (by omega) (by omega) 31 n (Nat.lt_of_lt_of_le hn (z3k 10 (by omega))) hm;rw[e] at hv⊢;rw[z77 m _ _ (by
   by_cases h0:d=0
   ·exact Or.inr (hl h0)
   ·exact Or.inl (zcX ⟨d,by omega⟩ h0))]
  exact hv
def okT (c:UInt8):Bool:=(48≤c&&c≤57)||(97≤c&&c≤102)||c==120
theorem zmE:∀d:Fin 16,okT (z1A d.val)=true:=by decide+kernel
theorem zmF:∀c:Fin 256,okT c.val.toUInt8=true→z2p c.val.toUInt8=false∧c.val.toUInt8≠37∧c.val.toUInt8≠46∧Lib.lowerB c.val.toUInt8=c.val.toUInt8∧c.val.toUInt8≠91:=by decide+kernel
theorem zcY (c:UInt8) (h:okT c=true):z2p c=false∧c≠37∧c≠46∧Lib.lowerB c=c∧c≠91:=by have:=zmF ⟨c.toNat,c.toNat_lt⟩;simp only[Nat.toUInt8_eq,UInt8.ofNat_toNat] at this;exact this h
theorem zcx (b:Nat) (hb0:2≤b) (hb:b≤16) (k n:Nat) (hn:n<b^(k+1)):∀c∈z0O b k n,okT c=true:=by intro c hc;obtain⟨d,hd,rfl⟩:=z76 b hb0 k n hn c hc;exact zmE ⟨d,by omega⟩
theorem z9q (r n:Nat) (hn:n<4294967296):∀c∈z2Y r n,okT c=true:=by
 intro c hc;match r,hc with
 |0,hc=>
  rcases List.mem_cons.1 hc with rfl|hc
  ·decide
  ·rcases List.mem_cons.1 hc with rfl|hc
   ·decide
   ·exact zcx 16 (by omega) (by omega) 31 n (Nat.lt_of_lt_of_le hn (z3k 16 (by omega))) c hc
 |1,hc=>
  rcases List.mem_cons.1 hc with rfl|hc
  ·decide
  ·exact zcx 8 (by omega) (by omega) 31 n (Nat.lt_of_lt_of_le hn (z3k 8 (by omega))) c hc
 |r+2,hc=>exact zcx 10 (by omega) (by omega) 31 n (Nat.lt_of_lt_of_le hn (z3k 10 (by omega))) c hc
theorem z9r (r n:Nat) (hn:n<4294967296):z2Y r n≠[]:=by
 match r with
 |0=>simp[z2Y]
 |1=>simp[z2Y]
 |r+2=>obtain⟨d,l,e,_⟩:=z4U 10 (by omega) 31 n (Nat.lt_of_lt_of_le hn (z3k 10 (by omega)));show z0O 10 31 n≠[];rw[e];simp
theorem z9s (b:Nat) (hb0:2≤b) (hb:b≤16) (B:Int) (hB:(b:Int)≤B) (k n:Nat) (hn:n<b^(k+1)):allB B (z0O b k n)=true:=by unfold allB;rw[List.all_eq_true];intro c hc;obtain⟨d,hd,rfl⟩:=z76 b hb0 k n hn c hc;have:=zeF ⟨d,by omega⟩;simp only at this;rw[this];exact decide_eq_true (by omega)
theorem zj4 (r n:Nat) (hn:n<4294967296):z1R (z2Y r n)=true:=by
 match r with
 |0=>show z1R (48::120::z0O 16 31 n)=true;unfold z1R;rw[if_pos (by simp[Lib.hasPrefix,List.isPrefixOf])];exact z9s 16 (by omega) (by omega) 16 (by omega) 31 n (Nat.lt_of_lt_of_le hn (z3k 16 (by omega)))
 |1=>show z1R (48::z0O 8 31 n)=true;obtain⟨d,l,e,hd,_,_⟩:=z4U 8 (by omega) 31 n (Nat.lt_of_lt_of_le hn (z3k 8 (by omega)));have ha:=z9s 8 (by omega) (by omega) 10 (by omega) 31 n (Nat.lt_of_lt_of_le hn (z3k 8 (by omega)));rw[e] at ha⊢;have h120:=zbz ⟨d,by omega⟩;unfold z1R;rw[if_neg (by simp[Lib.hasPrefix,List.isPrefixOf];exact fun h=>h120 h.symm)];show(!(48::z1A d::l).isEmpty&&allB 10 (48::z1A d::l))=true;have:allB 10 (48::z1A d::l)=allB 10 (z1A d::l):=rfl;rw[this,ha];rfl
 |r+2=>
  show z1R (z0O 10 31 n)=true;obtain⟨d,l,e,hd,_,hl⟩:=z4U 10 (by omega) 31 n (Nat.lt_of_lt_of_le hn (z3k 10 (by omega)));have ha:=z9s 10 (by omega) (by omega) 10 (by omega) 31 n (Nat.lt_of_lt_of_le hn (z3k 10 (by omega)));rw[e] at ha⊢;unfold z1R;rw[if_neg (by
   simp only[Lib.hasPrefix];by_cases h0:d=0
   ·rw[hl h0];simp[List.isPrefixOf]
   ·have:=zcX ⟨d,by omega⟩ h0
    simp[List.isPrefixOf];exact fun h=>absurd h.symm this)]
  rw[ha];rfl
theorem z69:∀(k n:Nat),n<10^(k+1)→z0O 10 k n=Lib.decDigits n
 |0,n,h=>by
  have h':n<10:=by simpa using h
  rw[Lib.decDigits_one h'];simp[z0O,z1A,h']
 |k+1,n,h=>by
  unfold z0O;split
  ·rename_i h'
   rw[Lib.decDigits_one h'];simp[z1A,h']
  ·rename_i h'
   have hq:n/10<10^(k+1):=(by rw[Nat.div_lt_iff_lt_mul (by omega)];rwa[Nat.pow_succ] at h);rw[Lib.decDigits,dif_neg h',z69 k (n/10) hq];have:n%10<10:=Nat.mod_lt _ (by omega);simp[z1A,this]
def z2A:List (List UInt8)→List UInt8
 | []=>[]
 | [x]=>x
 |x::y::r=>x++46::z2A (y::r)
theorem z89:∀ls:List (List UInt8),ls≠[]→(∀x∈ls,∀c∈x,c≠46)→z0a 46 (z2A ls)=ls
 | [],h,_=>absurd rfl h
 | [x],_,h=>z3L 46 x (h x (by simp))
 |x::y::r,_,h=>by
  show z0a 46 (x++46::z2A (y::r))=_;rw[z2W 46 _ x (h x (by simp)),z89 (y::r) (by simp) (fun z hz=>h z (by simp[List.mem_cons.1 hz]))]
theorem zbB (ls:List (List UInt8)) (hne:ls≠[]) (h:∀x∈ls,∀c∈x,c≠46) (hx:∀x∈ls,x≠[]):z1h (z2A ls)=ls:=by unfold z1h;rw[z89 ls hne h,if_neg];rintro⟨_,h2⟩;exact hx [] (List.mem_of_getLast? h2) rfl
theorem z78:∀(ls:List (List UInt8)) (c:UInt8),c∈z2A ls→c=46∨∃x∈ls,c∈x
 | [],c,h=>by simp[z2A] at h
 | [x],c,h=>Or.inr ⟨x,by simp,h⟩
 |x::y::r,c,h=>by
  have h':c∈x++46::z2A (y::r):=h;rcases List.mem_append.1 h' with h1|h1
  ·exact Or.inr ⟨x,by simp,h1⟩
  ·rcases List.mem_cons.1 h1 with h2|h2
   ·exact Or.inl h2
   ·rcases z78 (y::r) c h2 with h3|⟨z,hz,h3⟩
    ·exact Or.inl h3
    ·exact Or.inr ⟨z,by simp[List.mem_cons.1 hz],h3⟩
theorem zat:∀(ls:List (List UInt8)),ls≠[]→(∀x∈ls,x≠[])→z2A ls≠[]
 | [],h,_=>absurd rfl h
 | [x],_,h=>h x (by simp)
 |x::y::r,_,h=>by show x++46::z2A (y::r)≠[];simp
theorem zkG (l:List UInt8) (h:∀c∈l,Lib.lowerB c=c):Lib.toLowerA l=l:=by
 unfold Lib.toLowerA;conv=>rhs;rw[←List.map_id l]
 exact List.map_congr_left h
theorem zkH (ls:List (List UInt8)) (a:Nat) (hne:ls≠[]) (hok:∀x∈ls,(∀c∈x,okT c=true)∧x≠[]) (hl:z1R (ls.getLastD [])=true) (hi:ip4 ls=some (a:Int)):z14 (z0t (z2A ls))=some (z2U a):=by
 have hmem:∀c∈z2A ls,z2p c=false∧c≠37∧Lib.lowerB c=c:=by
  intro c hc;rcases z78 ls c hc with rfl|⟨x,hx,hcx⟩
  ·decide+kernel
  ·have:=zcY c ((hok x hx).1 c hcx)
   exact⟨this.1,this.2.1,this.2.2.2.1⟩
 rw[z7M _ (fun c hc=>(hmem c hc).2.1)];have hlow:=zkG (z2A ls) (fun c hc=>(hmem c hc).2.2);have hlab:=zbB ls hne (fun x hx c hc=>(zcY c ((hok x hx).1 c hc)).2.2.1) (fun x hx=>(hok x hx).2);unfold z14;rw[if_neg (zat ls hne (fun x hx=>(hok x hx).2)),if_neg (by
  rw[Bool.not_eq_true,List.any_eq_false];intro c hc;rw[(hmem c hc).1];simp),hlow,hlab,if_pos hl,hi]
 rfl
theorem zfZ (r1 r2 r3 r4:Nat) (n:Nat) (hn:n<4294967296):z14 (z0t (z2A [z2Y r1 (n/16777216),z2Y r2 (n/65536%256),z2Y r3 (n/256%256),z2Y r4 (n%256)]))=some (z2U n):=by
 have a1:=z6o r1 (n/16777216) 255 (by omega) (by omega);have a2:=z6o r2 (n/65536%256) 255 (by omega) (by omega);have a3:=z6o r3 (n/256%256) 255 (by omega) (by omega);have a4:=z6o r4 (n%256) 255 (by omega) (by omega);refine zkH _ n (by simp) ?_ ?_ ?_
 ·intro x hx
  simp only[List.mem_cons,List.not_mem_nil,or_false] at hx;rcases hx with rfl|rfl|rfl|rfl
  ·exact⟨z9q _ _ (by omega),z9r _ _ (by omega)⟩
  ·exact⟨z9q _ _ (by omega),z9r _ _ (by omega)⟩
  ·exact⟨z9q _ _ (by omega),z9r _ _ (by omega)⟩
  ·exact⟨z9q _ _ (by omega),z9r _ _ (by omega)⟩
 ·exact zj4 r4 _ (by omega)
 ·show(match z3c 0 [z2Y r1 (n/16777216),z2Y r2 (n/65536%256),z2Y r3 (n/256%256)] with|none=>none|some a=>match z0I 255 (z2Y r4 (n%256)) with|none=>none|some m=>some (a*256+m))=_
  simp only[z3c,a1,a2,a3,a4];congr 1;omega
theorem z4u (b:Nat):∀(k n:Nat),(z0O b k n).length≤k+1
 |0,n=>by simp[z0O]
 |k+1,n=>by
  have:=z4u b k (n/b);unfold z0O;split
  ·simp
  ·simp;omega
theorem zoZ (l:List UInt8) (h:∀c∈l,c≠91):Lib.hasPrefix l [91]=false:=by
 cases l with
 |nil=>rfl
 |cons a l=>have:=h a (by simp);simp[Lib.hasPrefix,List.isPrefixOf];exact fun e=>this e.symm
end Go.Moor
namespace Go.Proofs
open Go.RowKit Go.Moor Go.Proofs.Tryz
theorem z0G (l m:List UInt8):(⟨l.toArray⟩:ByteArray)++⟨m.toArray⟩=⟨(l++m).toArray⟩:=by apply znJ;simp
def zpt:ByteArray:=⟨#[48,49,50,51,52,53,54,55,56,57,97,98,99,100,101,102]⟩
theorem zmG:∀n:Fin 16,(zpt.extract n.val (n.val+1)).data.toList=[z1A n.val]:=by decide+kernel
theorem zj5 (n:Nat) (h:n<16):zpt.extract n (n+1)=⟨[z1A n].toArray⟩:=by apply znJ;exact zmG ⟨n,h⟩
theorem z4v (x:Int) (h0:0≤x) (h1:x<4294967297):IntKind.i64.wrap x=x:=by simp only[IntKind.wrap,IntKind.bits,IntKind.signed];simp;omega
end Go.Proofs
namespace Go.Moor
open Go
def z0N (l:List UInt8):Option Int:=if l.length<1∨4<l.length then none else z0H 16 65535 0 l
def z1M (l:List UInt8):Option Int:=if l=[] then none else if l.head? =some 48∧1<l.length then none else z0H 10 255 0 l
theorem zcJ (l:List UInt8) (n:Int) (h:z0N l=some n):0≤n∧n≤65535:=by
 unfold z0N at h;split at h
 ·simp at h
 ·exact z4b 16 65535 (by omega) l 0 n (by omega) (by omega) h
theorem z8g (l:List UInt8) (n:Int) (h:z1M l=some n):0≤n∧n≤255:=by
 unfold z1M at h;split at h
 ·simp at h
 ·split at h
  ·simp at h
  ·exact z4b 10 255 (by omega) l 0 n (by omega) (by omega) h
def z0Z (l:List UInt8):List (List UInt8):=if l=[] then [] else z0a 58 l
def z29:List Int→List (List UInt8)→Option (List Int)
 |ps,[]=>some ps
 |ps,x::l=>match z0N x with|some n=>z29 (ps++ [n]) l|none=>none
def z0E (l:List (List UInt8)):Option (List Int):=z29 [] l
theorem zgo (xs:List ByteArray) (q:Nat) (x:ByteArray) (ps:List Int) (hx:xs[q]?=some x):z29 ps ((xs.map (·.data.toList)).drop q)=(match z0N x.data.toList with|some n=>z29 (ps++ [n]) ((xs.map (·.data.toList)).drop (q+1))|none=>none):=by
 have h1:(xs.map (·.data.toList))[q]?=some x.data.toList:=by rw[List.getElem?_map,hx];rfl
 obtain⟨hlt,he⟩:=List.getElem?_eq_some_iff.1 h1;rw[List.drop_eq_getElem_cons hlt,he];rfl
def z2w:Int→List (List UInt8)→Option Int
 |a,[]=>some a
 |a,x::l=>match z1M x with|some n=>z2w (a*256+n) l|none=>none
def z0J (l:List UInt8):Option Int:=if(z0a 46 l).length=4 then z2w 0 (z0a 46 l) else none
theorem zgp (xs:List ByteArray) (q:Nat) (x:ByteArray) (a:Int) (hx:xs[q]?=some x):z2w a ((xs.map (·.data.toList)).drop q)=(match z1M x.data.toList with|some n=>z2w (a*256+n) ((xs.map (·.data.toList)).drop (q+1))|none=>none):=by
 have h1:(xs.map (·.data.toList))[q]?=some x.data.toList:=by rw[List.getElem?_map,hx];rfl
 obtain⟨hlt,he⟩:=List.getElem?_eq_some_iff.1 h1;rw[List.drop_eq_getElem_cons hlt,he];rfl
theorem z9N:∀(l:List (List UInt8)) (a m:Int),0≤a→z2w a l=some m→0≤m∧m<(a+1)*256^l.length
 | [],a,m,h0,h=>by simp only[z2w,Option.some.injEq] at h;simp;omega
 |x::l,a,m,h0,h=>by
  simp only[z2w] at h;split at h
  ·rename_i n hn
   have hr:=z8g x n hn;have:=z9N l _ m (by omega) h;refine⟨this.1,Int.lt_of_lt_of_le this.2 ?_⟩;rw[List.length_cons,Int.pow_succ,←Int.mul_assoc,Int.mul_right_comm];exact Int.mul_le_mul_of_nonneg_right (by omega) (Int.pow_nonneg (by omega))
  ·simp at h
theorem z5W (l:List UInt8) (m:Int) (h:z0J l=some m):0≤m∧m<4294967296:=by
 unfold z0J at h;split at h
 ·rename_i h4
  have:=z9N _ 0 m (by omega) h;rw[h4] at this;exact⟨this.1,by simpa using this.2⟩
 ·simp at h
def z3m:Option (List Int)→Option Int→Option (List Int)
 |some ps,some n=>some (ps++ [n/65536,n%65536])
 |_,_=>none
def z1s (l:List (List UInt8)):Option (List Int):=
 match l.getLast? with
 |none=>some []
 |some x=>if 0≤Lib.indexByte x 46 then z3m (z0E l.dropLast) (z0J x) else z0E l
theorem zjQ (n:Int) (h0:0≤n) (h1:n<4294967296):bits .and .u64 n 65535=n%65536:=by obtain⟨a,rfl⟩:=Int.eq_ofNat_of_zero_le h0;rw[show(65535:Int)=((65535:Nat):Int) from rfl,u64_and_nat a 65535 (by omega) (by omega),show(65535:Nat)=2^16- 1 from rfl,Nat.and_two_pow_sub_one_eq_mod];simp
theorem z52:∀(l:List (List UInt8)) (ps qs:List Int),z29 ps l=some qs→qs.length=ps.length+l.length
 | [],ps,qs,h=>by simp only[z29,Option.some.injEq] at h;rw[h];rfl
 |x::l,ps,qs,h=>by
  simp only[z29] at h;split at h
  ·have:=z52 l _ qs h
   simp at this⊢;omega
  ·simp at h
def z2S (short:Bool):Option (List Int)→Option (List Int)→Option (List Int)
 |some f,some g=>if(if short then decide ((f.length:Int)+(g.length:Int)<8) else(f.length:Int)+(g.length:Int)==8)=true then some (f++(List.replicate (8- f.length- g.length) 0++g)) else none
 |_,_=>none
def z2s (l:List UInt8):Option (List Int):=
 match Lib.cut l [58,58] with
 |(a,b,true)=>z2S true (z0E (z0Z a)) (z1s (z0Z b))
 |(_,_,false)=>z2S false (z0E (z0Z [])) (z1s (z0Z l))
theorem z5X (l:List UInt8):(z0Z l).length≤l.length+1:=by
 unfold z0Z;split
 ·simp
 ·exact z57 58 l
theorem zaD (l:List (List UInt8)) (ps:List Int) (h:z1s l=some ps):ps.length≤l.length+2:=by
 unfold z1s at h;split at h
 ·simp at h;rw[h];simp
 ·split at h
  ·cases hp:z0E l.dropLast with
   |none=>rw[hp] at h;simp[z3m] at h
   |some qs=>
    have:=z52 _ _ _ hp;rw[hp] at h;revert h;cases z0J _ with
    |none=>intro h;simp[z3m] at h
    |some n=>intro h;simp only[z3m,Option.some.injEq] at h;rw[←h];simp at this⊢;omega
  ·have:=z52 _ _ _ h
   simp at this;omega
def zero8:List Int:=[0,0,0,0,0,0,0,0]
def z0d (l:List Int):Array Value:=(l.map (Value.int .u64)).toArray
theorem z6r (f g:List Int) (d:Nat) (hd:d+g.length=8) (hl:f.length+g.length≤8):(splice (splice (zero8.map (Value.int .u64)) 0 (f.map (Value.int .u64))) d (g.map (Value.int .u64))).toArray=z0d (f++(List.replicate (8- f.length- g.length) 0++g)):=by unfold z0d;congr 1;have hz:zero8.map (Value.int .u64)=List.replicate 8 (Value.int .u64 0):=rfl;rw[hz];unfold splice;simp only[List.take_zero,List.nil_append,List.length_map,Nat.zero_add,List.drop_replicate,List.map_append,List.map_replicate];rw[List.take_append,List.take_of_length_le (by simp;omega),List.drop_of_length_le (by simp;omega),List.append_nil,List.append_assoc,List.take_replicate,List.length_map];congr 3;omega
def pieceTxt (p:Nat):List UInt8:=z0O 16 3 p
def z33 (p:Nat):ByteArray:=⟨(pieceTxt p).toArray⟩
def z0A (ps:List Nat):List UInt8:=Lib.join (ps.map pieceTxt) [58]
theorem zfc (c:UInt8) (m:Nat):∀xs:List (List UInt8),(∀x∈xs,x.length≤m)→(Lib.join xs [c]).length≤(m+1)*xs.length
 | [],_=>by simp[Lib.join]
 | [x],h=>by
  have:=h x (by simp);simp[Lib.join];omega
 |x::y::l,h=>by
  have h1:=h x (by simp);have h2:=zfc c m (y::l) (fun z hz=>h z (by simp[hz]));simp[Lib.join] at h2⊢;rw[Nat.mul_add,Nat.mul_add] at*;omega
theorem z2f (ps:List Nat):(z0A ps).length≤5*ps.length:=by
 have:=zfc 58 4 (ps.map pieceTxt) (by
  intro x hx;obtain⟨p,_,rfl⟩:=List.mem_map.1 hx;exact z4u 16 3 p)
 simpa[z0A] using this
def z0B:List Nat→Nat→Nat→Nat→Nat→Nat×Nat
 | [],_,_,s,l=>(s,l)
 |p::ps,i,row,s,l=>if p≠0 then z0B ps (i+1) 0 s l else if l<row+1 then z0B ps (i+1) (row+1) (i- row) (row+1) else z0B ps (i+1) (row+1) s l
theorem z4C (n:Nat):∀(ps:List Nat) (i row s l:Nat),i+ps.length=n→row≤i→s+l≤n→(z0B ps i row s l).1+(z0B ps i row s l).2≤n
 | [],i,row,s,l,_,_,h=>h
 |p::ps,i,row,s,l,hi,hr,h=>by
  have hi2:i+1+ps.length=n:=by simp at hi;omega
  unfold z0B;split
  ·exact z4C n ps _ _ _ _ hi2 (by omega) h
  ·split
   ·exact z4C n ps _ _ _ _ hi2 (by omega) (by omega)
   ·exact z4C n ps _ _ _ _ hi2 (by omega) h
def z2a (ps:List Nat):Array Value:=z0d (ps.map fun p=>((p:Nat):Int))
theorem zfd (ps:List Nat) (i p:Nat) (h:ps[i]?=some p):(z2a ps)[i]?=some (.int .u64 (p:Nat)):=by unfold z2a z0d;simp[h]
theorem z6M (ps:List Nat):(z2a ps).size=ps.length:=by simp[z2a,z0d]
def z1C (ps:List Nat):List UInt8:=
 if(z0B ps 0 0 0 0).2<2 then z0A ps else z0A (ps.take (z0B ps 0 0 0 0).1)++([58,58]++z0A (ps.drop ((z0B ps 0 0 0 0).1+(z0B ps 0 0 0 0).2)))
def z3I (p:Int):Prop:=0≤p∧p<65536
theorem zdo:∀(l:List (List UInt8)) (ps qs:List Int),(∀p∈ps,z3I p)→z29 ps l=some qs→∀p∈qs,z3I p
 | [],ps,qs,h,e=>by simp only[z29,Option.some.injEq] at e;rw[←e];exact h
 |x::l,ps,qs,h,e=>by
  simp only[z29] at e;split at e
  ·rename_i n hn
   have hr:=zcJ x n hn;refine zdo l _ qs (fun p hp=>?_) e;rcases List.mem_append.1 hp with hp|hp
   ·exact h p hp
   ·simp at hp;subst hp;exact⟨hr.1,by omega⟩
  ·simp at e
theorem z5Y (l:List (List UInt8)) (qs:List Int) (e:z0E l=some qs):∀p∈qs,z3I p:=zdo l [] qs (by simp) e
theorem zc3 (l:List (List UInt8)) (qs:List Int) (e:z1s l=some qs):∀p∈qs,z3I p:=by
 unfold z1s at e;split at e
 ·simp at e;rw[e];simp
 ·split at e
  ·rename_i x _ _
   cases hp:z0E l.dropLast with
   |none=>rw[hp] at e;simp[z3m] at e
   |some ps=>
    cases hd:z0J x with
    |none=>rw[hp,hd] at e;simp[z3m] at e
    |some n=>
     rw[hp,hd] at e;simp only[z3m,Option.some.injEq] at e;rw[←e];have hr:=z5W x n hd;intro p hm;rcases List.mem_append.1 hm with hm|hm
     ·exact z5Y _ ps hp p hm
     ·simp at hm
      rcases hm with rfl|rfl
      ·exact⟨by omega,by omega⟩
      ·exact⟨by omega,by omega⟩
  ·exact z5Y l qs e
theorem zc4 (b:Bool) (f g:Option (List Int)) (qs:List Int) (hf:∀ps,f=some ps→∀p∈ps,z3I p) (hg:∀ps,g=some ps→∀p∈ps,z3I p) (e:z2S b f g=some qs):qs.length=8∧∀p∈qs,z3I p:=by
 cases f with
 |none=>simp[z2S] at e
 |some f=>
  cases g with
  |none=>simp[z2S] at e
  |some g=>
   have key:f.length+g.length≤8∧f++(List.replicate (8- f.length- g.length) 0++g)=qs:=by
    cases b
    ·simp[z2S] at e
     exact⟨by omega,e.2⟩
    ·simp[z2S] at e
     exact⟨by omega,e.2⟩
   obtain⟨hl,e⟩:=key;rw[←e];refine⟨by simp;omega,fun p hp=>?_⟩;rcases List.mem_append.1 hp with hp|hp
   ·exact hf f rfl p hp
   ·rcases List.mem_append.1 hp with hp|hp
    ·rw[List.eq_of_mem_replicate hp];exact⟨by omega,by omega⟩
    ·exact hg g rfl p hp
theorem z8G (l:List UInt8) (qs:List Int) (e:z2s l=some qs):qs.length=8∧∀p∈qs,z3I p:=by
 unfold z2s at e;split at e
 ·exact zc4 _ _ _ qs (fun ps h=>z5Y _ ps h) (fun ps h=>zc3 _ ps h) e
 ·exact zc4 _ _ _ qs (fun ps h=>z5Y _ ps h) (fun ps h=>zc3 _ ps h) e
theorem zgq (ps:List Int) (h:∀p∈ps,z3I p):z0d ps=z2a (ps.map Int.toNat):=by unfold z2a;congr 1;rw[List.map_map];refine(List.map_id ps).symm.trans (List.map_congr_left fun p hp=>?_);have:=(h p hp).1;simp;omega
def z1N (l:List UInt8):Option (List UInt8):=
 if Lib.hasSuffix l [93]=true then(match z2s (Lib.trimSuffix l [93]) with|some ps=>some ([91]++(z1C (ps.map Int.toNat)++ [93]))|none=>none) else none
def zme:List UInt8:=[0,9,10,13,32,35,47,58,60,62,63,64,91,92,93,94,124]
def z2V (c:UInt8):Bool:=decide (0≤Lib.indexByte zme c)
def z2x (l:List UInt8):Option (List UInt8):=if l.any z2V then none else some (esc 0 l)
def hostTell (l:List UInt8) (sp:Bool):Option (List UInt8):=
 if Lib.hasPrefix l [91]=true then z1N (l.drop 1) else if sp then z14 (z0t l) else z2x l
end Go.Moor
namespace Go.Proofs
open Go.RowKit Go.Moor Go.Proofs.Tryz
theorem zjP (s:ByteArray) (w:World) (hs:s.size≤maxLen) (he:Err 23 w) (he2:Err 18 w):Calls prog 229 #[.string s] w fun e w'=>z2M (z0N s.data.toList) e∧∃n,w'=w.drewN n:=by
 have hlen:s.data.toList.length=s.size:=by simp
 unfold z0N;rw[hlen];have HE:=hI he;obtain⟨te,ve,hce⟩:=he2;have hxs:=hs;unfold maxLen at hs;clear he hlen;by_cases h0:s.size<1
 ·rw[if_pos (Or.inl h0)]
  go_enter func229,ntmps229;go_wp2;go_quiet (fail);go_wp2;go_ret2;exact⟨⟨_,_,rfl⟩,_,rfl⟩
 ·by_cases h4:4<s.size
  ·rw[if_pos (Or.inr h4)]
   go_enter func229,ntmps229;go_wp2;go_quiet (fail);go_wp2;go_ret2;exact⟨⟨_,_,rfl⟩,_,rfl⟩
  ·rw[if_neg (by omega)]
   go_enter func229,ntmps229;go_wp2_with fail;refine(ziL s 16 65535 _ hxs (by omega) (by omega) (by omega) (by omega) HE).mono ?_;rintro e w1 ⟨hr,nd,rfl⟩;obtain⟨ra,rb,rfl,hr⟩:=z5R hr;have HR:=hI hr;clear hr;go_wp2;go_ret2;exact⟨HR,nd,rfl⟩
theorem ziO (s:ByteArray) (w:World) (hem:s.toList.isEmpty=true) (he2:Err 5 w):Calls prog 294 #[.string s] w fun e w'=>z2M none e∧∃n,w'=w.drewN n:=by obtain⟨te,ve,hce⟩:=he2;go_enter func294,ntmps294;go_wp2;go_quiet (fail);go_wp2;go_ret2;exact⟨⟨_,_,rfl⟩,_,rfl⟩
theorem zi8 (s:ByteArray) (w:World) (hs:s.size≤maxLen) (hem:s.toList.isEmpty=false) (h2:1<s.size) (h48:((s[0].toNat:Int)==48)=true) (he2:Err 24 w):Calls prog 294 #[.string s] w fun e w'=>z2M none e∧∃n,w'=w.drewN n:=by unfold maxLen at hs;obtain⟨te,ve,hce⟩:=he2;go_enter func294,ntmps294;go_wp2;go_quiet (fail);go_wp2;go_ret2;exact⟨⟨_,_,rfl⟩,_,rfl⟩
theorem zkr (s:ByteArray) (w:World) (hs:s.size≤maxLen) (hem:s.toList.isEmpty=false) (h1:0<s.size) (h48:((s[0].toNat:Int)==48)=false∨(((s[0].toNat:Int)==48)=true∧s.size<2)) (he:Err 23 w):Calls prog 294 #[.string s] w fun e w'=>z2M (z0H 10 255 0 s.data.toList) e∧∃n,w'=w.drewN n:=by
 have HE:=hI he;have hxs:=hs;unfold maxLen at hs;clear he;rcases h48 with h48|⟨h48,hlt⟩;all_goals
  go_enter func294,ntmps294;go_wp2_with fail;refine(ziL s 10 255 _ hxs (by omega) (by omega) (by omega) (by omega) HE).mono ?_;rintro e w1 ⟨hr,nd,rfl⟩;obtain⟨ra,rb,rfl,hr⟩:=z5R hr;have HR:=hI hr;clear hr;go_wp2;go_ret2;exact⟨HR,nd,rfl⟩
theorem zel (s:ByteArray) (w:World) (hs:s.size≤maxLen) (he:Err 23 w) (he2:Err 5 w) (he3:Err 24 w):Calls prog 294 #[.string s] w fun e w'=>z2M (z1M s.data.toList) e∧∃n,w'=w.drewN n:=by
 have hlen:s.data.toList.length=s.size:=by simp
 match hl:s.data.toList with
 | []=>exact ziO s w (by rw[Lib.toList_data,hl];rfl) he2
 |a::l=>
  have hem:s.toList.isEmpty=false:=by rw[Lib.toList_data,hl];rfl
  have h1:0<s.size:=by rw[←hlen,hl];simp
  have ha:=zeZ s a l hl h1;unfold z1M;rw[if_neg (by simp)];by_cases h48:a=48
  ·have hb:((s[0].toNat:Int)==48)=true:=by rw[ha,h48];decide
   by_cases h2:1<s.size
   ·rw[if_pos ⟨by simp[h48],by rw[←hl,hlen];exact h2⟩]
    exact zi8 s w hs hem h2 hb he3
   ·rw[if_neg (by rw[←hl,hlen];exact fun h=>h2 h.2),←hl]
    exact zkr s w hs hem h1 (Or.inr ⟨hb,by omega⟩) he
  ·rw[if_neg (by simp[h48]),←hl]
   refine zkr s w hs hem h1 (Or.inl ?_) he;rw[ha];have:(a.toNat:Int)≠48:=fun e=>h48 (by
    apply UInt8.toNat_inj.1;show a.toNat=48;omega)
   simpa using this
theorem zi9 (s:ByteArray) (w:World) (hs:s.size≤maxLen) (he:Err 23 w) (he2:Err 5 w) (he3:Err 24 w):Calls prog 265 #[.string s] w fun e w'=>z2M (z1M s.data.toList) e∧∃n,w'=w.drewN n:=by
 have HE:=hI he;have HE2:=hI he2;have HE3:=hI he3;clear he he2 he3;cases ho:z1M s.data.toList with
 |none=>have HO:=hI ho;clear ho;go_enter func265,ntmps265;go_wp2_with fail;refine(zel s _ hs HE HE2 HE3).mono ?_;rw[HO.out];rintro e w1 ⟨⟨t,v,rfl⟩,nd,rfl⟩;go_wp2;go_ret2;exact⟨⟨_,_,rfl⟩,nd,rfl⟩
 |some n=>have HO:=hI ho;clear ho;go_enter func265,ntmps265;go_wp2_with fail;refine(zel s _ hs HE HE2 HE3).mono ?_;rw[HO.out];rintro e w1 ⟨rfl,nd,rfl⟩;go_wp2;go_ret2;exact⟨rfl,nd,rfl⟩
theorem ziP (k:Int) (b:Bool) (w:World):C0 194 #[.int .i64 k,.bool b] w (.bool (if b then decide (k<8) else k==8)):=by
 cases b
 all_goals
  go_enter func194,ntmps194;go_wp2;go_ret;exact⟨rfl,rfl⟩
theorem zgn (s:ByteArray) (w:World) (hem:s.toList.isEmpty=true):C0 192 #[.string s] w (.slice none 0 0):=by go_enter func192,ntmps192;go_wp2;go_ret;exact⟨rfl,rfl⟩
theorem zfb:(prog.info? 151).map (fun i=>(i.zero,i.size,i.bytes))=some (some (.int .u64 0),1,8):=by kernel_rfl
def z47 (B:Nat) (o:Option (List Int)) (e:Ending) (w':World):Prop:=
 match o with
 |some ps=>∃v,e=.returned (.tuple #[v,.nilIface])∧w'.ownsRow B 151 1 v ps.length (ps.map (Value.int .u64))
 |none=>∃t v,e=.returned (.tuple #[.slice none 0 0,.iface t v])
theorem z62 (w:World):C0 191 #[.slice none 0 0] w (.tuple #[.slice none 0 0,.nilIface]):=by
 go_enter func191,ntmps191;go_wp2;go_loop [4,11] (fun v i=>v=.slice none 0 0∧i=.int .i64 0) (fun _ _=>0)
 case atStart=>exact⟨rfl,rfl⟩
 case round=>obtain⟨rfl,rfl⟩:=hrel;go_wp2;go_ret2;exact⟨rfl,rfl⟩
theorem z4K (b cap:Nat) (xs:List ByteArray) (w:World) (hb:b<w.heap.size) (hcap:xs.length≤cap) (hcap2:cap≤4294967282) (hs:∀x∈xs,x.size≤maxLen) (hcl:∀(j:Nat) x,xs[j]?=some x→w.cell? ⟨b,j,none⟩=some (.string x)) (henv:Env w):Calls prog 191 #[.slice (some ⟨b,0,none⟩) xs.length cap] w fun e w'=>z47 w.heap.size (z0E (xs.map (·.data.toList))) e w'∧Below w.heap.size w w':=by
 have HC:=hI hcl;have HS:=hI hs;have HV:=hI henv;obtain⟨i0,hi,hz0,hz1,hz2⟩:=info_parts zfb;generalize hgo:z0E (xs.map (·.data.toList))=goal;have HG:Hid (z29 [] (xs.map (·.data.toList))=goal):=hgo;clear hcl hs henv hgo;go_enter func191,ntmps191;go_wp2;go_loopw [4,11] (fun v i wr=>∃(q:Nat) (ps:List Int),q≤xs.length∧i=.int .i64 q∧ps.length=q∧wr.ownsRow w.heap.size 151 1 v ps.length (ps.map (Value.int .u64))∧z29 ps ((xs.map (·.data.toList)).drop q)=goal∧Below w.heap.size w wr) (fun _ i _=>xs.length-(intOf i).toNat)
 case atStart=>exact⟨0,[],Nat.zero_le _,rfl,rfl,World.ownsRow_nil _ _ _ _,HG,Below.refl _ _⟩
 case round=>
  obtain⟨q,ps,hq,rfl,hpl,hown,hrest,hbw⟩:=hrel;have HR:=hI hrest;have HB:=hI hbw;have HO:=hI hown;have hwz:=hbw.size;clear hrest hbw hown;by_cases hlt:q<xs.length
  ·obtain⟨x,hx⟩:∃x,xs[q]?=some x:=⟨xs[q]'hlt,by simp⟩
   have hc:=(HB.out.cell (by exact hb)).trans (HC q x hx);have hxm:=HS x (List.mem_of_getElem? hx);have HST:Hid (z29 ps ((xs.map (·.data.toList)).drop q)=(match z0N x.data.toList with|some n=>z29 (ps++ [n]) ((xs.map (·.data.toList)).drop (q+1))|none=>none)):=zgo xs q x ps hx;have HVr:Hid _:=HV.out.below HB;clear hx;cases ho:z0N x.data.toList with
   |none=>have HN:=hI ho;clear ho;go_wp2_with fail;refine(zjP x _ hxm HVr.out.eGreat HVr.out.eLength).mono ?_;rw[HN.out];rintro e w2 ⟨⟨te,ve,rfl⟩,nd2,rfl⟩;go_wp2;go_ret2;refine⟨?_,Go.below_drewN HB _⟩;have h1:=HR;rw[HST.out,HN.out] at h1;rw[←h1];exact⟨_,_,rfl⟩
   |some n=>
    have HN:=hI ho;clear ho;go_wp2_with fail;refine(zjP x _ hxm HVr.out.eGreat HVr.out.eLength).mono ?_;rw[HN.out];rintro e w2 ⟨rfl,nd2,rfl⟩;have hown2:=(show(wr.drewN nd2).ownsRow w.heap.size 151 1 _ ps.length (ps.map (Value.int .u64)) from HO);have HO2:=hown2.alloc (.cells #[.int .u64 n] 151);go_wp2_with(at_builtin;refine wpList_append_own _ rfl _ _ 225 rfl w.heap.size 151 i0 (.int .u64 0) 1 8 underlying225 hi hz0 hz1 hz2 rfl (by decide) _ _ _ rfl HO2 ⟨wr.heap.size,0,none⟩ 1 1 [.int .u64 n] rfl rfl ?c1 ?c2 ?c3 ?c4 ?c5 ?_)
    case c1=>
     intro j u hj;match j,hj with
     |0,hj=>simp at hj;subst hj;exact World.cell?_alloc_new (wr.drewN nd2) #[.int .u64 n] 151 0
    case c2=>intro u hu;simp at hu;subst hu;rfl
    case c3=>unfold maxLen;omega
    case c4=>omega
    case c5=>simp;omega
    intro v' w1 hown' hgrow _;have HOW:=hI hown';have HBB:Hid _:=((Go.below_drewN HB nd2).alloc (by simpa using hwz) _).grown hgrow (by simp;omega) (fun k hk=>(HO2.lt k hk).1);clear hown' hgrow hown2 HO2;go_wp2;go_roundw
    case rel=>
     refine⟨q+1,ps++ [n],by omega,by go_num,by simp[hpl],?_,?_,HBB⟩
     ·have:=HOW
      rw[List.length_append,List.map_append,hpl];exact this
     ·have h1:=HR
      rw[HST.out,HN.out] at h1;exact h1
    case measure=>simp[intOf];omega
  ·go_wp2
   go_ret2;refine⟨?_,HB⟩;have h1:=HR;rw[List.drop_eq_nil_of_le (by simp;omega)] at h1;rw[←h1];exact⟨_,rfl,HO⟩
theorem z94 (s:ByteArray) (w:World) (hs:s.size<4294967281) (henv:Env w):CP 231 #[.string s] w (z2M (z0J s.data.toList)):=by
 obtain⟨m,hm⟩:=henv.maxLen;have HM:=hI hm;have HV:=hI henv;clear hm henv;generalize hgo:z0J s.data.toList=goal;have HGO:=hI hgo;clear hgo;go_enter func231,ntmps231;go_wp2_with fail;refine(zmO s 46 m _ hs HM.out).mono ?_;rintro e w0 ⟨xs,hxs,rfl,hw0⟩;obtain⟨w1,hw1⟩:=z09 w0;have HB:Hid (Below w.heap.size w w1):=by rw[hw1,hw0];exact(Below.refl _ w).alloc (Nat.le_refl _) _
 have HC:Hid (∀(j:Nat) x,xs[j]?=some x→w1.cell? ⟨w.heap.size,j,none⟩=some (.string x)):=by rw[hw1,hw0];exact z9A w xs 9
 have HX:=hI hxs;have HS:Hid (∀x∈xs,x.size≤maxLen):=by intro x hx;have:=z2L 46 s.data.toList x.data.toList (by rw[←hxs];exact List.mem_map.2 ⟨x,hx,rfl⟩);simp at this;unfold maxLen;omega
 have hlen:xs.length≤s.size+1:=by have:=z57 46 s.data.toList;rw[←hxs] at this;simpa using this
 rw[←hw1];clear hw1 hw0 hxs;have HV1:=hI (HV.out.below HB.out);by_cases h4:xs.length=4
 ·have HL:Hid (z0J s.data.toList=z2w 0 (xs.map (·.data.toList))):=by
   show _=_;unfold z0J;rw[←HX.out,if_pos (by simpa using h4)]
  have HG:=hI (HL.out.symm.trans HGO.out);go_wp2;go_loopw [5,18] (fun t i wr=>∃(q nd:Nat) (a:Int),q≤4∧i=.int .i64 q∧t=.int .u64 a∧0≤a∧a<256^q∧z2w a ((xs.map (·.data.toList)).drop q)=goal∧wr=w1.drewN nd) (fun _ i _=>4-(intOf i).toNat)
  case atStart=>exact⟨0,0,0,by omega,rfl,rfl,by omega,by omega,HG.out,rfl⟩
  case round=>
   obtain⟨q,nd,a,hq,rfl,rfl,ha0,ha1,hfr,rfl⟩:=hrel;have HF:=hI hfr;have HA1:=hI ha1;clear hfr ha1;by_cases hlt:q<4
   ·have ha2:a<16777216:=Int.lt_of_lt_of_le HA1.out (by
     have:q=0∨q=1∨q=2∨q=3:=by omega
     rcases this with rfl|rfl|rfl|rfl<;>decide)
    obtain⟨x,hx⟩:∃x,xs[q]?=some x:=⟨xs[q]'(by omega),by simp⟩;have hc:=HC.out q x hx;have hxm:=HS.out x (List.mem_of_getElem? hx);have HST:Hid (z2w a ((xs.map (·.data.toList)).drop q)=(match z1M x.data.toList with|some n=>z2w (a*256+n) ((xs.map (·.data.toList)).drop (q+1))|none=>none)):=zgp xs q x a hx;have HVn:=hI (HV1.out.drew nd);clear hx;cases ho:z1M x.data.toList with
    |none=>have HO:=hI ho;clear ho;go_wp2_with fail;refine(zi9 x _ hxm HVn.out.eGreat HVn.out.eEmpty HVn.out.eNought).mono ?_;rw[HO.out];rintro e w2 ⟨⟨te,ve,rfl⟩,nd2,rfl⟩;go_wp2;go_ret2;refine⟨?_,Go.below_drewN HB.out _⟩;have h1:=HF.out;rw[HST.out,HO.out] at h1;rw[←h1];exact⟨_,_,rfl⟩
    |some n=>
     have HO:=hI ho;have hnr:=z8g _ n ho;clear ho;have HJ:Hid (bits .or .u64 (a*256) n=a*256+n):=z6R a n 8 256 rfl (by omega) ha0 ha2 hnr.1 (by omega);go_wp2_with fail;refine(zi9 x _ hxm HVn.out.eGreat HVn.out.eEmpty HVn.out.eNought).mono ?_;rw[HO.out];rintro e w2 ⟨rfl,nd2,rfl⟩;go_wp2;go_roundw
     case rel=>
      refine⟨q+1,nd+nd2,a*256+n,by omega,by go_num,by rw[HJ.out],by omega,?_,?_,rfl⟩
      ·have h1:=HA1.out
       rw[Int.pow_succ];generalize(256:Int)^q=P at h1⊢;omega
      ·have h1:=HF.out
       rw[HST.out,HO.out] at h1;exact h1
     case measure=>simp[intOf];omega
   ·go_wp2
    go_ret2;refine⟨?_,Go.below_drewN HB.out _⟩;have h1:=HF.out;rw[List.drop_eq_nil_of_le (by simp;omega)] at h1;rw[←h1];rfl
 ·have HL:Hid (z0J s.data.toList=none):=by
   show _=_;unfold z0J;rw[←HX.out,if_neg (by simpa using h4)]
  have h4b:((xs.length:Int)==4)=false:=by rw[beq_eq_false_iff_ne];omega
  obtain⟨te,ve,hce⟩:=HV1.out.eCount;go_wp2;go_quiet (fail);go_wp2;go_ret2;refine⟨?_,Go.below_drewN HB.out _⟩;rw[←HGO.out,HL.out];exact⟨_,_,rfl⟩
def z8U (B:Nat) (w':World) (ls:List (List UInt8)) (v:Value):Prop:=
 (ls=[]∧v=.slice none 0 0)∨∃xs:List ByteArray,xs.map (·.data.toList)=ls∧xs≠[]∧xs.length≤4294967282∧v=.slice (some ⟨B,0,none⟩) xs.length xs.length∧(∀(j:Nat) x,xs[j]?=some x→w'.cell? ⟨B,j,none⟩=some (.string x))∧B<w'.heap.size∧∀x∈xs,x.size<4294967281
theorem zi7 (s:ByteArray) (m:Int) (w:World) (hs:s.size<4294967281) (hm:w.cell? ⟨16,0,none⟩=some (.int .i64 m)):Calls prog 192 #[.string s] w fun e w'=>(∃v,e=.returned v∧z8U w.heap.size w' (z0Z s.data.toList) v)∧Below w.heap.size w w':=by
 by_cases hem:s.toList.isEmpty=true
 ·have he:s.data.toList=[]:=by rw[Lib.toList_data] at hem;simpa using hem
  refine(zgn s w hem).mono ?_;rintro e w' ⟨rfl,rfl⟩;exact⟨⟨_,rfl,Or.inl ⟨by unfold z0Z;rw[if_pos he],rfl⟩⟩,Below.refl _ _⟩
 ·have HM:=hI hm
  have hem2:=Bool.eq_false_iff.2 hem;have HE:Hid (s.data.toList≠[]):=by rw[Lib.toList_data] at hem;show _≠_;simpa using hem
  clear hm hem;go_enter func192,ntmps192;go_wp2_with fail;refine(zmO s 58 m _ hs HM).mono ?_;rintro e w0 ⟨xs,hxs,rfl,hw0⟩;have HX:=hI hxs;have HW:=hI hw0;clear hxs hw0;go_wp2;go_ret;have hlen:xs.length≤s.size+1:=by have:=z57 58 s.data.toList;rw[←HX.out] at this;simpa using this
  refine⟨⟨_,rfl,Or.inr ⟨xs,by unfold z0Z;rw[if_neg HE.out];exact HX,?_,by omega,rfl,by rw[HW.out];exact z9A w xs 9,by rw[HW.out];simp,?_⟩⟩,by rw[HW.out];exact(Below.refl _ w).alloc (Nat.le_refl _) _⟩
  ·intro e
   have:=HX;rw[e] at this;exact z26 58 _ this.symm
  ·intro x hx
   have:=z2L 58 s.data.toList x.data.toList (by rw[←HX.out];exact List.mem_map.2 ⟨x,hx,rfl⟩);simp at this;omega
theorem z5t {w w':World} {base:Nat} {e:TypeId} {size:Nat} {v:Value} {n:Nat} {xs:List Value} (h:w.ownsRow base e size v n xs) (hb:Below w.heap.size w w'):w'.ownsRow base e size v n xs:=by
 refine⟨h.1,?_⟩;rcases h.2 with h1|⟨g,cap,cur,h1,h2,h3,h4⟩
 ·exact Or.inl h1
 ·refine Or.inr ⟨g,cap,cur,h1,h2,?_,h4⟩
  rw[hb.block g (by
   obtain⟨h5,_⟩:=Array.getElem?_eq_some_iff.1 h3;exact h5)]
  exact h3
theorem zc2 {B:Nat} {o:Option (List Int)} {e:Ending} {w:World} (h:z47 B o e w):∃a b,e=.returned (.tuple #[a,b])∧z47 B o (.returned (.tuple #[a,b])) w:=by
 cases o with
 |some ps=>obtain⟨v,rfl,h⟩:=h;exact⟨v,.nilIface,rfl,v,rfl,h⟩
 |none=>obtain⟨t,v,h⟩:=h;exact⟨.slice none 0 0,.iface t v,h,⟨t,v,rfl⟩⟩
theorem zac (w:World):Calls Tryz.prog 193 #[.slice none 0 0] w fun e w'=>e=.returned (.tuple #[.slice none 0 0,.nilIface])∧w'=w:=by go_enter Tryz.func193,Tryz.ntmps193;go_wp2_with fail;refine(z62 _).mono ?_;rintro e w1 ⟨rfl,rfl⟩;go_wp2;go_ret2;exact⟨rfl,rfl⟩
theorem z95 (b:Nat) (xs:List ByteArray) (x:ByteArray) (w:World) (hb:b<w.heap.size) (hcap2:xs.length≤4294967282) (hs:∀x∈xs,x.size<4294967281) (hcl:∀(j:Nat) x,xs[j]?=some x→w.cell? ⟨b,j,none⟩=some (.string x)) (henv:Tryz.Env w) (hx:xs[xs.length- 1]?=some x) (hno:decide (0≤Lib.indexByte x.data.toList 46)=false):Calls Tryz.prog 193 #[.slice (some ⟨b,0,none⟩) xs.length xs.length] w fun e w'=>z47 w.heap.size (z0E (xs.map (·.data.toList))) e w'∧Below w.heap.size w w':=by
 have hc:=hcl _ x hx;have HCT:=
  hI (z4K b xs.length xs w hb (Nat.le_refl _) hcap2 (fun x hx=>by have:=hs x hx;unfold maxLen;omega) hcl henv)
 have hne:1≤xs.length:=by
  cases xs with
  |nil=>simp at hx
  |cons a l=>simp
 have HCN:Hid (Calls Tryz.prog 230 #[.string x,.string ⟨#[46]⟩] w fun e w'=>e=.returned (.bool false)∧w'=w):=by have:=Tryz.strings_Contains_one x 46 w;rw[hno] at this;exact this
 generalize hgo:z0E (xs.map (·.data.toList))=goal;rw[hgo] at HCT;clear hcl henv hs hx hno hgo;go_enter Tryz.func193,Tryz.ntmps193;go_wp2_with fail;refine HCN.out.mono ?_;rintro e w1 ⟨rfl,hw⟩;obtain rfl:=hw.symm;go_wp2_with fail;refine HCT.out.mono ?_;rintro e w1 ⟨hr,hbw⟩;obtain⟨ra,rb,rfl,hr⟩:=zc2 hr;have HR:=hI hr;clear hr;go_wp2;go_ret2;exact⟨HR,hbw⟩
set_option maxRecDepth 100000 in
theorem z9M (b:Nat) (xs:List ByteArray) (x:ByteArray) (w:World) (hb:b<w.heap.size) (hcap2:xs.length≤4294967282) (hs:∀x∈xs,x.size<4294967281) (hcl:∀(j:Nat) x,xs[j]?=some x→w.cell? ⟨b,j,none⟩=some (.string x)) (henv:Tryz.Env w) (hx:xs[xs.length- 1]?=some x) (hno:decide (0≤Lib.indexByte x.data.toList 46)=true):Calls Tryz.prog 193 #[.slice (some ⟨b,0,none⟩) xs.length xs.length] w fun e w'=>z47 w.heap.size (z3m (z0E ((xs.map (·.data.toList)).dropLast)) (z0J x.data.toList)) e w'∧Below w.heap.size w w':=by
 have hc:=hcl _ x hx;have hxs:=hs x (List.mem_of_getElem? hx);have HV:=hI henv;have hne:1≤xs.length:=by
  cases xs with
  |nil=>simp at hx
  |cons a l=>simp
 have HCN:Hid (Calls Tryz.prog 230 #[.string x,.string ⟨#[46]⟩] w fun e w'=>e=.returned (.bool true)∧w'=w):=by have:=Tryz.strings_Contains_one x 46 w;rw[hno] at this;exact this
 have HCT:Hid (Calls Tryz.prog 191 #[.slice (some ⟨b,0,none⟩) (xs.length- 1) xs.length] w fun e w'=>z47 w.heap.size (z0E ((xs.map (·.data.toList)).dropLast)) e w'∧Below w.heap.size w w'):=by
  have:=z4K b xs.length xs.dropLast w hb (by simp) hcap2 (fun x hx=>by have:=hs x (List.dropLast_subset _ hx);unfold maxLen;omega) (by
   intro j y hj;refine hcl j y ?_;rw[List.getElem?_dropLast] at hj;split at hj
   ·exact hj
   ·simp at hj) henv
  rw[List.length_dropLast,List.map_dropLast] at this;exact this
 obtain⟨i0,hi,hz0,hz1,hz2⟩:=info_parts zfb;obtain⟨L,hL⟩:∃L,xs.length=L+1:=⟨xs.length- 1,by omega⟩;rw[hL,Nat.add_sub_cancel] at HCT;rw[hL,Nat.add_sub_cancel] at hc;rw[hL];have hL2:L+1≤4294967282:=by omega
 have HPL:Hid (∀ps,z0E ((xs.map (·.data.toList)).dropLast)=some ps→ps.length≤L):=by intro ps hp;have:=z52 _ _ _ hp;simp at this;omega
 generalize hgo:z0E ((xs.map (·.data.toList)).dropLast)=goal;generalize hdo:z0J x.data.toList=z1V;have HD:=hI hdo;clear hdo;rw[hgo] at HCT HPL;clear hcl henv hs hx hno hgo hne hL hcap2;go_enter Tryz.func193,Tryz.ntmps193;go_wp2_with fail;refine HCN.out.mono ?_;rintro e w1 ⟨rfl,hw⟩;obtain rfl:=hw.symm;go_wp2_with fail;refine HCT.out.mono ?_;cases goal with
 |none=>rintro e w1 ⟨⟨te,ve,rfl⟩,hbw⟩;go_wp2;go_ret2;refine⟨?_,hbw⟩;cases z1V<;>exact⟨_,_,rfl⟩
 |some ps=>
  rintro e w1 ⟨⟨v,rfl,hown⟩,hbw⟩;have hpl:=HPL ps rfl;have HB:=hI hbw;have HO:=hI hown;have hc1:=(hbw.cell (by exact hb)).trans hc;have hz1':=hbw.size;have HV1:=hI (HV.out.below hbw);clear hbw hown;go_wp2_with fail;refine(z94 x _ hxs HV1).mono ?_;have hran:=z5W x.data.toList;rw[HD.out] at hran⊢;cases z1V with
  |none=>rintro e w2 ⟨⟨te,ve,rfl⟩,hb2⟩;have HB2:=hI (HB.out.trans (hb2.mono (by omega)));have hc2:=(hb2.cell (by show b<_;omega)).trans hc1;clear hb2 hran;go_wp2;go_quiet (fail);go_wp2;go_ret2;exact⟨⟨_,_,rfl⟩,Go.below_drewN HB2 _⟩
  |some n=>
   rintro e w2 ⟨rfl,hb2⟩;have hr:=hran n rfl;have HB2:=hI (HB.out.trans (hb2.mono (by omega)));have HA:=hI (zjQ n hr.1 hr.2);have HO2:=(z5t HO hb2).alloc (.cells #[.int .u64 (n/65536),.int .u64 (bits .and .u64 n 65535)] 151);have hz2':=hb2.size;clear hb2 hran;go_wp2_with(at_builtin;refine wpList_append_own _ rfl _ _ 225 rfl w.heap.size 151 i0 (.int .u64 0) 1 8 Tryz.underlying225 hi hz0 hz1 hz2 rfl (by decide) _ _ _ rfl HO2 ⟨w2.heap.size,0,none⟩ 2 2 [.int .u64 (n/65536),.int .u64 (bits .and .u64 n 65535)] rfl rfl ?c1 ?c2 ?c3 ?c4 ?c5 ?_)
   case c1=>
    intro j u hj;match j,hj with
    |0,hj=>simp at hj;subst hj;exact World.cell?_alloc_new w2 _ 151 0
    |1,hj=>simp at hj;subst hj;exact World.cell?_alloc_new w2 _ 151 1
   case c2=>intro u hu;simp at hu;rcases hu with rfl|rfl<;>rfl
   case c3=>unfold maxLen;omega
   case c4=>omega
   case c5=>simp;omega
   intro v' w3 hown' hgrow _;have HOW:=hI hown';have HBB:=hI ((HB2.out.alloc (by omega) _).grown hgrow (by simp;omega) (fun k hk=>(HO2.lt k hk).1));clear hown' hgrow HO2;go_wp2;go_ret2;refine⟨⟨_,rfl,?_⟩,HBB⟩;have:=HOW;rw[HA.out] at this;rw[List.length_append,List.map_append];exact this
theorem zkq (B:Nat) (ls:List (List UInt8)) (v:Value) (w:World) (hv:z8U B w ls v) (henv:Tryz.Env w):Calls Tryz.prog 193 #[v] w fun e w'=>z47 w.heap.size (z1s ls) e w'∧Below w.heap.size w w':=by
 rcases hv with⟨rfl,rfl⟩|⟨xs,rfl,hne,hlen,rfl,hcl,hB,hs⟩
 ·refine(zac w).mono ?_
  rintro e w' ⟨rfl,rfl⟩;exact⟨⟨_,rfl,World.ownsRow_nil _ _ _ _⟩,Below.refl _ _⟩
 ·have hpos:=List.length_pos_iff.2 hne
  obtain⟨x,hx⟩:∃x,xs[xs.length- 1]?=some x:=⟨xs[xs.length- 1]'(by omega),by simp⟩;have hl:(xs.map (·.data.toList)).getLast? =some x.data.toList:=by rw[List.getLast?_map,List.getLast?_eq_getElem?,hx];rfl
  unfold z1s;rw[hl];by_cases hno:0≤Lib.indexByte x.data.toList 46
  ·simp only[hno,if_true]
   exact z9M B xs x w hB hlen hs hcl henv hx (by simpa using hno)
  ·simp only[hno,if_false]
   exact z95 B xs x w hB hlen hs hcl henv hx (by simpa using hno)
theorem ziN (B:Nat) (ls:List (List UInt8)) (v:Value) (w:World) (hv:z8U B w ls v) (henv:Tryz.Env w):Calls Tryz.prog 191 #[v] w fun e w'=>z47 w.heap.size (z0E ls) e w'∧Below w.heap.size w w':=by
 rcases hv with⟨rfl,rfl⟩|⟨xs,rfl,hne,hlen,rfl,hcl,hB,hs⟩
 ·refine(z62 w).mono ?_
  rintro e w' ⟨rfl,rfl⟩;exact⟨⟨_,rfl,World.ownsRow_nil _ _ _ _⟩,Below.refl _ _⟩
 ·exact z4K B xs.length xs w hB (Nat.le_refl _) hlen (fun x hx=>by have:=hs x hx;unfold maxLen;omega) hcl henv
theorem zp7:(prog.info? 177).map (·.size)=some 8:=by kernel_rfl
theorem zov:(prog.info? 151).map (·.size)=some 1:=by kernel_rfl
theorem z32 (w:World) (a b c:Obj):(((w.alloc a).alloc b).alloc c).heap[w.heap.size]?=some a∧(((w.alloc a).alloc b).alloc c).heap[w.heap.size+1]?=some b∧(((w.alloc a).alloc b).alloc c).heap[w.heap.size+2]?=some c∧(((w.alloc a).alloc b).alloc c).heap.size=w.heap.size+3:=by
 simp only[World.alloc,Array.getElem?_push,Array.size_push];refine⟨?_,?_,?_,?_⟩
 ·rw[if_neg (by omega),if_neg (by omega),if_pos trivial]
 ·rw[if_neg (by omega),if_pos trivial]
 ·rw[if_pos trivial]
 ·trivial
theorem z3d (l:List Int):(z0d l).all (·.oneCell')=true:=by unfold z0d;rw[List.all_toArray,List.all_eq_true];intro u hu;exact ints_oneCell .u64 l u hu
theorem z6q (l:List Int):(z0d l).size=l.length:=by simp[z0d]
theorem zpf:prog.arrayLen 177=8:=by kernel_rfl
theorem zp8:prog.elem 177=151:=by kernel_rfl
theorem zoM:prog.underlying 177=some (.array (prog.arrayLen 177) (prog.elem 177)):=by rw[zpf,zp8];exact underlying177
theorem zow (w:World):(sizeOf 151).run prog w=.ok 1 w:=by
 have h:=zov;cases hq:prog.info? 151 with
 |none=>rw[hq] at h;simp at h
 |some i=>
  rw[hq] at h;have:i.size=1:=by simpa using h
  simp[sizeOf,typeInfo,hq,this]
theorem zmc (g d:Nat) (hd:d<8) (w:World):(Instr.sliceAt 177 (.pointer (some ⟨g,0,none⟩)) (some (.int .i64 d)) none none).run prog w=.ok (.slice (some ⟨g,d,none⟩) (8- d) (8- d)) w:=by rw[run_sliceAt_array_l w 177 ⟨g,0,none⟩ zoM .i64 d (by omega) (by rw[zpf];omega),zp8,zow,zpf];simp only[Result.andThen,slicedAt,Int.toNat_natCast,Nat.mul_one];rw[if_neg (by omega),show(⟨g,0,none⟩:Addr).add d=⟨g,d,none⟩ by unfold Addr.add;split<;>simp_all]
theorem zmd (g:Nat) (w:World):(Instr.sliceAt 177 (.pointer (some ⟨g,0,none⟩)) (some (.int .i64 8)) none none).run prog w=.ok (.slice (some ⟨g,0,none⟩) 0 0) w:=by rw[run_sliceAt_array_l w 177 ⟨g,0,none⟩ zoM .i64 8 (by omega) (by rw[zpf];omega),zp8,zow,zpf];rfl
theorem zlw (g d:Nat) (hd:d≤8) (w:World):(Instr.sliceAt 177 (.pointer (some ⟨g,0,none⟩)) none (some (.int .i64 d)) none).run prog w=.ok (.slice (some ⟨g,0,none⟩) d 8) w:=by rw[run_sliceAt_array_h w 177 ⟨g,0,none⟩ zoM .i64 d (by omega) (by rw[zpf];omega),zp8,zow,zpf];simp only[Result.andThen,slicedAt,Int.toNat_natCast];rw[if_neg (by omega),Nat.zero_mul,show(⟨g,0,none⟩:Addr).add 0=⟨g,0,none⟩ by rfl];rfl
theorem zdn (w:World) (g j:Nat) (t:TypeId) (hj:j<8) (hg:w.heap[g]?=some (.cells (z0d zero8) t (0,0))):w.setCell ⟨g,j,none⟩ (.int .u64 0)=w:=by
 rw[setCell_eq_setRow w g j (z0d zero8) t (0,0) _ hg];have e:(z0d zero8).setIfInBounds j (.int .u64 0)=z0d zero8:=by
  match j,hj with
  |0,_=>rfl
  |1,_=>rfl
  |2,_=>rfl
  |3,_=>rfl
  |4,_=>rfl
  |5,_=>rfl
  |6,_=>rfl
  |7,_=>rfl
 rw[e];exact setRow_self w g _ t (0,0) hg
theorem z6e {P:Program} {w:World} {ops:Array Oper} {rest:List Oper} {o:Oper} {a:Act} {Q:Exit→Act→World→Prop} (hgd:o.guard=none) (d s:Operand) (dT sT:TypeId) (ho:o.op=.call {callee:=.builtin .copy,args:=#[d,s],argTypes:=#[dT,sT]}) (elem:TypeId) (hu:P.underlying dT=some (.slice elem)) (hsz:(P.info? elem).map (·.size)=some 1) (dp sp:Option Addr) (dLen dCap sLen sCap:Nat) (hd:a.eval d=.slice dp dLen dCap) (hs:a.eval s=.slice sp sLen sCap) (g off:Nat) (cur:List Value) (t:TypeId) (hg:w.heap[g]?=some (.cells cur.toArray t (0,0))) (cs:List Value) (hn:cs.length=Nat.min sLen dLen) (hpos:0<cs.length→dp=some ⟨g,off,none⟩∧∃ad,sp=some ad∧∀j v,cs[j]?=some v→w.cell? (ad.add j)=some v) (hfit:off+cs.length≤cur.length) (h1:∀v∈cs,v.oneCell'=true) (h:∀w',Hid (w'.heap[g]?=some (.cells (splice cur off cs).toArray t (0,0)))→Hid (∀k,k≠g→w'.heap[k]?=w.heap[k]?)→Hid (w'.os=w.os∧w'.tape=w.tape∧w'.output=w.output∧w'.heap.size=w.heap.size)→wpList P ops Q rest (a.put o.dst (goInt cs.length)) w'):wpList P ops Q (o::rest) a w:=by
 by_cases h0:cs.length=0
 ·obtain rfl:cs=[]:=List.eq_nil_of_length_eq_zero h0
  refine wpList_copy_nothing hgd d s dT sT ho elem hu hsz dp sp dLen dCap sLen sCap hd hs (by simpa using hn.symm) ?_;exact h w (show _=_ by simpa[splice] using hg) (fun _ _=>rfl) ⟨rfl,rfl,rfl,rfl⟩
 ·obtain⟨rfl,ad,rfl,hsrc⟩:=hpos (by omega)
  refine wpList_copy_own hgd d s dT sT ho elem hu hsz g off dLen dCap ad sLen sCap hd hs cur.toArray t hg cs hn hsrc (by simpa using hfit) h1 ?_;exact h _ (show _=_ by simpa[splice] using setRow_heap w g _ _ t _ hg) (fun k hk=>setRow_other w g k _ hk) ⟨rfl,rfl,rfl,by simp[World.setRow]⟩
theorem z6f {w:World} {base:Nat} {e:TypeId} {v:Value} {n:Nat} {xs:List Value} (h:w.ownsRow base e 1 v n xs):∃sp cap,v=.slice sp n cap∧(0<n→∃g,sp=some ⟨g,0,none⟩∧base≤g∧∀j u,xs[j]?=some u→w.cell? ⟨g,j,none⟩=some u):=by
 rcases h.2 with⟨rfl,rfl⟩|⟨g,cap,cur,rfl,h2,h3,h4,h5,h6,h7⟩
 ·exact⟨none,0,rfl,fun h=>absurd h (by omega)⟩
 ·refine⟨_,cap,rfl,fun _=>⟨g,rfl,h2,fun j u hj=>?_⟩⟩
  rw[cell_of_row w g j cur e (0,0) h3,←Array.getElem?_toList];rw[←h7,List.getElem?_take] at hj;split at hj
  ·exact hj
  ·simp at hj
def zoN (o:Option (List Int)) (e:Ending):Prop:=
 match o with
 |some ps=>e=.returned (.tuple #[.agg (z0d ps),.nilIface])
 |none=>∃t v,e=.returned (.tuple #[.agg (z0d zero8),.iface t v])
set_option maxRecDepth 100000 in
theorem zjO (s A B:ByteArray) (w:World) (hs:s.size<4294967281) (hA:A.size<4294967281) (hB:B.size<4294967281) (henv:Env w) (hcut:Lib.cut s.data.toList [58,58]=(A.data.toList,B.data.toList,true)):CP 139 #[.string s] w (zoN (z2S true (z0E (z0Z A.data.toList)) (z1s (z0Z B.data.toList)))):=by
 have HV:=hI henv;have HB3:Hid (Below w.heap.size w (((w.alloc (.cells #[.int .u64 0,.int .u64 0,.int .u64 0,.int .u64 0,.int .u64 0,.int .u64 0,.int .u64 0,.int .u64 0] 177)).alloc (.cells #[.int .u64 0,.int .u64 0,.int .u64 0,.int .u64 0,.int .u64 0,.int .u64 0,.int .u64 0,.int .u64 0] 177)).alloc (.cells #[.int .u64 0,.int .u64 0,.int .u64 0,.int .u64 0,.int .u64 0,.int .u64 0,.int .u64 0,.int .u64 0] 177))):=(((Below.refl _ w).alloc (Nat.le_refl _) _).alloc (by simp) _).alloc (by simp;omega) _;have HV3:Hid _:=HV.out.below HB3;obtain⟨m,hm⟩:=HV3.out.maxLen;have HCUT:Hid (CN 112 #[.string s,.string ⟨#[58,58]⟩] (((w.alloc (.cells #[.int .u64 0,.int .u64 0,.int .u64 0,.int .u64 0,.int .u64 0,.int .u64 0,.int .u64 0,.int .u64 0] 177)).alloc (.cells #[.int .u64 0,.int .u64 0,.int .u64 0,.int .u64 0,.int .u64 0,.int .u64 0,.int .u64 0,.int .u64 0] 177)).alloc (.cells #[.int .u64 0,.int .u64 0,.int .u64 0,.int .u64 0,.int .u64 0,.int .u64 0,.int .u64 0,.int .u64 0] 177)) (.tuple #[.string A,.string B,.bool true])):=by have:=strings_Cut s ⟨#[58,58]⟩ m (((w.alloc (.cells #[.int .u64 0,.int .u64 0,.int .u64 0,.int .u64 0,.int .u64 0,.int .u64 0,.int .u64 0,.int .u64 0] 177)).alloc (.cells #[.int .u64 0,.int .u64 0,.int .u64 0,.int .u64 0,.int .u64 0,.int .u64 0,.int .u64 0,.int .u64 0] 177)).alloc (.cells #[.int .u64 0,.int .u64 0,.int .u64 0,.int .u64 0,.int .u64 0,.int .u64 0,.int .u64 0,.int .u64 0] 177)) hs hm;rw[show(⟨#[58,58]⟩:ByteArray).data.toList=[58,58] from rfl,hcut] at this;exact this
 have HZ0:Hid ((((w.alloc (.cells #[.int .u64 0,.int .u64 0,.int .u64 0,.int .u64 0,.int .u64 0,.int .u64 0,.int .u64 0,.int .u64 0] 177)).alloc (.cells #[.int .u64 0,.int .u64 0,.int .u64 0,.int .u64 0,.int .u64 0,.int .u64 0,.int .u64 0,.int .u64 0] 177)).alloc (.cells #[.int .u64 0,.int .u64 0,.int .u64 0,.int .u64 0,.int .u64 0,.int .u64 0,.int .u64 0,.int .u64 0] 177)).heap[w.heap.size]?=some (.cells (z0d zero8) 177 (0,0))):=(z32 w _ _ _).1;have HZ1:Hid ((((w.alloc (.cells #[.int .u64 0,.int .u64 0,.int .u64 0,.int .u64 0,.int .u64 0,.int .u64 0,.int .u64 0,.int .u64 0] 177)).alloc (.cells #[.int .u64 0,.int .u64 0,.int .u64 0,.int .u64 0,.int .u64 0,.int .u64 0,.int .u64 0,.int .u64 0] 177)).alloc (.cells #[.int .u64 0,.int .u64 0,.int .u64 0,.int .u64 0,.int .u64 0,.int .u64 0,.int .u64 0,.int .u64 0] 177)).heap[w.heap.size+1]?=some (.cells (z0d zero8) 177 (0,0))):=(z32 w _ _ _).2.1;have HZ2:Hid ((((w.alloc (.cells #[.int .u64 0,.int .u64 0,.int .u64 0,.int .u64 0,.int .u64 0,.int .u64 0,.int .u64 0,.int .u64 0] 177)).alloc (.cells #[.int .u64 0,.int .u64 0,.int .u64 0,.int .u64 0,.int .u64 0,.int .u64 0,.int .u64 0,.int .u64 0] 177)).alloc (.cells #[.int .u64 0,.int .u64 0,.int .u64 0,.int .u64 0,.int .u64 0,.int .u64 0,.int .u64 0,.int .u64 0] 177)).heap[w.heap.size+2]?=some (.cells (z0d zero8) 177 (0,0))):=(z32 w _ _ _).2.2.1;have HS3:Hid ((((w.alloc (.cells #[.int .u64 0,.int .u64 0,.int .u64 0,.int .u64 0,.int .u64 0,.int .u64 0,.int .u64 0,.int .u64 0] 177)).alloc (.cells #[.int .u64 0,.int .u64 0,.int .u64 0,.int .u64 0,.int .u64 0,.int .u64 0,.int .u64 0,.int .u64 0] 177)).alloc (.cells #[.int .u64 0,.int .u64 0,.int .u64 0,.int .u64 0,.int .u64 0,.int .u64 0,.int .u64 0,.int .u64 0] 177)).heap.size=w.heap.size+3):=(z32 w _ _ _).2.2.2;generalize hfo:z0E (z0Z A.data.toList)=fo;generalize hgo:z1s (z0Z B.data.toList)=go;have HFO:=hI hfo;have HGO:=hI hgo;clear henv hm hcut hfo hgo;go_enter func139,ntmps139;go_wp2_with fail;refine HCUT.out.mono ?_;rintro e w1 ⟨rfl,nd,hw1⟩;have HB1:Hid (Below w.heap.size w w1):=by rw[hw1];exact Go.below_drewN HB3 nd
 have HV1:Hid _:=HV.out.below HB1;have HY0:Hid (w1.heap[w.heap.size]?=some (.cells (z0d zero8) 177 (0,0))):=by rw[hw1];exact HZ0
 have HY1:Hid (w1.heap[w.heap.size+1]?=some (.cells (z0d zero8) 177 (0,0))):=by rw[hw1];exact HZ1
 have HY2:Hid (w1.heap[w.heap.size+2]?=some (.cells (z0d zero8) 177 (0,0))):=by rw[hw1];exact HZ2
 have hs1:w1.heap.size=w.heap.size+3:=by rw[hw1];exact HS3
 have HSZ:=hI hs1;clear hw1 hs1 HZ0 HZ1 HZ2 HS3 HV3 HB3 HCUT;obtain⟨m1,hm1⟩:=HV1.out.maxLen;have HM1:=hI hm1;clear hm1;go_wp2_with fail;refine(zi7 A m1 _ hA HM1).mono ?_;rintro e w2 ⟨⟨v2,rfl,hrow2⟩,hb2⟩;have HR2:=hI hrow2;have HB2:=hI hb2;have HV2:Hid _:=HV1.out.below HB2;clear hrow2 hb2;go_wp2_with fail;refine(ziN _ _ v2 _ HR2 HV2).mono ?_;rw[HFO.out];cases fo with
 |none=>rintro e w3 ⟨⟨te,ve,rfl⟩,hb3⟩;have HBB:Hid _:=HB2.out.trans (hb3.mono (HB2.out.size));have HX0:Hid _:=(HBB.out.block _ (by rw[HSZ.out];omega)).trans HY0;have HX1:Hid _:=(HBB.out.block _ (by rw[HSZ.out];omega)).trans HY1;clear hb3;go_wp2_with(first|refine wpList_load_row rfl 177 _ rfl (w.heap.size+1) rfl 177 (z0d zero8) (0,0) _ HX1 underlying177 rfl zp7 ?_|refine wpList_store_row rfl 177 _ _ rfl w.heap.size (z0d zero8) rfl rfl 177 (z0d zero8) HX0 zp7 rfl (z3d _) ?_);(try simp only[Exit.inBlock,Exit.then]);have hld:=run_loadVar_row (P:=prog) (w3.setRow w.heap.size (z0d zero8)) w.heap.size 177 177 (z0d zero8) (0,0) _ (setRow_heap w3 w.heap.size (z0d zero8) (z0d zero8) 177 (0,0) HX0) underlying177 rfl zp7;refine bodyPost_ret (v:=.tuple #[.agg (z0d zero8),.iface te ve]) ?_ rfl ⟨⟨_,_,rfl⟩,below_setRow (HB1.out.trans (HBB.out.mono (by rw[HSZ.out];omega))) (Nat.le_refl _) _⟩;rw[results_cell_tmp rfl];simp[asAddr,Result.andThen,hld]
 |some f=>
  rintro e w3 ⟨⟨v3,rfl,hown⟩,hb3⟩;have HBB3:Hid _:=HB2.out.trans (hb3.mono (HB2.out.size));obtain⟨sp3,cap3,rfl,hf3⟩:=z6f hown;have HF3:=hI hf3;have hfl:f.length≤4294967283:=by have:=z52 _ _ _ HFO;have h2:=z5X A.data.toList;simp at this h2;omega
  have HV3:Hid _:=HV1.out.below HBB3;obtain⟨m3,hm3⟩:=HV3.out.maxLen;have HM3:=hI hm3;clear hm3 hb3 hown hf3;go_wp2_with fail;refine(zi7 B m3 _ hB HM3).mono ?_;rintro e w4 ⟨⟨v4,rfl,hrow4⟩,hb4⟩;have HR4:=hI hrow4;have HB4:=hI hb4;have HV4:Hid _:=HV3.out.below HB4;clear hrow4 hb4;go_wp2_with fail;refine(zkq _ _ v4 _ HR4 HV4).mono ?_;rw[HGO.out];cases go with
  |none=>rintro e w5 ⟨⟨te,ve,rfl⟩,hb5⟩;have HBB:Hid _:=HBB3.out.trans ((HB4.out.trans (hb5.mono HB4.out.size)).mono HBB3.out.size);have HX0:Hid _:=(HBB.out.block _ (by rw[HSZ.out];omega)).trans HY0;have HX1:Hid _:=(HBB.out.block _ (by rw[HSZ.out];omega)).trans HY1;clear hb5;go_wp2_with(first|refine wpList_load_row rfl 177 _ rfl (w.heap.size+1) rfl 177 (z0d zero8) (0,0) _ HX1 underlying177 rfl zp7 ?_|refine wpList_store_row rfl 177 _ _ rfl w.heap.size (z0d zero8) rfl rfl 177 (z0d zero8) HX0 zp7 rfl (z3d _) ?_);(try simp only[Exit.inBlock,Exit.then]);have hld:=run_loadVar_row (P:=prog) (w5.setRow w.heap.size (z0d zero8)) w.heap.size 177 177 (z0d zero8) (0,0) _ (setRow_heap w5 w.heap.size (z0d zero8) (z0d zero8) 177 (0,0) HX0) underlying177 rfl zp7;refine bodyPost_ret (v:=.tuple #[.agg (z0d zero8),.iface te ve]) ?_ rfl ⟨⟨_,_,rfl⟩,below_setRow (HB1.out.trans (HBB.out.mono (by rw[HSZ.out];omega))) (Nat.le_refl _) _⟩;rw[results_cell_tmp rfl];simp[asAddr,Result.andThen,hld]
  |some g=>
   rintro e w5 ⟨⟨v5,rfl,hown5⟩,hb5⟩;have HB35:Hid _:=HB4.out.trans (hb5.mono HB4.out.size);have HBB:Hid _:=HBB3.out.trans (HB35.out.mono HBB3.out.size);obtain⟨sp5,cap5,rfl,hf5⟩:=z6f hown5;have HF5:=hI hf5;have HX0:Hid _:=(HBB.out.block _ (by rw[HSZ.out];omega)).trans HY0;have HX1:Hid _:=(HBB.out.block _ (by rw[HSZ.out];omega)).trans HY1;have HX2:Hid _:=(HBB.out.block _ (by rw[HSZ.out];omega)).trans HY2;have hgl:g.length≤4294967285:=by have:=zaD _ _ HGO;have h2:=z5X B.data.toList;simp at this h2;omega
   clear hb5 hown5 hf5;go_wp2_with fail;refine(ziP _ true _).mono ?_;rintro e w6 ⟨rfl,hw6⟩;obtain rfl:=hw6.symm;by_cases hcount:decide ((f.length:Int)+(g.length:Int)<8)=true
   ·have hcl:f.length+g.length≤8:=by
     simp at hcount;omega
    have HCO:=hI hcount;have HFX:Hid (0<f.length→∃k,sp3=some ⟨k,0,none⟩∧w.heap.size+1+1<k∧∀j u,(f.map (Value.int .u64))[j]?=some u→w5.cell? ⟨k,j,none⟩=some u):=(by intro h;obtain⟨k,h1,h2,h3⟩:=HF3 h;have h4:=HB2.out.size;rw[HSZ.out] at h4;refine⟨k,h1,by omega,fun j u hj=>?_⟩;have hz:=h3 j u hj;exact(HB35.out.cell (by exact block_lt_of_cell hz)).trans hz);have HGX:Hid (0<g.length→∃k,sp5=some ⟨k,0,none⟩∧w.heap.size+1+1<k∧∀j u,(g.map (Value.int .u64))[j]?=some u→w5.cell? ⟨k,j,none⟩=some u):=(by intro h;obtain⟨k,h1,h2,h3⟩:=HF5 h;have h4:=HB2.out.size;have h5:=HBB3.out.size;have h6:=HB4.out.size;rw[HSZ.out] at h4 h5;exact⟨k,h1,by omega,h3⟩);obtain⟨F,hF⟩:=z09 (f.map (Value.int .u64));obtain⟨G,hG⟩:=z09 (g.map (Value.int .u64));have hFl:F.length=f.length:=(by rw[hF];simp);have hGl:G.length=g.length:=(by rw[hG];simp);have HF1:Hid (∀v∈F,v.oneCell'=true):=(by rw[hF];exact ints_oneCell .u64 f);have HG1:Hid (∀v∈G,v.oneCell'=true):=(by rw[hG];exact ints_oneCell .u64 g);rw[←hF] at HFX;rw[←hG] at HGX;have HFE:=hI hF;have HGE:=hI hG;clear hF hG;go_wp2_with(refine z6e rfl _ _ 225 225 rfl 151 underlying225 zov (some ⟨w.heap.size+1+1,0,none⟩) sp3 8 8 f.length cap3 rfl rfl (w.heap.size+1+1) 0 (zero8.map (Value.int .u64)) 177 HX2 F ?c1 ?c2 ?c3 HF1 ?_)
    case c1=>rw[hFl];exact(Nat.min_eq_left (by omega)).symm
    case c2=>intro h;obtain⟨k,h1,h2,h3⟩:=HFX (by omega);refine⟨_,h1,fun j v hj=>?_⟩;rw[show(⟨k,0,none⟩:Addr).add j=⟨k,j,none⟩ by unfold Addr.add;split<;>simp_all];exact h3 j v hj
    case c3=>rw[hFl];show 0+f.length≤8;omega
    intro w6 HA1 HA2 HA3;obtain⟨d,hd⟩:∃d:Nat,d+g.length=8:=⟨8- g.length,by omega⟩;have hdi:(8:Int)-(g.length:Int)=(d:Int):=(by omega);have HD:=hI hd;have hd8:d≤8:=(by omega);clear hd;by_cases hg0:g.length=0
    ·have hd9:d=8:=by have:=HD;omega
     subst hd9;have hsl:=zmd (w.heap.size+1+1) w6;go_wp2_with(refine z6e rfl _ _ 225 225 rfl 151 underlying225 zov (some ⟨w.heap.size+1+1,0,none⟩) sp5 0 0 g.length cap5 rfl rfl (w.heap.size+1+1) 8 (splice (zero8.map (Value.int .u64)) 0 F) 177 HA1 G ?d1 ?d2 ?d3 HG1 ?_)
     case d1=>rw[hGl,hg0];rfl
     case d2=>intro h;omega
     case d3=>rw[hGl,hg0,length_splice _ _ _ (by rw[hFl];show 0+f.length≤8;omega)];decide
     intro w7 HE1 HE2 HE3;have HX7:Hid _:=((HE2 _ (by omega)).trans (HA2 _ (by omega))).trans HX0;have HFILL:Hid ((splice (splice (zero8.map (Value.int .u64)) 0 F) 8 G).toArray=z0d (f++(List.replicate (8- f.length- g.length) 0++g))):=by show _=_;rw[HFE.out,HGE.out];exact z6r f g 8 HD hcl
     have h8:(z0d (f++(List.replicate (8- f.length- g.length) 0++g))).size=8:=(by rw[z6q];simp;omega);have HE1':Hid (w7.heap[w.heap.size+1+1]?=some (.cells (z0d (f++(List.replicate (8- f.length- g.length) 0++g))) 177 (0,0))):=(by have:=HE1;rw[HFILL.out] at this;exact this);have H8:Hid ((prog.info? 177).map (·.size)=some (z0d (f++(List.replicate (8- f.length- g.length) 0++g))).size):=(by show _=_;rw[h8];exact zp7);have H88:Hid ((z0d zero8).size=(z0d (f++(List.replicate (8- f.length- g.length) 0++g))).size):=h8.symm;clear h8 HE1 HFILL;obtain⟨R,hR⟩:=z09 (f++(List.replicate (8- f.length- g.length) 0++g));rw[←hR] at HE1' H8 H88;have HRR:=hI hR;clear hR;go_wp2_with(first|refine wpList_load_row rfl 177 _ rfl (w.heap.size+1+1) rfl 177 (z0d R) (0,0) _ HE1' underlying177 rfl H8 ?_|refine wpList_store_row rfl 177 _ _ rfl w.heap.size (z0d R) rfl rfl 177 (z0d zero8) HX7 H8 H88 (z3d _) ?_);(try simp only[Exit.inBlock,Exit.then]);have hld:=run_loadVar_row (P:=prog) (w7.setRow w.heap.size (z0d R)) w.heap.size 177 177 (z0d R) (0,0) _ (setRow_heap w7 w.heap.size (z0d zero8) (z0d R) 177 (0,0) HX7) underlying177 rfl H8;have hB7:Below w.heap.size w w7:=(by have h1:=HB1.out.trans (HBB.out.mono (by rw[HSZ.out];omega));obtain⟨a1,a2,a3,a4⟩:=HA3;obtain⟨b1,b2,b3,b4⟩:=HE3;exact h1.trans ⟨b1.trans a1,b2.trans a2,b3.trans a3,by omega,fun k hk=>(HE2 k (by omega)).trans (HA2 k (by omega))⟩);refine bodyPost_ret (v:=.tuple #[.agg (z0d R),.nilIface]) ?_ rfl ⟨?_,below_setRow hB7 (Nat.le_refl _) _⟩
     ·rw[results_cell_tmp rfl]
      simp[asAddr,Result.andThen,hld]
     ·show zoN (if _ then _ else _) _
      rw[if_pos (by exact HCO.out),HRR.out];rfl
    ·have hd9:d<8:=by have:=HD;omega
     have hsl:=zmc (w.heap.size+1+1) d hd9 w6;go_wp2_with(refine z6e rfl _ _ 225 225 rfl 151 underlying225 zov (some ⟨w.heap.size+1+1,d,none⟩) sp5 (8- d) (8- d) g.length cap5 rfl rfl (w.heap.size+1+1) d (splice (zero8.map (Value.int .u64)) 0 F) 177 HA1 G ?d1 ?d2 ?d3 HG1 ?_)
     case d1=>rw[hGl];have:=HD;exact(Nat.min_eq_left (by omega)).symm
     case d2=>intro h;obtain⟨k,h1,h2,h3⟩:=HGX (by omega);refine⟨_,h1,fun j v hj=>?_⟩;rw[show(⟨k,0,none⟩:Addr).add j=⟨k,j,none⟩ by unfold Addr.add;split<;>simp_all];rw[World.cell?_of_block (w:=w5) (HA2.out k (by omega))];exact h3 j v hj
     case d3=>rw[hGl,length_splice _ _ _ (by rw[hFl];show 0+f.length≤8;omega)];have:=HD;show d+g.length≤8;omega
     intro w7 HE1 HE2 HE3;have HX7:Hid _:=((HE2 _ (by omega)).trans (HA2 _ (by omega))).trans HX0;have HFILL:Hid ((splice (splice (zero8.map (Value.int .u64)) 0 F) d G).toArray=z0d (f++(List.replicate (8- f.length- g.length) 0++g))):=by show _=_;rw[HFE.out,HGE.out];exact z6r f g d HD hcl
     have h8:(z0d (f++(List.replicate (8- f.length- g.length) 0++g))).size=8:=(by rw[z6q];simp;omega);have HE1':Hid (w7.heap[w.heap.size+1+1]?=some (.cells (z0d (f++(List.replicate (8- f.length- g.length) 0++g))) 177 (0,0))):=(by have:=HE1;rw[HFILL.out] at this;exact this);have H8:Hid ((prog.info? 177).map (·.size)=some (z0d (f++(List.replicate (8- f.length- g.length) 0++g))).size):=(by show _=_;rw[h8];exact zp7);have H88:Hid ((z0d zero8).size=(z0d (f++(List.replicate (8- f.length- g.length) 0++g))).size):=h8.symm;clear h8 HE1 HFILL;obtain⟨R,hR⟩:=z09 (f++(List.replicate (8- f.length- g.length) 0++g));rw[←hR] at HE1' H8 H88;have HRR:=hI hR;clear hR;go_wp2_with(first|refine wpList_load_row rfl 177 _ rfl (w.heap.size+1+1) rfl 177 (z0d R) (0,0) _ HE1' underlying177 rfl H8 ?_|refine wpList_store_row rfl 177 _ _ rfl w.heap.size (z0d R) rfl rfl 177 (z0d zero8) HX7 H8 H88 (z3d _) ?_);(try simp only[Exit.inBlock,Exit.then]);have hld:=run_loadVar_row (P:=prog) (w7.setRow w.heap.size (z0d R)) w.heap.size 177 177 (z0d R) (0,0) _ (setRow_heap w7 w.heap.size (z0d zero8) (z0d R) 177 (0,0) HX7) underlying177 rfl H8;have hB7:Below w.heap.size w w7:=(by have h1:=HB1.out.trans (HBB.out.mono (by rw[HSZ.out];omega));obtain⟨a1,a2,a3,a4⟩:=HA3;obtain⟨b1,b2,b3,b4⟩:=HE3;exact h1.trans ⟨b1.trans a1,b2.trans a2,b3.trans a3,by omega,fun k hk=>(HE2 k (by omega)).trans (HA2 k (by omega))⟩);refine bodyPost_ret (v:=.tuple #[.agg (z0d R),.nilIface]) ?_ rfl ⟨?_,below_setRow hB7 (Nat.le_refl _) _⟩
     ·rw[results_cell_tmp rfl]
      simp[asAddr,Result.andThen,hld]
     ·show zoN (if _ then _ else _) _
      rw[if_pos (by exact HCO.out),HRR.out];rfl
   ·have HCN:=hI hcount
    have HVE:Hid _:=HV1.out.below HBB;obtain⟨te,ve,hce⟩:=HVE.out.eCount;have hr0:w5.cell? ⟨w.heap.size+1,0,none⟩=some (.int .u64 0):=(by rw[cell_of_row w5 _ _ _ _ _ HX1.out];rfl);have hq0:w5.cell? ⟨w.heap.size,0,none⟩=some (.int .u64 0):=(by rw[cell_of_row w5 _ _ _ _ _ HX0.out];rfl);have hz0:w5.frozen? ⟨w.heap.size,0,none⟩=false:=frozen_of_row w5 _ _ _ _ HX0;have hr1:w5.cell? ⟨w.heap.size+1,1,none⟩=some (.int .u64 0):=(by rw[cell_of_row w5 _ _ _ _ _ HX1.out];rfl);have hq1:w5.cell? ⟨w.heap.size,1,none⟩=some (.int .u64 0):=(by rw[cell_of_row w5 _ _ _ _ _ HX0.out];rfl);have hz1:w5.frozen? ⟨w.heap.size,1,none⟩=false:=frozen_of_row w5 _ _ _ _ HX0;have hr2:w5.cell? ⟨w.heap.size+1,2,none⟩=some (.int .u64 0):=(by rw[cell_of_row w5 _ _ _ _ _ HX1.out];rfl);have hq2:w5.cell? ⟨w.heap.size,2,none⟩=some (.int .u64 0):=(by rw[cell_of_row w5 _ _ _ _ _ HX0.out];rfl);have hz2:w5.frozen? ⟨w.heap.size,2,none⟩=false:=frozen_of_row w5 _ _ _ _ HX0;have hr3:w5.cell? ⟨w.heap.size+1,3,none⟩=some (.int .u64 0):=(by rw[cell_of_row w5 _ _ _ _ _ HX1.out];rfl);have hq3:w5.cell? ⟨w.heap.size,3,none⟩=some (.int .u64 0):=(by rw[cell_of_row w5 _ _ _ _ _ HX0.out];rfl);have hz3:w5.frozen? ⟨w.heap.size,3,none⟩=false:=frozen_of_row w5 _ _ _ _ HX0;have hr4:w5.cell? ⟨w.heap.size+1,4,none⟩=some (.int .u64 0):=(by rw[cell_of_row w5 _ _ _ _ _ HX1.out];rfl);have hq4:w5.cell? ⟨w.heap.size,4,none⟩=some (.int .u64 0):=(by rw[cell_of_row w5 _ _ _ _ _ HX0.out];rfl);have hz4:w5.frozen? ⟨w.heap.size,4,none⟩=false:=frozen_of_row w5 _ _ _ _ HX0;have hr5:w5.cell? ⟨w.heap.size+1,5,none⟩=some (.int .u64 0):=(by rw[cell_of_row w5 _ _ _ _ _ HX1.out];rfl);have hq5:w5.cell? ⟨w.heap.size,5,none⟩=some (.int .u64 0):=(by rw[cell_of_row w5 _ _ _ _ _ HX0.out];rfl);have hz5:w5.frozen? ⟨w.heap.size,5,none⟩=false:=frozen_of_row w5 _ _ _ _ HX0;have hr6:w5.cell? ⟨w.heap.size+1,6,none⟩=some (.int .u64 0):=(by rw[cell_of_row w5 _ _ _ _ _ HX1.out];rfl);have hq6:w5.cell? ⟨w.heap.size,6,none⟩=some (.int .u64 0):=(by rw[cell_of_row w5 _ _ _ _ _ HX0.out];rfl);have hz6:w5.frozen? ⟨w.heap.size,6,none⟩=false:=frozen_of_row w5 _ _ _ _ HX0;have hr7:w5.cell? ⟨w.heap.size+1,7,none⟩=some (.int .u64 0):=(by rw[cell_of_row w5 _ _ _ _ _ HX1.out];rfl);have hq7:w5.cell? ⟨w.heap.size,7,none⟩=some (.int .u64 0):=(by rw[cell_of_row w5 _ _ _ _ _ HX0.out];rfl);have hz7:w5.frozen? ⟨w.heap.size,7,none⟩=false:=frozen_of_row w5 _ _ _ _ HX0;have HSET:=hI fun j hj=>zdn w5 w.heap.size j _ hj HX0;have hne1:¬(14=w.heap.size):=(by have:=HV.out.size;omega);have hne2:¬(w.heap.size=14):=(by have:=HV.out.size;omega);go_wp2;go_region;all_goals
     simp only[HSET.out 0 (by omega),HSET.out 1 (by omega),HSET.out 2 (by omega),HSET.out 3 (by omega),HSET.out 4 (by omega),HSET.out 5 (by omega),HSET.out 6 (by omega),HSET.out 7 (by omega)];go_wp2;(try simp only[Exit.inBlock,Exit.then]);have hld:=run_loadVar_row (P:=prog) w5.drew w.heap.size 177 177 (z0d zero8) (0,0) _ HX0 underlying177 rfl zp7;refine bodyPost_ret (v:=.tuple #[.agg (z0d zero8),.iface te ve]) ?_ rfl ⟨?_,(HB1.out.trans (HBB.out.mono (by rw[HSZ.out];omega))).drew⟩
     ·rw[results_cell_tmp rfl]
      simp[asAddr,Result.andThen,hld]
     ·show zoN (if _ then _ else _) _
      rw[if_neg (by exact HCN.out)];exact⟨_,_,rfl⟩
end Go.Proofs
