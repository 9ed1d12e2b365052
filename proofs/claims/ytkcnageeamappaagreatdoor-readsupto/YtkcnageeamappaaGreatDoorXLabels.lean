import Derived.Test.YtkcnageeamappaaGreatDoorXUndo
import Derived.Lib.Case
import Derived.Lib.SplitLaws
import Derived.Laws.BitsAllLaws
import Derived.Lib.ItoaNum
import Derived.Lib.Join
import Derived.Lib.LaidTab
set_option maxHeartbeats 32000000
set_option maxRecDepth 8000
namespace Go.Moor
open Go
def z0H (base most:Int):Int→List UInt8→Option Int
 |n,[]=>some n
 |n,c::l=>if z0c c.toNat<base then(if n*base+z0c c.toNat≤most then z0H base most (n*base+z0c c.toNat) l else none) else none
def z0I (most:Int):List UInt8→Option Int
 | []=>none
 |48::120::l=>z0H 16 most 0 l
 |48::c::l=>z0H 8 most 0 (c::l)
 |l=>z0H 10 most 0 l
theorem z4b (base most:Int) (hb:0≤base):∀(l:List UInt8) (n m:Int),0≤n→n≤most→z0H base most n l=some m→0≤m∧m≤most
 | [],n,m,h0,h1,h=>by simp only[z0H,Option.some.injEq] at h;omega
 |c::l,n,m,h0,h1,h=>by
  simp only[z0H] at h;split at h
  ·split at h
   ·rename_i h3
    have hv:=(z1q c.toNat).1;have hm:=Int.mul_nonneg h0 hb;exact z4b base most hb l _ m (by omega) h3 h
   ·simp at h
  ·simp at h
def z0a (c:UInt8):List UInt8→List (List UInt8)
 | []=>[[]]
 |b::l=>if b=c then []::z0a c l else(match z0a c l with|x::xs=>(b::x)::xs| []=>[[b]])
theorem z26 (c:UInt8):∀l:List UInt8,z0a c l≠[]
 | []=>by simp[z0a]
 |b::l=>by
  unfold z0a;split
  ·simp
  ·split<;>simp
theorem z3L (c:UInt8):∀l:List UInt8,(∀x∈l,x≠c)→z0a c l=[l]
 | [],_=>rfl
 |b::l,h=>by
  unfold z0a;rw[if_neg (h b (by simp)),z3L c l (fun x hx=>h x (by simp[hx]))]
theorem z2W (c:UInt8) (r:List UInt8):∀p:List UInt8,(∀x∈p,x≠c)→z0a c (p++c::r)=p::z0a c r
 | [],_=>by simp[z0a]
 |b::p,h=>by
  show z0a c (b::(p++c::r))=_;rw[z0a,if_neg (h b (by simp)),z2W c r p (fun x hx=>h x (by simp[hx]))]
theorem zd5 (c:UInt8):∀(k:Nat) (l:List UInt8),l.count c=k→Lib.splitK [c] 0 k l=z0a c l
 |0,l,h=>by
  rw[z3L c l (fun x hx e=>by subst e;exact absurd h (by have:=List.count_pos_iff.2 hx;omega))];rfl
 |k+1,l,h=>by
  rcases z2D c l with⟨_,hno⟩|⟨p,r,rfl,hno,hi⟩
  ·rw[List.count_eq_zero_of_not_mem (fun hm=>hno c hm rfl)] at h
   omega
  ·rw[z2W c r p hno]
   unfold Lib.splitK;rw[Lib.index_one,hi];have hc:=List.count_eq_zero_of_not_mem (fun hm=>hno c hm rfl);have hr:List.count c r=k:=by rw[List.count_append,hc,List.count_cons_self] at h;omega
   have e1:((p.length:Int)== -1)=false:=beq_eq_false_iff_ne.2 (by omega);rw[e1];simp only[Bool.false_eq_true,if_false,Int.toNat_natCast,Nat.add_zero,List.take_left,List.length_singleton];rw[show List.drop (p.length+1) (p++c::r)=r by simp,zd5 c k r hr]
def z1h (l:List UInt8):List (List UInt8):=
 if 1<(z0a 46 l).length∧(z0a 46 l).getLast? =some [] then(z0a 46 l).dropLast else z0a 46 l
theorem z6y (l:List UInt8):z1h l≠[]:=by
 unfold z1h;split
 ·rename_i h
  intro e;have:=congrArg List.length e;simp at this;omega
 ·exact z26 46 l
theorem z2L (c:UInt8):∀(l:List UInt8) (x:List UInt8),x∈z0a c l→x.length≤l.length
 | [],x,h=>by simp[z0a] at h;simp[h]
 |b::l,x,h=>by
  unfold z0a at h;split at h
  ·rcases List.mem_cons.1 h with rfl|h
   ·simp
   ·have:=z2L c l x h;simp;omega
  ·split at h
   ·rename_i y ys he
    rcases List.mem_cons.1 h with rfl|h
    ·have:=z2L c l y (by rw[he];simp);simp;omega
    ·have:=z2L c l x (by rw[he];simp[h]);simp;omega
   ·simp at h;simp[h]
theorem z8w (l x:List UInt8) (h:x∈z1h l):x.length≤l.length:=by
 unfold z1h at h;split at h
 ·exact z2L 46 l x (List.dropLast_subset _ h)
 ·exact z2L 46 l x h
def allB (base:Int) (l:List UInt8):Bool:=l.all fun c=>decide (z0c c.toNat<base)
def z1R (l:List UInt8):Bool:=
 if Lib.hasPrefix l [48,120] then allB 16 (l.drop 2) else !l.isEmpty&&allB 10 l
theorem z2y (most:Int) (h0:0≤most) (l:List UInt8) (m:Int) (h:z0I most l=some m):0≤m∧m≤most:=by
 unfold z0I at h;split at h
 ·simp at h
 ·exact z4b 16 most (by omega) _ 0 m (by omega) h0 h
 ·exact z4b 8 most (by omega) _ 0 m (by omega) h0 h
 ·exact z4b 10 most (by omega) _ 0 m (by omega) h0 h
def z3c:Int→List (List UInt8)→Option Int
 |a,[]=>some a
 |a,x::xs=>match z0I 255 x with|some n=>z3c (a*256+n) xs|none=>none
def ip4 (ls:List (List UInt8)):Option Int:=
 if 4<ls.length then none else
 match z3c 0 ls.dropLast with
 |none=>none
 |some a=>match z0I (2^(8*(5- ls.length))- 1) (ls.getLastD []) with
  |none=>none
  |some n=>some (a*2^(8*(5- ls.length))+n)
theorem zg5 (A M i p:Nat) (hp:2^i=p) (hA:A<16777216) (hp1:p≤4294967296) (hM:M<p):bits .or .u64 ((A*p:Nat):Int) (M:Int)=((A*p+M:Nat):Int):=by have hX:A*p≤16777216*4294967296:=Nat.mul_le_mul (by omega) hp1;rw[u64_or_nat (A*p) M (by omega) (by omega),nat_join i (A*p) M (by rw[hp];exact Nat.mul_mod_left _ _) (by rw[hp];exact hM)]
theorem z6R (a n:Int) (i p:Nat) (hp:2^i=p) (hp1:p≤4294967296) (ha0:0≤a) (ha1:a<16777216) (hn0:0≤n) (hn1:n<p):bits .or .u64 (a*p) n=a*p+n:=by obtain⟨A,rfl⟩:=Int.eq_ofNat_of_zero_le ha0;obtain⟨M,rfl⟩:=Int.eq_ofNat_of_zero_le hn0;have:=zg5 A M i p hp (by omega) hp1 (by omega);rw[Int.natCast_mul,Int.natCast_add,Int.natCast_mul] at this;exact this
theorem zav:∀(xs:List (List UInt8)) (a m:Int),0≤a→z3c a xs=some m→0≤m∧m<(a+1)*256^xs.length
 | [],a,m,h0,h=>by simp only[z3c,Option.some.injEq] at h;subst h;simp;omega
 |x::xs,a,m,h0,h=>by
  unfold z3c at h;split at h
  ·rename_i n hn
   have hr:=z2y 255 (by omega) x n hn;have:=zav xs (a*256+n) m (by omega) h;refine⟨this.1,Int.lt_of_lt_of_le this.2 ?_⟩;rw[List.length_cons,Int.pow_succ];have hpos:(0:Int)≤256^xs.length:=Int.pow_nonneg (by decide);have:(a*256+n+1)*256^xs.length≤((a+1)*256)*256^xs.length:=Int.mul_le_mul_of_nonneg_right (by omega) hpos;rw[Int.mul_assoc,Int.mul_comm 256 (256^xs.length)] at this;exact this
  ·simp at h
def z2m (a j:Nat):Nat:=a/2^(24- 8*j)%256
theorem z7d (a j:Nat):z2m a j<256:=Nat.mod_lt _ (by omega)
def z2U (a:Nat):List UInt8:=Lib.join [Lib.decDigits (z2m a 0),Lib.decDigits (z2m a 1),Lib.decDigits (z2m a 2),Lib.decDigits (z2m a 3)] [46]
theorem zkP (a k:Nat) (ha:a<4294967296):bits .and .u64 ((a:Int)/2^k) 255=((a/2^k%256:Nat):Int):=by
 have e:(a:Int)/2^k=((a/2^k:Nat):Int):=by rw[Int.natCast_ediv,Int.natCast_pow];rfl
 have hlt:a/2^k≤a:=Nat.div_le_self _ _;rw[e,show(255:Int)=((255:Nat):Int) from rfl,u64_and_nat (a/2^k) 255 (by omega) (by omega),show(255:Nat)=2^8- 1 from rfl,Nat.and_two_pow_sub_one_eq_mod]
theorem z6b (u:Nat) (h:u<256):(Lib.decDigits u).length≤3:=by
 rw[Lib.decDigits_length];by_cases h1:u<10
 ·rw[Lib.nDigits_small h1];omega
 ·rw[Lib.nDigits_big h1]
  by_cases h2:u/10<10
  ·rw[Lib.nDigits_small h2];omega
  ·rw[Lib.nDigits_big h2,Lib.nDigits_small (by omega)];omega
theorem zkQ (a:Nat):z2U a=Lib.decDigits (z2m a 0)++46::(Lib.decDigits (z2m a 1)++46::(Lib.decDigits (z2m a 2)++46::Lib.decDigits (z2m a 3))):=by unfold z2U;rw[Lib.join_cons];simp[Lib.joinTail]
theorem zd6 (a:Nat):(z2U a).length≤15:=by have h0:=z6b _ (z7d a 0);have h1:=z6b _ (z7d a 1);have h2:=z6b _ (z7d a 2);have h3:=z6b _ (z7d a 3);rw[zkQ];simp only[List.length_append,List.length_cons];omega
theorem zd7 (ls:List (List UInt8)) (n:Int) (hne:ls≠[]) (h:ip4 ls=some n):0≤n∧n<4294967296:=by
 unfold ip4 at h;split at h
 ·simp at h
 ·rename_i h4
  split at h
  ·simp at h
  ·rename_i a ha
   split at h
   ·simp at h
   ·rename_i m hm
    simp only[Option.some.injEq] at h;subst h;have hlen:1≤ls.length:=(by cases ls with|nil=>exact absurd rfl hne|cons x xs=>simp);have hf:=zav _ _ _ (by omega) ha;rw[List.length_dropLast] at hf;have hk:ls.length=1∨ls.length=2∨ls.length=3∨ls.length=4:=(by omega);rcases hk with hk|hk|hk|hk
    ·rw[hk] at hf hm⊢
     have hr:=z2y _ (by decide) _ _ hm;have e1:(2:Int)^(8*(5- 1))=4294967296:=(by decide);have e2:((0:Int)+1)*256^(1- 1)=1:=(by decide);rw[e1] at hr⊢;rw[e2] at hf;omega
    ·rw[hk] at hf hm⊢
     have hr:=z2y _ (by decide) _ _ hm;have e1:(2:Int)^(8*(5- 2))=16777216:=(by decide);have e2:((0:Int)+1)*256^(2- 1)=256:=(by decide);rw[e1] at hr⊢;rw[e2] at hf;omega
    ·rw[hk] at hf hm⊢
     have hr:=z2y _ (by decide) _ _ hm;have e1:(2:Int)^(8*(5- 3))=65536:=(by decide);have e2:((0:Int)+1)*256^(3- 1)=65536:=(by decide);rw[e1] at hr⊢;rw[e2] at hf;omega
    ·rw[hk] at hf hm⊢
     have hr:=z2y _ (by decide) _ _ hm;have e1:(2:Int)^(8*(5- 4))=256:=(by decide);have e2:((0:Int)+1)*256^(4- 1)=16777216:=(by decide);rw[e1] at hr⊢;rw[e2] at hf;omega
def zhE:List UInt8:=[0,9,10,13,32,35,47,58,60,62,63,64,91,92,93,94,124,37]
def z2p (c:UInt8):Bool:=decide (0≤Lib.indexByte zhE c)||z0n 0 c.toNat
def z14 (l:List UInt8):Option (List UInt8):=
 if l=[] then none else if l.any z2p then none else
 if z1R ((z1h (Lib.toLowerA l)).getLastD []) then(ip4 (z1h (Lib.toLowerA l))).map (fun a=>z2U a.toNat) else some (Lib.toLowerA l)
theorem zhF:∀c:Fin 256,z0n 0 c.val=false→c.val<128:=by decide+kernel
theorem zg6 (c:UInt8) (h:z2p c=false):c.toNat<128:=by
 have h2:z0n 0 c.toNat=false:=by unfold z2p at h;exact(Bool.or_eq_false_iff.1 h).2
 exact zhF ⟨c.toNat,c.toNat_lt⟩ h2
theorem z57 (c:UInt8):∀l:List UInt8,(z0a c l).length≤l.length+1
 | []=>by simp[z0a]
 |b::l=>by
  have:=z57 c l;unfold z0a;split
  ·simp;omega
  ·split
   ·rename_i x xs h;rw[h] at this;simp at this⊢;omega
   ·simp
end Go.Moor
namespace Go.Proofs
open Go.RowKit Go.Moor Go.Proofs.Tryz
def Tryz.Err (g:Nat) (w:World):Prop:=∃t v,w.cell? ⟨g,0,none⟩=some (.iface t v)
structure Tryz.Env (w:World):Prop where
 size:29≤w.heap.size
 sets:zpl w
 maxLen:∃m,w.cell? ⟨16,0,none⟩=some (.int .i64 m)
 eEmpty:Err 5 w
 eBracket:Err 4 w
 eCount:Err 14 w
 eLength:Err 18 w
 eNought:Err 24 w
 eGreat:Err 23 w
 pow10:Lib.TabIs prog w "internal/strconv.uint64pow10" .u64 Lib.pow10Tab
 errType:w.cell? ⟨2,0,none⟩=some (.iface 193 (.agg #[.pointer (some ⟨29,65,none⟩)]))
theorem Tryz.Err.below {g:Nat} {w w':World} (h:Err g w) (hb:Below w.heap.size w w') (hz:g<w.heap.size):Err g w':=by obtain⟨t,v,hc⟩:=h;exact⟨t,v,by rw[hb.cell (p:=⟨g,0,none⟩) hz];exact hc⟩
theorem zj3:prog.globalNamed "internal/strconv.uint64pow10" =some 20:=by kernel_rfl
theorem Tryz.Env.below {w w':World} (h:Env w) (hb:Below w.heap.size w w'):Env w':=by
 have hz:=h.size;obtain⟨m,hm⟩:=h.maxLen;refine⟨Nat.le_trans hz hb.size,zmg h.sets hb (by omega),⟨m,zks hm hb (by omega)⟩,h.eEmpty.below hb (by omega),h.eBracket.below hb (by omega),h.eCount.below hb (by omega),h.eLength.below hb (by omega),h.eNought.below hb (by omega),h.eGreat.below hb (by omega),?_,?_⟩
 ·have:=h.pow10
  unfold Lib.TabIs at this⊢;rw[←this];simp only[World.var?,zj3,Option.bind_some,hb.block 20 (by omega)]
 ·rw[hb.cell (p:=⟨2,0,none⟩) (show _<w.heap.size by show 2<_;omega)];exact h.errType
theorem Tryz.Env.drew {w:World} (h:Env w) (n:Nat):Env (w.drewN n):=h.below (Go.below_drewN (Below.refl _ w) n)
def z2M (o:Option Int) (e:Ending):Prop:=
 match o with
 |some n=>e=.returned (.tuple #[.int .u64 n,.nilIface])
 |none=>∃t v,e=.returned (.tuple #[.int .u64 0,.iface t v])
theorem zgc (base most n:Int) (s:ByteArray) (k:Nat) (h:k<s.size) (hd:z0c s[k].toNat<base) (hm:n*base+z0c s[k].toNat≤most):z0H base most n (s.data.toList.drop k)=z0H base most (n*base+z0c s[k].toNat) (s.data.toList.drop (k+1)):=by rw[List.drop_eq_getElem_cons (by simpa using h)];show(if z0c s[k].toNat<base then(if n*base+z0c s[k].toNat≤most then _ else _) else _)=_;rw[if_pos hd,if_pos hm];rfl
theorem zhK (base most n:Int) (s:ByteArray) (k:Nat) (h:k<s.size) (hd:¬z0c s[k].toNat<base):z0H base most n (s.data.toList.drop k)=none:=by rw[List.drop_eq_getElem_cons (by simpa using h)];show(if z0c s[k].toNat<base then(if n*base+z0c s[k].toNat≤most then _ else _) else _)=_;rw[if_neg hd]
theorem zeY (base most n:Int) (s:ByteArray) (k:Nat) (h:k<s.size) (hm:¬n*base+z0c s[k].toNat≤most):z0H base most n (s.data.toList.drop k)=none:=by
 rw[List.drop_eq_getElem_cons (by simpa using h)];show(if z0c s[k].toNat<base then(if n*base+z0c s[k].toNat≤most then _ else _) else _)=_;split
 ·first|rw[if_neg hm]|rfl
 ·rfl
theorem ziL (s:ByteArray) (base most:Int) (w:World) (hs:s.size≤maxLen) (hb0:2≤base) (hb1:base≤16) (hm0:0≤most) (hm1:most≤4294967295) (he:Err 23 w):Calls prog 264 #[.string s,.int .u64 base,.int .u64 most] w fun e w'=>z2M (z0H base most 0 s.data.toList) e∧∃n,w'=w.drewN n:=by
 unfold maxLen at hs;obtain⟨te,ve,hce⟩:=he;generalize hgo:z0H base most 0 s.data.toList=goal;have HG:=hI hgo;clear hgo;go_enter func264,ntmps264;go_wp2;go_loop [8,9] (fun n i=>∃(k:Nat) (v:Int),k≤s.size∧i=.int .i64 k∧n=.int .u64 v∧0≤v∧v≤most∧z0H base most v (s.data.toList.drop k)=goal) (fun _ i=>s.size-(intOf i).toNat)
 case atStart=>exact⟨0,0,Nat.zero_le _,rfl,rfl,Int.le_refl _,hm0,HG⟩
 case round=>
  obtain⟨k,v,hk,rfl,rfl,hv0,hv1,hrest⟩:=hrel;have HR:=hI hrest;clear hrest;by_cases hlt:k<s.size
  ·have hc:=s[k].toNat_lt
   have hx:=z1q s[k].toNat;have hp0:0≤v*base:=Int.mul_nonneg hv0 (by omega);have hp1:v*base≤4294967295*16:=Int.mul_le_mul (by omega) hb1 (by omega) (by omega);by_cases hd:z0c s[k].toNat<base
   ·by_cases hg:v*base+z0c s[k].toNat≤most
    ·go_wp2_with(go_at_call 115;refine(znP _ _ (by omega) (by omega)).mono ?_;rintro e w' ⟨rfl,rfl⟩)
     go_round
     case rel=>exact⟨k+1,_,by omega,by go_num,rfl,by omega,hg,by rw[←zgc base most v s k hlt hd hg];exact HR⟩
     case measure=>simp[intOf];omega
    ·go_wp2_with(go_at_call 115;refine(znP _ _ (by omega) (by omega)).mono ?_;rintro e w' ⟨rfl,rfl⟩)
     go_quiet (fail);go_wp2;go_ret2;refine⟨?_,_,rfl⟩;have:=HR;rw[zeY base most v s k hlt (by omega)] at this;rw[←this];exact⟨_,_,rfl⟩
   ·go_wp2_with(go_at_call 115;refine(znP _ _ (by omega) (by omega)).mono ?_;rintro e w' ⟨rfl,rfl⟩)
    go_quiet (fail);go_wp2;go_ret2;refine⟨?_,_,rfl⟩;have:=HR;rw[zhK base most v s k hlt (by omega)] at this;rw[←this];exact⟨_,_,rfl⟩
  ·go_wp2
   go_ret2;refine⟨?_,0,rfl⟩;have:=HR;rw[List.drop_eq_nil_of_le (by simp;omega)] at this;rw[←this];rfl
theorem z8x (s:ByteArray) (k:Nat):(s.extract k s.size).data.toList=s.data.toList.drop k:=by rw[Lib.extract_data,List.take_of_length_le (by simp)]
theorem zeZ (s:ByteArray) (a:UInt8) (l:List UInt8) (hl:s.data.toList=a::l) (h:0<s.size):s[0]=a:=by have:s[0]=s.data.toList[0]'(by simpa using h):=rfl;rw[this];simp[hl]
theorem zm6 (s p:ByteArray) (w:World) (h:Lib.hasPrefix s.data.toList p.data.toList=true):C0 82 #[.string s,.string p] w (.bool true):=by rw[←h];exact strings_HasPrefix s p w
theorem z8d (s p:ByteArray) (w:World) (h:Lib.hasPrefix s.data.toList p.data.toList=false):C0 82 #[.string s,.string p] w (.bool false):=by rw[←h];exact strings_HasPrefix s p w
theorem zjf (s:ByteArray) (most:Int) (w:World) (hem:s.toList.isEmpty=true) (he2:Err 5 w):Calls prog 238 #[.string s,.int .u64 most] w fun e w'=>z2M none e∧∃n,w'=w.drewN n:=by obtain⟨te,ve,hce⟩:=he2;go_enter func238,ntmps238;go_wp2;go_quiet (fail);go_wp2;go_ret2;exact⟨⟨_,_,rfl⟩,_,rfl⟩
theorem z5R {o:Option Int} {e:Ending} (h:z2M o e):∃a b,e=.returned (.tuple #[.int .u64 a,b])∧z2M o (.returned (.tuple #[.int .u64 a,b])):=by
 cases o with
 |some n=>exact⟨n,.nilIface,h,rfl⟩
 |none=>obtain⟨t,v,h⟩:=h;exact⟨0,.iface t v,h,⟨t,v,rfl⟩⟩
theorem zkU (s:ByteArray) (most:Int) (w:World) (hs:s.size≤maxLen) (hm0:0≤most) (hm1:most≤4294967295) (hem:s.toList.isEmpty=false) (h2:2≤s.size) (hpf:Lib.hasPrefix s.data.toList (⟨#[48,120]⟩:ByteArray).data.toList=true) (he:Err 23 w):Calls prog 238 #[.string s,.int .u64 most] w fun e w'=>z2M (z0H 16 most 0 (s.data.toList.drop 2)) e∧∃n,w'=w.drewN n:=by
 have HE:=hI he;have HP:=hI hpf;have HX:=z8x s 2;have HX2:=hI HX;have hxs:(s.extract 2 s.size).size≤maxLen:=by rw[ByteArray.size_extract];unfold maxLen at hs⊢;omega
 unfold maxLen at hs;clear he hpf HX;go_enter func238,ntmps238;go_wp2_with(go_at_call 82;refine(zm6 _ _ _ HP).mono ?_;rintro e w' ⟨rfl,rfl⟩);refine(ziL (s.extract 2 s.size) 16 most _ hxs (by omega) (by omega) hm0 hm1 HE).mono ?_;rw[HX2.out];rintro e w1 ⟨hr,nd,rfl⟩;obtain⟨ra,rb,rfl,hr⟩:=z5R hr;have HR:=hI hr;clear hr;go_wp2;go_ret2;exact⟨HR,nd,rfl⟩
theorem zkV (s:ByteArray) (most:Int) (w:World) (hs:s.size≤maxLen) (hm0:0≤most) (hm1:most≤4294967295) (hem:s.toList.isEmpty=false) (h2:1<s.size) (hpf:Lib.hasPrefix s.data.toList (⟨#[48,120]⟩:ByteArray).data.toList=false) (h48:((s[0].toNat:Int)==48)=true) (he:Err 23 w):Calls prog 238 #[.string s,.int .u64 most] w fun e w'=>z2M (z0H 8 most 0 (s.data.toList.drop 1)) e∧∃n,w'=w.drewN n:=by
 have HE:=hI he;have HP:=hI hpf;have HX:=z8x s 1;have HX2:=hI HX;have hxs:(s.extract 1 s.size).size≤maxLen:=by rw[ByteArray.size_extract];unfold maxLen at hs⊢;omega
 unfold maxLen at hs;clear he hpf HX;go_enter func238,ntmps238;go_wp2_with(go_at_call 82;refine(z8d _ _ _ HP).mono ?_;rintro e w' ⟨rfl,rfl⟩);refine(ziL (s.extract 1 s.size) 8 most _ hxs (by omega) (by omega) hm0 hm1 HE).mono ?_;rw[HX2.out];rintro e w1 ⟨hr,nd,rfl⟩;obtain⟨ra,rb,rfl,hr⟩:=z5R hr;have HR:=hI hr;clear hr;go_wp2;go_ret2;exact⟨HR,nd,rfl⟩
theorem zkW (s:ByteArray) (most:Int) (w:World) (hs:s.size≤maxLen) (hm0:0≤most) (hm1:most≤4294967295) (hem:s.toList.isEmpty=false) (h1:0<s.size) (hpf:Lib.hasPrefix s.data.toList (⟨#[48,120]⟩:ByteArray).data.toList=false) (h48:((s[0].toNat:Int)==48)=false∨(((s[0].toNat:Int)==48)=true∧s.size<2)) (he:Err 23 w):Calls prog 238 #[.string s,.int .u64 most] w fun e w'=>z2M (z0H 10 most 0 s.data.toList) e∧∃n,w'=w.drewN n:=by
 have HE:=hI he;have HP:=hI hpf;have hxs:=hs;unfold maxLen at hs;clear he hpf;rcases h48 with h48|⟨h48,hlt⟩;all_goals
  go_enter func238,ntmps238;go_wp2_with(go_at_call 82;refine(z8d _ _ _ HP).mono ?_;rintro e w' ⟨rfl,rfl⟩);refine(ziL s 10 most _ hxs (by omega) (by omega) hm0 hm1 HE).mono ?_;rintro e w1 ⟨hr,nd,rfl⟩;obtain⟨ra,rb,rfl,hr⟩:=z5R hr;have HR:=hI hr;clear hr;go_wp2;go_ret2;exact⟨HR,nd,rfl⟩
theorem zhL (s:ByteArray) (most:Int) (w:World) (hs:s.size≤maxLen) (hm0:0≤most) (hm1:most≤4294967295) (he:Err 23 w) (he2:Err 5 w):Calls prog 238 #[.string s,.int .u64 most] w fun e w'=>z2M (z0I most s.data.toList) e∧∃n,w'=w.drewN n:=by
 have hlen:s.data.toList.length=s.size:=by simp
 match hl:s.data.toList with
 | []=>exact zjf s most w (by rw[Lib.toList_data,hl];rfl) he2
 |a::l=>
  have hem:s.toList.isEmpty=false:=by rw[Lib.toList_data,hl];rfl
  have h1:0<s.size:=by rw[←hlen,hl];simp
  have ha:=zeZ s a l hl h1;by_cases h48:a=48
  ·subst h48
   match l,hl with
   | [],hl=>have:=zkW s most w hs hm0 hm1 hem h1 (by rw[hl];decide) (Or.inr ⟨by rw[ha];decide,by rw[←hlen,hl];simp⟩) he;rw[hl] at this;exact this
   |c::r,hl=>
    by_cases hc:c=120
    ·subst hc
     have:=zkU s most w hs hm0 hm1 hem (by rw[←hlen,hl];simp) (by rw[hl];simp[Lib.hasPrefix,List.isPrefixOf]) he;rw[hl] at this;exact this
    ·have:=zkV s most w hs hm0 hm1 hem (by rw[←hlen,hl];simp) (by rw[hl];simp[Lib.hasPrefix,List.isPrefixOf];exact fun e=>hc e.symm) (by rw[ha];decide) he
     rw[hl] at this;have e:z0I most (48::c::r)=z0H 8 most 0 (c::r):=by
      unfold z0I;split
      ·rename_i h;simp at h
      ·rename_i h;simp at h;exact absurd h.1 hc
      ·rename_i _ h;simp at h;rw[h.1,h.2]
      ·rename_i h1 h2;exact absurd rfl (h2 c r)
     rw[e];exact this
  ·have:=zkW s most w hs hm0 hm1 hem h1 (by rw[hl];simp[Lib.hasPrefix,List.isPrefixOf];exact fun e=>absurd e.symm h48) (Or.inl (by
    rw[ha];have:(a.toNat:Int)≠48:=fun e=>h48 (by
     apply UInt8.toNat_inj.1;show a.toNat=48;omega)
    simpa using this)) he
   rw[hl] at this;have e:z0I most (a::l)=z0H 10 most 0 (a::l):=by
    unfold z0I;split
    ·rename_i h;simp at h
    ·rename_i h;simp at h;exact absurd h.1 h48
    ·rename_i _ h;simp at h;exact absurd h.1 h48
    ·rfl
   rw[e];exact this
theorem ziM (s:ByteArray) (most:Int) (w:World) (hs:s.size≤maxLen) (hm0:0≤most) (hm1:most≤4294967295) (he:Err 23 w) (he2:Err 5 w):Calls prog 202 #[.string s,.int .u64 most] w fun e w'=>z2M (z0I most s.data.toList) e∧∃n,w'=w.drewN n:=by
 have HE:=hI he;have HE2:=hI he2;clear he he2;cases ho:z0I most s.data.toList with
 |none=>have HO:=hI ho;clear ho;go_enter func202,ntmps202;go_wp2_with fail;refine(zhL s most _ hs hm0 hm1 HE HE2).mono ?_;rw[HO.out];rintro e w1 ⟨⟨t,v,rfl⟩,nd,rfl⟩;go_wp2;go_ret2;exact⟨⟨_,_,rfl⟩,nd,rfl⟩
 |some n=>have HO:=hI ho;clear ho;go_enter func202,ntmps202;go_wp2_with fail;refine(zhL s most _ hs hm0 hm1 HE HE2).mono ?_;rw[HO.out];rintro e w1 ⟨rfl,nd,rfl⟩;go_wp2;go_ret2;exact⟨rfl,nd,rfl⟩
theorem zmO (s:ByteArray) (c:UInt8) (m:Int) (w:World) (hs:s.size<4294967281) (hm:w.cell? ⟨16,0,none⟩=some (.int .i64 m)):Calls prog 132 #[.string s,.string ⟨#[c]⟩] w fun e w'=>∃xs:List ByteArray,xs.map (·.data.toList)=z0a c s.data.toList∧e=.returned (.slice (some ⟨w.heap.size,0,none⟩) xs.length xs.length)∧w'=w.alloc (.cells (xs.map Value.string).toArray 9):=by
 refine(strings_Split s ⟨#[c]⟩ m w hs hm (by show 1≤1;omega)).mono ?_;rintro e w' ⟨rfl,rfl⟩;refine⟨Lib.splitB ⟨#[c]⟩ 0 (Lib.countB s ⟨#[c]⟩) s,?_,?_,rfl⟩
 ·rw[Lib.splitB_data]
  show Lib.splitK [c] 0 (Lib.count s.data.toList [c]) s.data.toList=_;rw[Lib.count_one];exact zd5 c _ _ rfl
 ·rw[Lib.splitB_all _ (by show 1≤1;omega) 0 _ s rfl]
def zoI (w w':World) (ls:List (List UInt8)) (v:Value):Prop:=
 ∃(xs:List ByteArray) (cap:Nat),xs.map (·.data.toList)=ls∧xs.length≤cap∧cap≤4294967282∧v=.slice (some ⟨w.heap.size,0,none⟩) xs.length cap∧(∀(j:Nat) x,xs[j]?=some x→w'.cell? ⟨w.heap.size,j,none⟩=some (.string x))∧w.heap.size<w'.heap.size
theorem z9A (w:World) (xs:List ByteArray) (t:TypeId):∀(j:Nat) x,xs[j]?=some x→(w.alloc (.cells (xs.map Value.string).toArray t)).cell? ⟨w.heap.size,j,none⟩=some (.string x):=by intro j x h;have e:(w.alloc (.cells (xs.map Value.string).toArray t)).heap[w.heap.size]?=some (.cells (xs.map Value.string).toArray t):=heap_alloc_new w _;simp only[World.cell?,e];simp[h]
theorem zg7 (xs:List ByteArray) (l:List UInt8) (x:ByteArray) (hx:xs.map (·.data.toList)=z0a 46 l) (h1:1<xs.length) (hl:xs[xs.length- 1]?=some x) (he:x.data.toList=[]):xs.dropLast.map (·.data.toList)=z1h l:=by
 unfold z1h;rw[←hx];have e1:(xs.map (·.data.toList)).getLast? =some []:=by rw[List.getLast?_map,List.getLast?_eq_getElem?,hl];simp[he]
 rw[if_pos ⟨by simpa using h1,e1⟩,List.map_dropLast]
theorem zaw (xs:List ByteArray) (l:List UInt8) (hx:xs.map (·.data.toList)=z0a 46 l) (h:¬1<xs.length∨∃x,xs[xs.length- 1]?=some x∧x.data.toList≠[]):xs.map (·.data.toList)=z1h l:=by
 unfold z1h;rw[←hx];rw[if_neg];rintro⟨h1,h2⟩;rcases h with h|⟨x,hl,hn⟩
 ·exact h (by simpa using h1)
 ·rw[List.getLast?_map,List.getLast?_eq_getElem?,hl] at h2
  simp at h2;exact hn (by simpa using h2)
theorem zhH (s:ByteArray) (m:Int) (w:World) (hs:s.size<4294967281) (hm:w.cell? ⟨16,0,none⟩=some (.int .i64 m)):Calls prog 201 #[.string s] w fun e w'=>(∃v,e=.returned v∧zoI w w' (z1h s.data.toList) v)∧Below w.heap.size w w':=by
 have HM:=hI hm;clear hm;go_enter func201,ntmps201;go_wp2_with fail;refine(zmO s 46 m _ hs HM).mono ?_;rintro e w1 ⟨xs,hxs,rfl,rfl⟩;have hcl:=z9A w xs 9;have hlen:xs.length≤s.size+1:=by have:=z57 46 s.data.toList;rw[←hxs] at this;simpa using this
 have hne:1≤xs.length:=by
  have:=z26 46 s.data.toList;rw[←hxs] at this;cases xs with
  |nil=>simp at this
  |cons a l=>simp
 have HX:=hI hxs;clear hxs;by_cases h1:1<xs.length
 ·obtain⟨x,hx⟩:∃x,xs[xs.length- 1]?=some x:=⟨xs[xs.length- 1]'(by omega),by simp⟩
  have hc:=hcl (xs.length- 1) x hx;have HC:=hI hcl;have HXX:=hI hx;clear hcl hx;by_cases hem:x.toList.isEmpty=true
  ·have hd:x.data.toList=[]:=by rw[Lib.toList_data] at hem;simpa using hem
   have HD:=hI (zg7 xs _ x HX h1 HXX hd);clear hd;go_wp2;go_ret;refine⟨⟨_,rfl,xs.dropLast,xs.length,HD,by simp,by omega,by rw[List.length_dropLast];rfl,?_,by simp⟩,(Below.refl _ w).alloc (Nat.le_refl _) _⟩;intro j y hj;refine HC j y ?_;rw[List.getElem?_dropLast] at hj;split at hj
   ·exact hj
   ·simp at hj
  ·have hem2:=Bool.eq_false_iff.2 hem
   have HD:=hI (zaw xs _ HX (Or.inr ⟨x,HXX,by rw[Lib.toList_data] at hem;simpa using hem⟩));clear hem;go_wp2;go_ret;exact⟨⟨_,rfl,xs,xs.length,HD,by omega,by omega,rfl,HC,by simp⟩,(Below.refl _ w).alloc (Nat.le_refl _) _⟩
 ·have HD:=hI (zaw xs _ HX (Or.inl h1))
  have h2:xs.length≤1:=by omega
  have HC:=hI hcl;clear hcl h1;go_wp2;go_ret;exact⟨⟨_,rfl,xs,xs.length,HD,by omega,by omega,rfl,HC,by simp⟩,(Below.refl _ w).alloc (Nat.le_refl _) _⟩
theorem zg8 (s:ByteArray) (m:Int) (w:World) (hs:s.size<4294967281) (hm:w.cell? ⟨16,0,none⟩=some (.int .i64 m)):CB 144 #[.string s] w (.bool (z1R ((z1h s.data.toList).getLastD []))):=by
 have HM:=hI hm;clear hm;go_enter func144,ntmps144;go_wp2_with fail;refine(zhH s m _ hs HM.out).mono ?_;rintro e w1 ⟨⟨v,rfl,xs,cap,hxs,hc1,hc2,rfl,hcl,hz1⟩,hb1⟩;have hne:1≤xs.length:=by
  have:=z6y s.data.toList;rw[←hxs] at this;cases xs with
  |nil=>simp at this
  |cons a l=>simp
 obtain⟨x,hx⟩:∃x,xs[xs.length- 1]?=some x:=⟨xs[xs.length- 1]'(by omega),by simp⟩;have hc:=hcl (xs.length- 1) x hx;have HL:Hid ((z1h s.data.toList).getLastD []=x.data.toList):=by show _=_;rw[←hxs,List.getLastD_eq_getLast?,List.getLast?_map,List.getLast?_eq_getElem?,hx];rfl
 have hxl:x.size≤s.size:=by have:=z8w s.data.toList x.data.toList (by rw[←hxs];exact List.mem_map.2 ⟨x,List.mem_of_getElem? hx,rfl⟩);simpa using this
 have hxm:x.size≤maxLen:=by unfold maxLen;omega
 have hzz:w.heap.size+0<w1.heap.size:=hz1;clear hcl hx hxs hz1;by_cases hpf:Lib.hasPrefix x.data.toList (⟨#[48,120]⟩:ByteArray).data.toList=true
 ·have h2:2≤x.size:=by
   unfold Lib.hasPrefix at hpf;have:=(List.isPrefixOf_iff_prefix.1 hpf).length_le;simpa using this
  have HP:=hI hpf;have hxs:(x.extract 2 x.size).size≤maxLen:=by rw[ByteArray.size_extract];unfold maxLen;omega
  have HX2:=hI (z8x x 2);clear hpf;go_wp2_with(go_at_call 82;refine(zm6 _ _ _ HP.out).mono ?_;rintro e w' ⟨rfl,rfl⟩);refine(zoB (x.extract 2 x.size) 16 _ hxs).mono ?_;rw[HX2.out];rintro e w2 ⟨rfl,rfl⟩;go_wp2;go_ret;have hp2:=HP.out;refine⟨?_,hb1⟩;rw[HL.out];unfold z1R;rw[if_pos (show Lib.hasPrefix x.data.toList [48,120]=true from hp2)];rfl
 ·have hpn:=Bool.eq_false_iff.2 hpf
  have HP:=hI hpn;clear hpf hpn;by_cases hem:x.toList.isEmpty=true
  ·go_wp2_with(go_at_call 82;refine(z8d _ _ _ HP.out).mono ?_;rintro e w' ⟨rfl,rfl⟩)
   go_ret;refine⟨?_,hb1⟩;rw[HL.out];unfold z1R;rw[if_neg (by rw[show Lib.hasPrefix x.data.toList [48,120]=false from HP.out];simp),←Lib.toList_data,hem];rfl
  ·have hem2:=Bool.eq_false_iff.2 hem
   clear hem;go_wp2_with(go_at_call 82;refine(z8d _ _ _ HP.out).mono ?_;rintro e w' ⟨rfl,rfl⟩);refine(zoB x 10 _ hxm).mono ?_;rintro e w2 ⟨rfl,rfl⟩;go_wp2;go_ret;refine⟨?_,hb1⟩;rw[HL.out];unfold z1R;rw[if_neg (by rw[show Lib.hasPrefix x.data.toList [48,120]=false from HP.out];simp),←Lib.toList_data,hem2,Lib.toList_data];rfl
end Go.Proofs
