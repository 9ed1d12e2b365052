import Derived.Test.YtkcnageeamappaaGreatDoorXQ14
set_option maxHeartbeats 32000000
set_option maxRecDepth 8000
namespace Go.Proofs
open Go.RowKit Go.Moor Go.Proofs.Tryz
theorem zo2 (s:ByteArray) (w:World):C0 73 #[.string s] w (.int .i64 (z1z s.data.toList).1):=by
 by_cases h1:s.data.toList=zek
 ·rw[z5g s _ h1]
  go_enter func73,ntmps73;go_wp2;go_ret;exact⟨rfl,rfl⟩
 by_cases h2:s.data.toList=sWs
 ·rw[z5g s _ h2]
  go_enter func73,ntmps73;go_wp2;go_ret;exact⟨rfl,rfl⟩
 by_cases h3:s.data.toList=zbt
 ·rw[z5g s _ h3]
  go_enter func73,ntmps73;go_wp2;go_ret;exact⟨rfl,rfl⟩
 by_cases h4:s.data.toList=zhr
 ·rw[z5g s _ h4]
  go_enter func73,ntmps73;go_wp2;go_ret;exact⟨rfl,rfl⟩
 by_cases h5:s.data.toList=zhs
 ·rw[z5g s _ h5]
  go_enter func73,ntmps73;go_wp2;go_ret;exact⟨rfl,rfl⟩
 have HE:Hid ((z1z s.data.toList).1= -1):=by show _=_;unfold z1z;rw[if_neg (by simp[h1,h2]),if_neg (by simp[h3,h4]),if_neg h5];split<;>rfl
 have e1:(s.toList==[104,116,116,112])=false:=z5f s _ h1;have e2:(s.toList==[119,115])=false:=z5f s _ h2;have e3:(s.toList==[104,116,116,112,115])=false:=z5f s _ h3;have e4:(s.toList==[119,115,115])=false:=z5f s _ h4;have e5:(s.toList==[102,116,112])=false:=z5f s _ h5;clear h1 h2 h3 h4 h5;go_enter func73,ntmps73;go_wp2;go_ret;rw[HE.out];exact⟨rfl,rfl⟩
theorem zgv (s:Bs) (h:s≠sFile):z0b s=decide (0<(z1z s).1):=by
 unfold z0b z1z;split
 ·rfl
 ·split
  ·rfl
  ·split
   ·rfl
   ·first|rfl|(rw[if_neg h];rfl)
theorem zae (s:ByteArray) (w:World):C0 129 #[.string s] w (.bool (z0b s.data.toList)):=by
 by_cases h1:s.data.toList=sFile
 ·rw[z5g s _ h1]
  go_enter func129,ntmps129;go_wp2;go_ret;exact⟨rfl,rfl⟩
 ·have e1:(s.toList==[102,105,108,101])=false:=z5f s _ h1
  have HO:Hid _:=zo2 s w;have HS:Hid _:=zgv _ h1;rw[HS.out];clear h1 HS;generalize(z1z s.data.toList).1=p at*;go_enter func129,ntmps129;go_wp2_with fail;refine Calls.mono HO ?_;rintro e W0 ⟨rfl,hw0⟩;obtain rfl:=hw0.symm;go_wp2;go_ret;exact⟨rfl,rfl⟩
theorem zlD (c:UInt8) (w:World):C0 174 #[.int .u8 c.toNat] w (.bool (z18 c)):=by
 have hc:=c.toNat_lt;obtain⟨n,hn⟩:=z09 (c.toNat:Nat);have HL:Hid (z18 c=((decide (65≤n)&&decide (n≤90))||(decide (97≤n)&&decide (n≤122)))):=by show _=_;rw[hn];rfl
 rw[←hn];rw[←hn] at hc;clear hn;rw[HL.out];by_cases h1:97≤n
 ·have h1i:(97:Int)≤(n:Int):=by omega
  by_cases h2:n≤122
  ·have h2i:(n:Int)≤122:=by omega
   have HD:Hid (((decide (65≤n)&&decide (n≤90))||(decide (97≤n)&&decide (n≤122)))=true):=(by show _=_;simp;omega);rw[HD.out];go_enter func174,ntmps174;go_wp2;go_ret;exact⟨rfl,rfl⟩
  ·have h2i:¬(n:Int)≤122:=by omega
   have h3i:(65:Int)≤(n:Int):=(by omega);have h4i:¬(n:Int)≤90:=(by omega);have HD:Hid (((decide (65≤n)&&decide (n≤90))||(decide (97≤n)&&decide (n≤122)))=false):=(by show _=_;simp;omega);rw[HD.out];go_enter func174,ntmps174;go_wp2;go_ret;exact⟨rfl,rfl⟩
 ·have h1i:¬(97:Int)≤(n:Int):=by omega
  by_cases h3:65≤n
  ·have h3i:(65:Int)≤(n:Int):=by omega
   by_cases h4:n≤90
   ·have h4i:(n:Int)≤90:=by omega
    have HD:Hid (((decide (65≤n)&&decide (n≤90))||(decide (97≤n)&&decide (n≤122)))=true):=(by show _=_;simp;omega);rw[HD.out];go_enter func174,ntmps174;go_wp2;go_ret;exact⟨rfl,rfl⟩
   ·have h4i:¬(n:Int)≤90:=by omega
    have HD:Hid (((decide (65≤n)&&decide (n≤90))||(decide (97≤n)&&decide (n≤122)))=false):=(by show _=_;simp;omega);rw[HD.out];go_enter func174,ntmps174;go_wp2;go_ret;exact⟨rfl,rfl⟩
  ·have h3i:¬(65:Int)≤(n:Int):=by omega
   have HD:Hid (((decide (65≤n)&&decide (n≤90))||(decide (97≤n)&&decide (n≤122)))=false):=(by show _=_;simp;omega);rw[HD.out];go_enter func174,ntmps174;go_wp2;go_ret;exact⟨rfl,rfl⟩
def z4M (l:Bs):Bs:=l.filter fun c=>!z4R c
theorem znl (s:ByteArray) (w:World) (hs:s.size≤35184372088832):CN 75 #[.string s] w (.string ⟨(z4M s.data.toList).toArray⟩):=by
 obtain⟨l,hl⟩:=z09 s.data.toList;have hlen:l.length=s.size:=by rw[hl,Array.length_toList];rfl
 have HG:Hid (∀(k:Nat) (h:k<s.size) (h2:k<l.length),l[k]=s[k]):=by intro k h h2;subst hl;simp;rfl
 have HXT:=hI fun k h=>z59 s k h;rw[←hl];clear hl;go_enter func75,ntmps75;go_wp2_with fail;go_loopw [3,4] (fun o i wr=>∃k:Nat,k≤s.size∧i=.int .i64 k∧o=.string ⟨(z4M (l.take k)).toArray⟩∧∃nd,wr=w.drewN nd) (fun _ i _=>s.size-(intOf i).toNat)
 case atStart=>exact⟨0,Nat.zero_le _,rfl,rfl,0,rfl⟩
 case round=>
  obtain⟨k,hk,rfl,rfl,hb⟩:=hrel;have HB:=hI hb;clear hb;by_cases hlt:k<s.size
  ·have h2:k<l.length:=by omega
   have hg:=HG k hlt h2;have hsz:(⟨(z4M (l.take k)).toArray⟩:ByteArray).size≤s.size:=(by rw[z07];have:=List.length_filter_le (fun c=>!z4R c) (l.take k);rw[List.length_take] at this;unfold z4M;omega);have hki:(0:Int)≤(k:Int):=(by omega);have hk1:((k:Int)+1)≤(s.size:Int):=(by omega);have hx:=HXT k hlt;cases hbr:z4R s[k] with
   |false=>
    have HA:Hid ((⟨(z4M (l.take k)).toArray⟩:ByteArray)++⟨#[s[k]]⟩=⟨(z4M (l.take (k+1))).toArray⟩):=by
     show _=_;rw[z3U l k h2,hg];unfold z4M;rw[List.filter_append];have:List.filter (fun c=>!z4R c) [s[k]]=[s[k]]:=by simp[hbr]
     rw[this];exact z0G _ [s[k]]
    have h3:¬(s[k].toNat:Int)=9∧¬(s[k].toNat:Int)=10∧¬(s[k].toNat:Int)=13:=(by unfold z4R at hbr;simp at hbr;obtain⟨⟨h1,h2⟩,h3⟩:=hbr;exact⟨fun h=>h1 (UInt8.toNat_inj.1 (by show s[k].toNat=9;omega)),fun h=>h2 (UInt8.toNat_inj.1 (by show s[k].toNat=10;omega)),fun h=>h3 (UInt8.toNat_inj.1 (by show s[k].toNat=13;omega))⟩);obtain⟨n1,n2,n3⟩:=h3;have b1:((s[k].toNat:Int) !=9)=true:=(by simpa using n1);have b2:((s[k].toNat:Int) !=10)=true:=(by simpa using n2);have b3:((s[k].toNat:Int) !=13)=true:=(by simpa using n3);clear n1 n2 n3;generalize(⟨(z4M (l.take k)).toArray⟩:ByteArray)=acc at*;have g1:∀W:World,(Op.stringOp .add acc ⟨#[s[k]]⟩).run prog W=.ok (.string (acc++⟨#[s[k]]⟩)) W:=fun W=>run_string_add_sum W _ _ (by show _+1≤_;omega);clear hsz hbr hg;go_wp2;go_roundw
    case rel=>exact⟨k+1,by omega,by go_num,congrArg Value.string HA,HB⟩
    case measure=>(simp[intOf];try omega)
   |true=>
    have HA:Hid ((⟨(z4M (l.take k)).toArray⟩:ByteArray)=⟨(z4M (l.take (k+1))).toArray⟩):=by
     show _=_;rw[z3U l k h2,hg];unfold z4M;rw[List.filter_append];have:List.filter (fun c=>!z4R c) [s[k]]=[]:=by simp[hbr]
     rw[this,List.append_nil]
    have h3:((s[k].toNat:Int) !=9)=false∨(((s[k].toNat:Int) !=9)=true∧((s[k].toNat:Int) !=10)=false)∨(((s[k].toNat:Int) !=9)=true∧((s[k].toNat:Int) !=10)=true∧((s[k].toNat:Int) !=13)=false):=(by unfold z4R at hbr;simp at hbr;rcases hbr with(h|h)|h<;>rw[h]<;>decide);generalize(⟨(z4M (l.take k)).toArray⟩:ByteArray)=acc at*;clear hsz hbr hg;rcases h3 with n1|⟨n1,n2⟩|⟨n1,n2,n3⟩;all_goals
     go_wp2;go_roundw
     case rel=>exact⟨k+1,by omega,by go_num,congrArg Value.string HA,HB⟩
     case measure=>(simp[intOf];try omega)
  ·have HQ:Hid (l.take k=l):=List.take_of_length_le (by omega)
   rw[HQ.out];go_wp2;go_ret;exact⟨rfl,HB⟩
end Go.Proofs
namespace Go.Moor
open Go
def z1j:Bs→Option Nat
 | []=>some 0
 |37::50::101::l=>(z1j l).map (·+1)
 |37::50::69::l=>(z1j l).map (·+1)
 |46::l=>(z1j l).map (·+1)
 |_::_=>none
theorem zaK (p:Bs) (h:z0r p=[]):p=[]:=by
 unfold z0r at h;split at h
 ·cases h
 ·cases h
 ·rfl
theorem z4E (c:UInt8) (hc:c≠37) (p x:Bs) (h:z0r p=c::x):∃r,p=c::r∧z0r r=x:=by
 unfold z0r at h;split at h
 ·injection h with h1 _
  exact absurd h1.symm hc
 ·injection h with h1 h2
  subst h1;exact⟨_,rfl,h2⟩
 ·cases h
theorem z7X (p x:Bs) (h:z0r p=37::50::101::x):∃r e,p=37::50::e::r∧(e=101∨e=69)∧z0r r=x:=by
 unfold z0r at h;split at h
 ·injection h with _ h
  injection h with _ h;injection h with _ h;exact⟨_,69,rfl,Or.inr rfl,h⟩
 ·injection h with h1 h2
  subst h1;obtain⟨l2,rfl,h3⟩:=z4E 50 (by decide) _ _ h2;obtain⟨l3,rfl,h4⟩:=z4E 101 (by decide) _ _ h3;exact⟨l3,101,rfl,Or.inl rfl,h4⟩
 ·cases h
theorem z8K (r:Bs):z1j (46::r)=(z1j r).map (·+1):=by rw[z1j]
theorem z6N (e:UInt8) (r:Bs) (h:e=101∨e=69):z1j (37::50::e::r)=(z1j r).map (·+1):=by
 rcases h with rfl|rfl
 ·rw[z1j]
 ·rw[z1j]
theorem zch (p:Bs) (n:Nat) (h:z1j p=some (n+1)):∃r,z1j r=some n∧((p=46::r)∨∃e,(e=101∨e=69)∧p=37::50::e::r):=by
  unfold z1j at h;split at h
  ·cases h
  · rename_i l
    cases hd:z1j l with
    |none=>rw[hd] at h;cases h
    | some m => rw [hd] at h; injection h with h; have : m = n := by simpa using h
                subst this;exact⟨l,hd,Or.inr ⟨101,Or.inl rfl,rfl⟩⟩
  · rename_i l
    cases hd:z1j l with
    |none=>rw[hd] at h;cases h
    | some m => rw [hd] at h; injection h with h; have : m = n := by simpa using h
                subst this;exact⟨l,hd,Or.inr ⟨69,Or.inr rfl,rfl⟩⟩
  · rename_i l
    cases hd:z1j l with
    |none=>rw[hd] at h;cases h
    | some m => rw [hd] at h; injection h with h; have : m = n := by simpa using h
                subst this;exact⟨l,hd,Or.inl rfl⟩
  ·cases h
theorem zgH (p:Bs) (h:z1j p=some 0):p=[]:=by
 unfold z1j at h;split at h
 ·rfl
 ·rename_i l
  cases hd:z1j l with
  |none=>rw[hd] at h;cases h
  |some m=>rw[hd] at h;injection h with h;exact absurd h (by simp)
 ·rename_i l
  cases hd:z1j l with
  |none=>rw[hd] at h;cases h
  |some m=>rw[hd] at h;injection h with h;exact absurd h (by simp)
 ·rename_i l
  cases hd:z1j l with
  |none=>rw[hd] at h;cases h
  |some m=>rw[hd] at h;injection h with h;exact absurd h (by simp)
 ·cases h
theorem znE (r:Bs):z0r (46::r)=46::z0r r:=by rw[z0r];intro l h;cases h
theorem zhh (e:UInt8) (r:Bs) (h:e=101∨e=69):z0r (37::50::e::r)=37::50::101::z0r r:=by
 rcases h with rfl|rfl
 ·simp[z0r]
 ·simp[z0r]
theorem zfI (p:Bs) (h:z1j p=some 1):z0r p=[46]∨z0r p=[37,50,101]:=by
 obtain⟨r,h1,h2⟩:=zch p 0 h;have:=zgH r h1;subst this;rcases h2 with rfl|⟨e,he,rfl⟩
 ·left;rfl
 ·right;rw[zhh e _ he];rfl
theorem zlP (p:Bs) (h:z1j p=some 2):z0r p=[46,46]∨z0r p=[46,37,50,101]∨z0r p=[37,50,101,46]∨z0r p=[37,50,101,37,50,101]:=by
 obtain⟨r,h1,h2⟩:=zch p 1 h;have h3:=zfI r h1;rcases h2 with rfl|⟨e,he,rfl⟩
 ·rw[znE]
  rcases h3 with h3|h3<;>rw[h3]<;>simp
 ·rw[zhh e _ he]
  rcases h3 with h3|h3<;>rw[h3]<;>simp
theorem z7o (p:Bs) (h:z0r p=[46]∨z0r p=[37,50,101]):z1j p=some 1:=by
 rcases h with h|h
 ·obtain⟨r,rfl,h2⟩:=z4E 46 (by decide) p _ h
  have:=zaK r h2;subst this;rfl
 ·obtain⟨r,e,rfl,he,h2⟩:=z7X p _ h
  have:=zaK r h2;subst this;rw[z6N e _ he];rfl
theorem zlQ (p:Bs) (h:z0r p=[46,46]∨z0r p=[46,37,50,101]∨z0r p=[37,50,101,46]∨z0r p=[37,50,101,37,50,101]):z1j p=some 2:=by
 rcases h with h|h|h|h
 ·obtain⟨r,rfl,h2⟩:=z4E 46 (by decide) p _ h
  rw[z8K,z7o r (Or.inl h2)];rfl
 ·obtain⟨r,rfl,h2⟩:=z4E 46 (by decide) p _ h
  rw[z8K,z7o r (Or.inr h2)];rfl
 ·obtain⟨r,e,rfl,he,h2⟩:=z7X p _ h
  rw[z6N e _ he,z7o r (Or.inl h2)];rfl
 ·obtain⟨r,e,rfl,he,h2⟩:=z7X p _ h
  rw[z6N e _ he,z7o r (Or.inr h2)];rfl
theorem zci (p:Bs):z1V p=match z1j p with|some m=>(if 2<m then 0 else m)|none=>0:=by
 unfold z1V;simp only;by_cases h1:z0r p=[46]∨z0r p=[37,50,101]
 ·rw[if_pos h1,z7o p h1]
  rfl
 ·rw[if_neg h1]
  by_cases h2:z0r p=[46,46]∨z0r p=[46,37,50,101]∨z0r p=[37,50,101,46]∨z0r p=[37,50,101,37,50,101]
  ·rw[if_pos h2,zlQ p h2]
   rfl
  ·rw[if_neg h2]
   cases hd:z1j p with
   |none=>rfl
   |some m=>
    match m,hd with
    |0,_=>rfl
    |1,hd=>exact absurd (zfI p hd) h1
    |2,hd=>exact absurd (zlP p hd) h2
    |m+3,_=>show 0=if 2<m+3 then 0 else m+3;rw[if_pos (by omega)]
theorem zgI (c:UInt8) (l:Bs) (h1:c≠46) (h2:∀e r,c=37→l=50::e::r→¬(e=101∨e=69)):z1j (c::l)=none:=by
 unfold z1j;split
 ·rename_i h;cases h
 ·rename_i h
  injection h with ha hb;exact absurd (Or.inl rfl) (h2 _ _ ha hb)
 ·rename_i h
  injection h with ha hb;exact absurd (Or.inr rfl) (h2 _ _ ha hb)
 ·rename_i h
  injection h with ha hb;exact absurd ha h1
 ·rfl
theorem ziy (a b:Bs) (h:z0W a=true):z0P (a++58::b)=a.length+1:=by
 have hn:∀x∈a,x≠58:=by intro x hx hx2;unfold z0W at h;rw[Bool.and_eq_true,List.all_eq_true] at h;have:=h.2 x hx;rw[hx2] at this;exact absurd this (by decide)
 unfold z0P;rw[z3E 58 b a hn];simp only;rw[if_pos h]
theorem ziz (l:Bs) (h:∀x∈l,z1D x=true):z0P l=0:=by
 have hn:∀x∈l,x≠58:=by intro x hx hx2;have:=h x hx;rw[hx2] at this;exact absurd this (by decide)
 unfold z0P;rw[z4k 58 l hn]
theorem zk6 (a b:Bs) (c:UInt8) (ha:∀x∈a,z1D x=true) (h0:a=[]→z18 c=false) (h1:a≠[]→z1D c=false∧c≠58):z0P (a++c::b)=0:=by
 rcases z4Y 58 (a++c::b) with hn|⟨n,r,hr,hn⟩
 ·unfold z0P
  rw[z4k 58 _ hn]
 ·rw[hr]
  have e:z0P (n++58::r)=if z0W n=true then n.length+1 else 0:=by unfold z0P;rw[z3E 58 r n hn]
  rw[e,if_neg];intro hs;unfold z0W at hs;rw[Bool.and_eq_true,List.all_eq_true] at hs;obtain⟨hs1,hs2⟩:=hs;rcases List.append_eq_append_iff.1 hr with⟨t,h2,h3⟩|⟨t,h2,h3⟩
  ·
   cases t with
   |nil=>
    rw[List.nil_append] at h3;injection h3 with h3 _;rw[List.append_nil] at h2;subst h2;cases n with
    |nil=>cases hs1
    |cons x y=>exact(h1 (by simp)).2 h3
   |cons x y=>
    injection h3 with h3 _;subst h3;cases a with
    |nil=>rw[h2] at hs1;have:z18 c=true:=hs1;rw[h0 rfl] at this;cases this
    |cons u v=>have:=hs2 c (by rw[h2];simp);rw[(h1 (by simp)).1] at this;cases this
  ·cases t with
   |nil=>
    rw[List.nil_append] at h3;injection h3 with h3 _;rw[List.append_nil] at h2;subst h2;cases a with
    |nil=>cases hs1
    |cons x y=>exact(h1 (by simp)).2 h3.symm
   |cons x y=>injection h3 with h3 _;subst h3;have:=ha 58 (by rw[h2];simp);exact absurd this (by decide)
theorem ziA (m:Nat) (c:UInt8):z1g m [c]=m*10+(c.toNat- 48):=by show z1g (m*10+(c.toNat- 48)) []=_;generalize m*10+(c.toNat- 48)=x;rfl
theorem zgJ (l:Bs) (n:Nat) (c:UInt8):z1g n (l++ [c])=z1g n l*10+(c.toNat- 48):=by rw[zby];generalize z1g n l=m;exact ziA m c
def z54 (n:Nat):Nat:=if 65535<n then 65536 else n
theorem zfJ (m d:Nat):z54 (10*z54 m+d)=z54 (m*10+d):=by unfold z54;split<;>split<;>(try split)<;>omega
end Go.Moor
namespace Go.Proofs
open Go.RowKit Go.Moor Go.Proofs.Tryz
theorem zlL (a b:UInt8):∃s:ByteArray,s=⟨[a,b].toArray⟩∧∃h:s.size=2,(s[0]'(by omega)).toNat=a.toNat∧(s[1]'(by omega)).toNat=b.toNat:=⟨_,rfl,rfl,rfl,rfl⟩
theorem z7E (l:Bs) (w:World):C0 223 #[.string ⟨l.toArray⟩] w (.bool (z0h l)):=by
  by_cases h2:l.length=2
  · obtain ⟨a, b, rfl⟩ : ∃ a b, l = [a, b] := by
      match l,h2 with
      | [a,b],_=>exact⟨a,b,rfl⟩
    clear h2;obtain⟨s,hs,hsz,ha,hb⟩:=zlL a b;rw[←hs];clear hs;have h0:0<s.size:=(by omega);have h1:1<s.size:=(by omega);have HE:Hid (z0h [a,b]=(((decide ((65:Int)≤((s[0]'h0).toNat:Int))&&decide (((s[0]'h0).toNat:Int)≤90))||(decide ((97:Int)≤((s[0]'h0).toNat:Int))&&decide (((s[0]'h0).toNat:Int)≤122)))&&((((s[1]'h1).toNat:Int)==58)||(((s[1]'h1).toNat:Int)==124)))):=by
      show(z18 a&&(b==58||b==124))=_;rw[ha,hb];have e1:∀k:Nat,k<256→(b==UInt8.ofNat k)=((b.toNat:Int)==(k:Int)):=by intro k hk;rw[Bool.eq_iff_iff,beq_iff_eq,beq_iff_eq,←UInt8.toNat_inj];rw[UInt8.toNat_ofNat_of_lt' hk];omega
      have e58:=e1 58 (by decide);have e124:=e1 124 (by decide);have f58:(b==58)=((b.toNat:Int)==58):=e58;have f124:(b==124)=((b.toNat:Int)==124):=e124;rw[f58,f124];unfold z18;congr 1;congr 1
      ·congr 1<;>(apply decide_eq_decide.2;omega)
      ·congr 1<;>(apply decide_eq_decide.2;omega)
    rw[HE.out];clear ha hb HE;generalize hx:(s[0]'h0).toNat=n at*;generalize hy:(s[1]'h1).toNat=c at*;by_cases g1:(97:Int)≤(n:Int);all_goals by_cases g2:(n:Int)≤122
    all_goals by_cases g3:(65:Int)≤(n:Int)
    all_goals by_cases g4:(n:Int)≤90
    all_goals first
      |(exfalso;omega)
      | (cases g5 : ((c : Int) == 58)
         all_goals cases g6:((c:Int)==124)
         all_goals first
          |(exfalso;simp at g5 g6;omega)
          | (go_enter func223, ntmps223
             go_wp2;go_ret;simp[*]))
  · have HE : Hid _ := z55 l h2
    have hsz:=z07 l;have e2:((l.length:Int)==2)=false:=beq_eq_false_iff_ne.2 (by omega);go_enter func223,ntmps223;go_wp2;go_ret;rw[HE.out];exact⟨rfl,rfl⟩
theorem z1e (b:UInt8) (k:Nat) (hk:k<256):(b=UInt8.ofNat k)↔(b.toNat:Int)=(k:Int):=by rw[←UInt8.toNat_inj,UInt8.toNat_ofNat_of_lt' hk];omega
theorem z8h (l:Bs) (k:Nat) (h:k<l.length):l.drop k=l[k]::l.drop (k+1):=List.drop_eq_getElem_cons h
theorem znz (l:Bs) (w:World) (hs:l.length≤35184372088832):C0 222 #[.string ⟨l.toArray⟩] w (.int .i64 (z1V l)):=by
 obtain⟨s,hsd⟩:=z09 (⟨l.toArray⟩:ByteArray);have hlen:l.length=s.size:=by rw[hsd,z07]
 have HG:Hid (∀(k:Nat) (h:k<s.size) (h2:k<l.length),l[k]=s[k]):=by intro k h h2;subst hsd;rfl
 rw[←hsd];clear hsd;suffices key:∀res:Int,Hid (z1j l=none→res=0)→Hid (∀m,z1j l=some m→res=if 2<m then 0 else(m:Int))→Calls prog 222 #[.string s] w fun e w'=>e=.returned (.int .i64 res)∧w'=w by
  refine key _ (fun h=>?_) (fun m h=>?_)
  ·rw[zci,h];rfl
  ·rw[zci,h]
   show((if 2<m then 0 else m:Nat):Int)=_;split<;>rfl
 intro res HN HS;go_enter func222,ntmps222;go_wp2_with fail;go_loopw [3,4] (fun n i wr=>∃k m:Nat,k≤s.size∧m≤k∧i=.int .i64 (k:Nat)∧n=.int .i64 (m:Nat)∧z1j l=(z1j (l.drop k)).map (·+m)∧wr=w) (fun _ i _=>s.size-(intOf i).toNat)
 case atStart=>exact⟨0,0,Nat.zero_le _,Nat.le_refl _,rfl,rfl,by rw[List.drop_zero];cases z1j l<;>rfl,rfl⟩
 case round=>
  obtain⟨k,m,hk,hmk,rfl,rfl,hd,hwr⟩:=hrel;subst hwr;have HD:=hI hd;clear hd;by_cases hlt:k<s.size
  ·have h2:k<l.length:=by omega
   have hg:=HG k hlt h2;have hdr:=z8h l k h2;by_cases hp:(s[k].toNat:Int)=37∧∃(h3:k+2<s.size),(s[k+1].toNat:Int)=50∧((s[k+2].toNat:Int)=101∨(s[k+2].toNat:Int)=69)
   ·obtain⟨p1,h3,p2,p3⟩:=hp
    have HN2:Hid (z1j l=(z1j (l.drop (k+3))).map (·+(m+1))):=by
     show _=_;rw[HD.out,hdr,z8h l (k+1) (by omega),z8h l (k+1+1) (by omega)];rw[HG.out k hlt h2,HG.out (k+1) (by omega) (by omega),HG.out (k+1+1) (by omega) (by omega)];rw[(z1e s[k] 37 (by decide)).2 p1,(z1e s[k+1] 50 (by decide)).2 p2];have he:s[k+1+1]=101∨s[k+1+1]=69:=by
      rcases p3 with p3|p3
      ·left;exact(z1e s[k+2] 101 (by decide)).2 p3
      ·right;exact(z1e s[k+2] 69 (by decide)).2 p3
     have:=z6N s[k+1+1] (l.drop (k+1+1+1)) he;rw[show((UInt8.ofNat 37::UInt8.ofNat 50::s[k+1+1]::l.drop (k+1+1+1)):Bs)=37::50::s[k+1+1]::l.drop (k+1+1+1) from rfl,this];cases z1j (l.drop (k+1+1+1)) with
     |none=>rfl
     |some x=>simp;omega
    have q1:(k:Int)+2<(s.size:Int):=(by omega);have q2:(k:Int)+1<(s.size:Int):=(by omega);clear HG hdr hg HD;rcases p3 with p3|p3
    ·go_wp2
     go_roundw
     case rel=>exact⟨k+3,m+1,by omega,by omega,by go_num,by go_num,HN2,trivial⟩
     case measure=>(simp[intOf];try omega)
    ·have p4:((s[k+2].toNat:Int)==101)=false:=by rw[p3];rfl
     go_wp2;go_roundw
     case rel=>exact⟨k+3,m+1,by omega,by omega,by go_num,by go_num,HN2,trivial⟩
     case measure=>(simp[intOf];try omega)
   ·by_cases h46:(s[k].toNat:Int)=46
    ·have HN2:Hid (z1j l=(z1j (l.drop (k+1))).map (·+(m+1))):=by
      show _=_;rw[HD.out,hdr,HG.out k hlt h2,(z1e s[k] 46 (by decide)).2 h46];rw[show((UInt8.ofNat 46::l.drop (k+1)):Bs)=46::l.drop (k+1) from rfl,z8K];cases z1j (l.drop (k+1)) with
      |none=>rfl
      |some x=>simp;omega
     have p1:((s[k].toNat:Int)==37)=false:=(by rw[h46];rfl);have p2:((s[k].toNat:Int) !=46)=false:=(by rw[h46];rfl);clear HG hdr hg HD hp;go_wp2;go_roundw
     case rel=>exact⟨k+1,m+1,by omega,by omega,by go_num,by go_num,HN2,trivial⟩
     case measure=>(simp[intOf];try omega)
    ·have HZ:Hid (res=0):=by
      refine HN ?_;rw[HD.out,hdr];rw[zgI]
      ·rfl
      ·intro h
       rw[hg] at h;exact h46 ((z1e s[k] 46 (by decide)).1 h)
      ·intro e r h3 h4 h5
       have hlen3:=congrArg List.length h4;rw[List.length_drop] at hlen3;have hlen4:l.length-(k+1)=r.length+2:=hlen3;have i1:k+1<l.length:=(by omega);have i2:k+2<l.length:=(by omega);rw[z8h l (k+1) i1,z8h l (k+1+1) i2] at h4;injection h4 with h6 h7;injection h7 with h7 _;refine hp ⟨?_,by omega,?_,?_⟩
       ·rw[hg] at h3;exact(z1e s[k] 37 (by decide)).1 h3
       ·rw[HG.out (k+1) (by omega) i1] at h6;exact(z1e s[k+1] 50 (by decide)).1 h6
       ·have h8:=h7
        rw[HG.out (k+2) (by omega) i2] at h8;rcases h5 with h5|h5
        ·left;rw[h5] at h8;exact(z1e s[k+2] 101 (by decide)).1 h8
        ·right;rw[h5] at h8;exact(z1e s[k+2] 69 (by decide)).1 h8
     have p46:((s[k].toNat:Int) !=46)=true:=(by simpa using h46);clear HG hdr hg HD h46 HN HS;by_cases p1:(s[k].toNat:Int)=37
     ·by_cases h3:k+2<s.size
      ·have q1:(k:Int)+2<(s.size:Int):=by omega
       have q2:(k:Int)+1<(s.size:Int):=(by omega);by_cases p2:(s[k+1].toNat:Int)=50
       ·have p3:¬(s[k+2].toNat:Int)=101∧¬(s[k+2].toNat:Int)=69:=⟨fun h=>hp ⟨p1,h3,p2,Or.inl h⟩,fun h=>hp ⟨p1,h3,p2,Or.inr h⟩⟩
        obtain⟨p3,p4⟩:=p3;have p5:((s[k+2].toNat:Int)==101)=false:=(by simpa using p3);have p6:((s[k+2].toNat:Int)==69)=false:=(by simpa using p4);clear hp p3 p4;go_wp2;go_ret;rw[HZ.out];exact⟨rfl,rfl⟩
       ·have p5:((s[k+1].toNat:Int)==50)=false:=by simpa using p2
        clear hp p2;go_wp2;go_ret;rw[HZ.out];exact⟨rfl,rfl⟩
      ·have q1:¬(k:Int)+2<(s.size:Int):=by omega
       clear hp;go_wp2;go_ret;rw[HZ.out];exact⟨rfl,rfl⟩
     ·have p5:((s[k].toNat:Int)==37)=false:=by simpa using p1
      clear hp p1;go_wp2;go_ret;rw[HZ.out];exact⟨rfl,rfl⟩
  ·have HR:Hid (res=if 2<m then 0 else(m:Int)):=by
    refine HS m ?_;rw[HD.out,List.drop_of_length_le (by omega)];show(some 0).map _=_;simp
   clear HD HN HS HG;by_cases hm:2<m
   ·have HR2:Hid (res=0):=by show _=_;rw[HR.out,if_pos hm]
    have hmi:(2:Int)<(m:Int):=(by omega);clear HR;go_wp2;go_ret;rw[HR2.out];exact⟨rfl,rfl⟩
   ·have HR2:Hid (res=(m:Int)):=by show _=_;rw[HR.out,if_neg hm]
    have hmi:¬(2:Int)<(m:Int):=(by omega);clear HR;go_wp2;go_ret;rw[HR2.out];exact⟨rfl,rfl⟩
end Go.Proofs
namespace Go.Moor
open Go
def z3n (base:Option Adr):Nat:=match base with|some b=>b.way.segs.length|none=>0
def exW (base:Option Adr) (st:Nat):Nat:=if st=6 then 1 else if st=11∨st=12∨st=13 then 0 else 2+z3n base
def wgt (base:Option Adr) (c:Mc):Nat:=c.u.way.segs.length+c.r.length+exW base c.st
structure Inv (base:Option Adr) (K:Nat) (c:Mc):Prop where
 early:(c.st=14∨c.st=15∨c.st=1∨c.st=2∨c.st=3∨c.st=4)→c.u.auth.user=[]∧c.u.auth.pass=[]
 way:c.st≠11→c.st≠12→c.st≠13→c.u.way.opaq=false
 near:c.st=1∨c.st=2→∃b,base=some b∧b.way.opaq=false
 light:wgt base c≤K
 known:1≤c.st∧c.st≤15
variable {base : Option Adr} {K : Nat}
theorem zhj (c:Mc) (hs:c.st=11∨c.st=12∨c.st=13) (hl:c.u.way.segs.length+c.r.length≤K):Inv base K c:=by refine⟨fun h=>by omega,fun h1 h2 h3=>by omega,fun h=>by omega,?_,by omega⟩;unfold wgt exW;rw[if_neg (by omega),if_pos hs];omega
theorem z5m (c:Mc) (hl:c.u.way.segs.length+c.r.length≤K):Inv base K (z0L c):=by
 refine zhj _ ?_ ?_
 ·unfold z0L
  simp only;split
  ·exact Or.inl rfl
  ·split
   ·exact Or.inr (Or.inl rfl)
   ·exact Or.inr (Or.inr rfl)
 ·unfold z0L
  simp only[List.length_drop];omega
theorem z4I (c:Mc) (hs:c.st=6) (ho:c.u.way.opaq=false) (hl:c.u.way.segs.length+c.r.length+1≤K):Inv base K c:=by refine⟨fun h=>by omega,fun _ _ _=>ho,fun h=>by omega,?_,by omega⟩;unfold wgt exW;rw[if_pos hs];omega
theorem z5w (c:Mc) (hs:c.st=5∨c.st=7∨c.st=8∨c.st=9∨c.st=10) (ho:c.u.way.opaq=false) (hl:c.u.way.segs.length+c.r.length+(2+z3n base)≤K):Inv base K c:=by refine⟨fun h=>by omega,fun _ _ _=>ho,fun h=>by omega,?_,by omega⟩;unfold wgt exW;rw[if_neg (by omega),if_neg (by omega)];omega
theorem z4Z (c:Mc) (hs:c.st=3∨c.st=4∨c.st=14∨c.st=15) (hu:c.u.auth.user=[]∧c.u.auth.pass=[]) (ho:c.u.way.opaq=false) (hl:c.u.way.segs.length+c.r.length+(2+z3n base)≤K):Inv base K c:=by refine⟨fun _=>hu,fun _ _ _=>ho,fun h=>by omega,?_,by omega⟩;unfold wgt exW;rw[if_neg (by omega),if_neg (by omega)];omega
theorem zcO (c:Mc) (hs:c.st=1∨c.st=2) (hu:c.u.auth.user=[]∧c.u.auth.pass=[]) (ho:c.u.way.opaq=false) (hn:∃b,base=some b∧b.way.opaq=false) (hl:c.u.way.segs.length+c.r.length+(2+z3n base)≤K):Inv base K c:=by refine⟨fun _=>hu,fun _ _ _=>ho,fun _=>hn,?_,by omega⟩;unfold wgt exW;rw[if_neg (by omega),if_neg (by omega)];omega
theorem z2F (s:Bs) (l:List Bs):(z08 s l).length≤l.length:=by
 unfold z08;split
 ·exact Nat.le_refl _
 ·rw[List.length_dropLast];omega
theorem zaM (s:Bs) (l:List Bs) (p:Bs) (m:Bool):(z1E s l p m).length≤l.length+1:=by
 unfold z1E;split
 ·simp
 ·have:=z2F s l
  rw[List.length_append];split<;>split<;>simp<;>omega
theorem zdw (b:Adr) (hb:base=some b) (c:Mc) (hl:c.u.way.segs.length+c.r.length+(2+z3n base)≤K):Inv base K (z1y b c):=by
 have e:z3n base=b.way.segs.length:=by rw[hb];rfl
 unfold z1y;split
 ·refine z5m _ ?_
  simp only[List.length_append];omega
 ·split
  ·refine z5m _ ?_
   simp only[List.length_append];omega
  ·refine z4I _ rfl rfl ?_
   have:=z2F c.u.scheme (c.u.way.segs++b.way.segs);rw[List.length_append] at this;simp only;omega
theorem z8k (p:UInt8→Bool) (l:Bs):(l.dropWhile p).length≤l.length:=(List.dropWhile_sublist _).length_le
section
variable (H : Bs → Bool → Option Bs)
theorem zlT (hb:∀b,base=some b→z0b b.scheme=true→b.way.opaq=false) (c:Mc) (h:Inv base K c):Inv base K (z0g H base c):=by
 have hli:=h.light;have hex:c.st≠6→c.st≠11→c.st≠12→c.st≠13→c.u.way.segs.length+c.r.length+(2+z3n base)≤K:=by intro h1 h2 h3 h4;unfold wgt exW at hli;rw[if_neg h1,if_neg (by omega)] at hli;omega
 have hfile:∀b,z1B base=some b→base=some b:=by
  intro b hf;unfold z1B at hf;cases base with
  |none=>cases hf
  |some x=>
   simp only[Option.bind_some] at hf;split at hf
   ·exact hf
   ·cases hf
 by_cases hs:c.st=14
 ·have hE0:z0g H base c=z3v base c:=by simp[z0g,hs]
  rw[hE0];have hl:=hex (by omega) (by omega) (by omega) (by omega);have ho:=h.way (by omega) (by omega) (by omega);have hu:=h.early (by omega);have hcase:base=none∨∃b,base=some b:=by cases base<;>simp
  have hsame:∀e,Inv base K {c with err:=e}:=fun e=>⟨fun _=>hu,fun _ _ _=>ho,fun hx=>by have hx:c.st=1∨c.st=2:=hx;omega,hli,h.known⟩;rcases hcase with hn|⟨b,hbase⟩
  ·have e:z3v base c={c with err:=3}:=by rw[hn];rfl
   rw[e];exact hsame 3
  ·subst hbase
   unfold z3v;simp only;split
   ·exact hsame 3
   ·split
    ·refine z5m _ ?_
     have e:z3n (some b)=b.way.segs.length:=rfl;simp only;omega
    ·rename_i hop
     by_cases hf:b.scheme=sFile
     ·rw[if_pos hf]
      exact z5w _ (Or.inr (Or.inr (Or.inl rfl))) ho hl
     ·rw[if_neg hf]
      exact zcO _ (Or.inl rfl) hu ho ⟨b,rfl,by simpa using hop⟩ hl
 by_cases hs:c.st=15
 ·have hE0:z0g H base c=z2B c:=by simp[z0g,hs]
  rw[hE0];have hl:=hex (by omega) (by omega) (by omega) (by omega);have ho:=h.way (by omega) (by omega) (by omega);have hu:=h.early (by omega);unfold z2B;split
  ·split
   ·exact z4Z _ (Or.inr (Or.inl rfl)) hu ho (by simp only[List.length_drop];omega)
   ·exact z5w _ (Or.inl rfl) ho hl
  ·exact z5w _ (Or.inr (Or.inl rfl)) ho hl
 by_cases hs:c.st=1
 ·have hl:=hex (by omega) (by omega) (by omega) (by omega)
  have ho:=h.way (by omega) (by omega) (by omega);have hu:=h.early (by omega);obtain⟨b,hbase,hop⟩:=h.near (by omega);subst hbase;have hE0:z0g H (some b) c=z3l b c:=by simp[z0g,hs]
  rw[hE0];unfold z3l;split
  ·exact zcO _ (Or.inr rfl) hu ho ⟨b,rfl,hop⟩ (by simp only[List.length_drop];omega)
  ·exact zdw b rfl _ hl
 by_cases hs:c.st=2
 ·have hl:=hex (by omega) (by omega) (by omega) (by omega)
  have ho:=h.way (by omega) (by omega) (by omega);have hu:=h.early (by omega);obtain⟨b,hbase,hop⟩:=h.near (by omega);subst hbase;have hE0:z0g H (some b) c=z25 b c:=by simp[z0g,hs]
  rw[hE0];unfold z25;split
  ·split
   ·exact z4Z _ (Or.inl rfl) hu ho hl
   ·exact z4Z _ (Or.inr (Or.inl rfl)) hu ho (by simp only[List.length_drop];omega)
  ·exact z4I _ rfl ho (by simp only;omega)
 by_cases hs:c.st=3
 ·have hE0:z0g H base c=z4H c:=by simp[z0g,hs]
  rw[hE0];have hl:=hex (by omega) (by omega) (by omega) (by omega);have:=z8k (z06 c.u.scheme) c.r;exact z4Z _ (Or.inr (Or.inl rfl)) (h.early (by omega)) (h.way (by omega) (by omega) (by omega)) (by unfold z4H;simp only;omega)
 by_cases hs:c.st=4
 ·have hE0:z0g H base c=z2Z H c:=by simp[z0g,hs]
  rw[hE0];have hl:=hex (by omega) (by omega) (by omega) (by omega);have ho:=h.way (by omega) (by omega) (by omega);unfold z2Z;split
  ·exact⟨fun _=>h.early (by omega),fun _ _ _=>ho,fun hx=>by have hx:c.st=1∨c.st=2:=hx;omega,hli,h.known⟩
  ·have:=z8k (fun b=>!z3y c.u.scheme b) c.r
   exact z5w _ (Or.inl rfl) ho (by unfold z23;simp only;omega)
 by_cases hs:c.st=5
 ·have hE0:z0g H base c=z2l c:=by simp[z0g,hs]
  rw[hE0];have hl:=hex (by omega) (by omega) (by omega) (by omega);have ho:=h.way (by omega) (by omega) (by omega);unfold z2l;split
  ·exact z4I _ rfl ho (by simp only[List.length_drop];omega)
  ·split
   ·exact z5m _ (by omega)
   ·exact z4I _ rfl ho (by simp only;omega)
 by_cases hs:c.st=6
 ·have hE0:z0g H base c=z2q c:=by simp[z0g,hs]
  rw[hE0];have hl:c.u.way.segs.length+c.r.length+1≤K:=by unfold wgt exW at hli;rw[if_pos hs] at hli;omega
  unfold z2q;simp only;have hd:=z8k (fun b=>!z3y c.u.scheme b) c.r;split
  ·rename_i hm
   have hn:=zaM c.u.scheme c.u.way.segs (z1i c.u.scheme c.r) (z0o (z06 c.u.scheme) (z23 c.u.scheme c.r));have hpos:0<(z23 c.u.scheme c.r).length:=by
    cases hx:z23 c.u.scheme c.r with
    |nil=>rw[hx] at hm;cases hm
    |cons a b=>simp
   refine z4I _ hs rfl ?_;simp only[List.length_drop];have hd2:(z23 c.u.scheme c.r).length≤c.r.length:=hd;omega
  ·have hn:=zaM c.u.scheme c.u.way.segs (z1i c.u.scheme c.r) (z0o (z06 c.u.scheme) (z23 c.u.scheme c.r))
   have hd2:(z23 c.u.scheme c.r).length≤c.r.length:=hd;refine z5m _ ?_;simp only;omega
 by_cases hs:c.st=7
 ·have hE0:z0g H base c=z3r c:=by simp[z0g,hs]
  rw[hE0];have hl:=hex (by omega) (by omega) (by omega) (by omega);have:=z8k (fun b=>!z2d b) c.r;unfold z3r;refine z5m _ ?_;simp only[List.length_nil];omega
 by_cases hs:c.st=8
 ·have hE0:z0g H base c=z2b base c:=by simp[z0g,hs]
  rw[hE0];have hl:=hex (by omega) (by omega) (by omega) (by omega);have ho:=h.way (by omega) (by omega) (by omega);unfold z2b;simp only;split
  ·exact z5w _ (Or.inr (Or.inr (Or.inr (Or.inl rfl)))) ho (by simp only[List.length_drop];omega)
  ·cases hf:z1B base with
   |none=>exact z4I _ rfl ho (by simp only;omega)
   |some b=>
    simp only;split
    ·exact z4I _ rfl ho (by simp only;omega)
    ·exact zdw b (hfile b hf) _ hl
 by_cases hs:c.st=9
 ·have hE0:z0g H base c=z0D base c:=by simp[z0g,hs]
  rw[hE0];have hl:=hex (by omega) (by omega) (by omega) (by omega);have ho:=h.way (by omega) (by omega) (by omega);unfold z0D;simp only;split
  ·exact z5w _ (Or.inr (Or.inr (Or.inr (Or.inr rfl)))) ho (by simp only[List.length_drop];omega)
  ·cases hf:z1B base with
   |none=>exact z4I _ rfl ho (by simp only;omega)
   |some b=>
    refine z4I _ rfl rfl ?_;have hd:(z13 b.way.segs).length≤1:=by
     unfold z13;split
     ·rw[List.length_take];omega
     ·simp
    simp only[List.length_append];split
    ·simp;omega
    ·omega
 by_cases hs:c.st=10
 ·have hE0:z0g H base c=z1U H c:=by simp[z0g,hs]
  rw[hE0];have hl:=hex (by omega) (by omega) (by omega) (by omega);have ho:=h.way (by omega) (by omega) (by omega);unfold z1U;simp only;split
  ·exact z4I _ rfl ho (by simp only;omega)
  ·split
   ·exact⟨fun hx=>by have hx:c.st=14∨c.st=15∨c.st=1∨c.st=2∨c.st=3∨c.st=4:=hx;omega,fun _ _ _=>ho,fun hx=>by have hx:c.st=1∨c.st=2:=hx;omega,hli,h.known⟩
   ·have:=z8k (fun b=>!z3y c.u.scheme b) c.r
    exact z5w _ (Or.inl rfl) ho (by unfold z23;simp only;omega)
 by_cases hs:c.st=11
 ·have hE0:z0g H base c=z3G c:=by simp[z0g,hs]
  rw[hE0];have hl:c.u.way.segs.length+c.r.length≤K:=by unfold wgt exW at hli;omega
  have:=z8k (fun b=>decide (b≠35)) c.r;unfold z3G;refine z5m _ ?_;simp only;omega
 by_cases hs:c.st=12
 ·have hE0:z0g H base c=z5k c:=by simp[z0g,hs]
  rw[hE0];have hl:c.u.way.segs.length+c.r.length≤K:=by unfold wgt exW at hli;omega
  exact zhj _ (Or.inr (Or.inr rfl)) hl
 have hE0 : z0g H base c = c := by simp [z0g, *]
 rw[hE0];exact h
end
end Go.Moor
