import Derived.Test.YtkcnageeamappaaGreatDoorXU15v
import Derived.Test.YtkcnageeamappaaGreatDoorXU17
import Derived.Deep.LoopGhost
set_option maxHeartbeats 32000000
set_option maxRecDepth 8000
namespace Go.Proofs
open Go.RowKit Go.Moor Go.Proofs.Tryz
theorem zmi {B R k j:Nat} {bv:Value} {s:ByteArray} {w0:World} {u:Adr} {pv:Value} (a:Nat) {w:World} {base:Option Adr} (hm:Tryz.Mem B R k j bv s w0 u pv (a:Nat) 9 0 w) (hb:z6s B w0 bv base) (hbo:∀b,base=some b→z0b b.scheme=true→b.way.opaq=false) (ho:u.way.opaq=false) (ha:a≤s.size) (hs:s.size≤1000000) (hn:u.way.segs.length≤1000000):Calls Tryz.prog 183 #[.pointer (some ⟨k,0,none⟩)] w fun e w'=>e=.returned (.tuple #[])∧z3u B R k j bv s w0 (z0D base ⟨u,s.data.toList.drop a,9,0⟩) w':=by
 by_cases hv:∃b x r,base=some b∧b.way.segs=x::r∧b.scheme=sFile∧z0o (z06 u.scheme) (s.data.toList.drop a)=false∧z1T (s.data.toList.drop a)=false∧z15 x=true
 ·obtain⟨b,x,r,rfl,hsg,hf,hh,hd,ht⟩:=hv
  obtain⟨bj,bpv,rfl,hbu⟩:=hb;have hob:=hbo b rfl (by rw[hf];decide);have hfn:z1B (some b)=some b:=by unfold z1B;simp[hf]
  exact zbc a hm hbu hf hfn hsg ht hh hd hob ho ha hs hn
 ·exact zbb a hm hb hbo ho ha hs (fun b x r h1 h2 h3 h4 h5 h6=>hv ⟨b,x,r,h1,h2,h3,h4,h5,h6⟩)
theorem zef (c:UInt8):z1D c=(z18 c||(refDigit c||((((c.toNat:Int)==43)||((c.toNat:Int)==45))||((c.toNat:Int)==46)))):=by
 have e1:∀k:Nat,k<256→(c==UInt8.ofNat k)=((c.toNat:Int)==(k:Int)):=by intro k hk;rw[Bool.eq_iff_iff,beq_iff_eq,beq_iff_eq];exact z1e c k hk
 have e43:(c==43)=((c.toNat:Int)==43):=e1 43 (by decide);have e45:(c==45)=((c.toNat:Int)==45):=e1 45 (by decide);have e46:(c==46)=((c.toNat:Int)==46):=e1 46 (by decide);unfold z1D;rw[e43,e45,e46,zhi];unfold z2R;simp only[Bool.or_assoc]
theorem znF:∀D x y z:Bool,(false||(D||((x||y)||z)))=true→D=true∨(D=false∧(!x)=false)∨(D=false∧(!x)=true∧(!y)=false)∨(D=false∧(!x)=true∧(!y)=true∧(!z)=false):=by decide
theorem znG:∀D x y z:Bool,(false||(D||((x||y)||z)))=false→D=false∧(!x)=true∧(!y)=true∧(!z)=true:=by decide
theorem z7F (l:Bs) (k:Nat) (h:k<l.length):l=l.take k++l[k]::l.drop (k+1):=by conv=>lhs;rw[←List.take_append_drop k l,List.drop_eq_getElem_cons h]
theorem zlR (l:Bs) (w:World) (hs:l.length≤35184372088832):C0 122 #[.string ⟨l.toArray⟩] w (.int .i64 (z0P l)):=by
 have HDI:=hI fun c w1=>zbK c w1;have HLE:=hI fun c w1=>zlD c w1;obtain⟨s,hsd⟩:=z09 (⟨l.toArray⟩:ByteArray);have hlen:l.length=s.size:=by rw[hsd,z07]
 have HG:Hid (∀(k:Nat) (h:k<s.size) (h2:k<l.length),l[k]=s[k]):=by intro k h h2;subst hsd;rfl
 rw[←hsd];clear hsd;obtain⟨res,hres⟩:=z09 ((z0P l:Nat):Int);have HR:=hI hres;rw[←hres];clear hres;go_enter func122,ntmps122;go_wp2_with fail;go_loopw [3] (fun i wr=>∃k:Nat,k≤s.size∧i=.int .i64 (k:Nat)∧(∀x∈l.take k,z1D x=true)∧(0<k→z4Q l=true)∧wr=w) (fun i _=>s.size-(intOf i).toNat)
 case atStart=>exact⟨0,Nat.zero_le _,rfl,by simp,by simp,rfl⟩
 case round=>
  obtain⟨k,hk,rfl,hall,hbeg,hwr⟩:=hrel;subst hwr;have HALL:=hI hall;have HBEG:=hI hbeg;clear hall hbeg;by_cases hlt:k<s.size
  ·have h2:k<l.length:=by omega
   have hg:=HG k hlt h2;have HLC:Hid _:=HLE s[k];have HDC:Hid _:=HDI s[k];have hmid:=z7F l k h2;have HSB:Hid _:=zef s[k];have HYES:Hid (0<k→(s[k].toNat:Int)=58→res=(k:Int)+1):=by
    intro h0 h58;rw[HR.out];rw[hmid,hg,(z1e s[k] 58 (by decide)).2 h58];have hsc:z0W (l.take k)=true:=by
     unfold z0W;rw[Bool.and_eq_true];refine⟨?_,List.all_eq_true.2 HALL⟩;have hb:=HBEG h0;cases l with
     |nil=>simp at h2
     |cons x y=>
      match k,h0 with
      |k+1,_=>exact hb
    have:=ziy (l.take k) (l.drop (k+1)) hsc;rw[show(UInt8.ofNat 58::l.drop (k+1):Bs)=58::l.drop (k+1) from rfl,this,List.length_take,Nat.min_eq_left (by omega)];omega
   have HNO:Hid ((k=0→z18 s[k]=false)→(0<k→z1D s[k]=false∧¬(s[k].toNat:Int)=58)→res=0):=by
    intro h0 h1;rw[HR.out,hmid,hg];rw[zk6 (l.take k) (l.drop (k+1)) s[k] HALL (fun h=>h0 (by
     have:=congrArg List.length h;rw[List.length_take] at this;simp at this;rcases this with this|this
     ·exact this
     ·rw[this] at h2;simp at h2)) (fun h=>by
     have hk0:0<k:=by
      rcases Nat.eq_zero_or_pos k with hz|hz
      ·rw[hz] at h;exact absurd rfl h
      ·exact hz
     have:=h1 hk0;exact⟨this.1,fun e=>this.2 ((z1e s[k] 58 (by decide)).1 e)⟩)]
    rfl
   have HGO:Hid (z1D s[k]=true→(k=0→z18 s[k]=true)→(∀x∈l.take (k+1),z1D x=true)∧(0<k+1→z4Q l=true)):=by
    intro h1 h0;refine⟨?_,fun _=>?_⟩
    ·intro x hx
     rw[z3U l k h2,List.mem_append] at hx;rcases hx with hx|hx
     ·exact HALL x hx
     ·rw[List.mem_singleton.1 hx,hg]
      exact h1
    ·rcases Nat.eq_zero_or_pos k with hz|hz
     ·subst hz
      cases l with
      |nil=>simp at h2
      |cons x y=>have:x=s[0]:=hg;show z18 x=true;rw[this];exact h0 rfl
     ·exact HBEG hz
   clear HR HALL HBEG hmid hg HG HLE HDI;generalize hL:z18 s[k]=L at*;generalize hD:refDigit s[k]=D at*;clear hL hD;by_cases h58:(s[k].toNat:Int)=58
   ·have n43:((s[k].toNat:Int)==43)=false:=by rw[h58];rfl
    have n45:((s[k].toNat:Int)==45)=false:=(by rw[h58];rfl);have n46:((s[k].toNat:Int)==46)=false:=(by rw[h58];rfl);have H58:=hI h58;by_cases h0:k=0
    ·cases L with
     |true=>
      have hgo:=HGO (by rw[HSB.out];rfl) (fun _=>rfl);have HG2:Hid _:=hgo;have h0i:¬(0:Int)<(k:Int):=(by omega);clear HYES HNO HSB HGO hgo n43 n45 n46 h58 h0;go_wp2_with fail;refine Calls.mono (HLC _) ?_;rintro e w1 ⟨rfl,hw1⟩;obtain rfl:=hw1.symm;go_wp2_with fail;refine Calls.mono (HDC _) ?_;rintro e w1 ⟨rfl,hw1⟩;obtain rfl:=hw1.symm;have h58:=H58;go_wp2;go_roundw
      case rel=>exact⟨k+1,by omega,by go_num,HG2.out.1,HG2.out.2,trivial⟩
      case measure=>(simp[intOf];try omega)
     |false=>have HZ:Hid _:=HNO (fun _=>rfl) (fun h=>by omega);have h0i:¬(0:Int)<(k:Int):=(by omega);have h0b:((k:Int)==0)=true:=(by rw[h0];rfl);clear HYES HNO HSB HGO n43 n45 n46 h58 h0;go_wp2_with fail;refine Calls.mono (HLC _) ?_;rintro e w1 ⟨rfl,hw1⟩;obtain rfl:=hw1.symm;go_wp2_with fail;refine Calls.mono (HDC _) ?_;rintro e w1 ⟨rfl,hw1⟩;obtain rfl:=hw1.symm;have h58:=H58;go_wp2;go_ret;rw[HZ.out];exact⟨rfl,rfl⟩
    ·have HZ:Hid _:=HYES (by omega) h58
     have h0i:(0:Int)<(k:Int):=(by omega);clear HYES HNO HSB HGO n43 n45 n46 h58;go_wp2_with fail;refine Calls.mono (HLC _) ?_;rintro e w1 ⟨rfl,hw1⟩;obtain rfl:=hw1.symm;go_wp2_with fail;refine Calls.mono (HDC _) ?_;rintro e w1 ⟨rfl,hw1⟩;obtain rfl:=hw1.symm;have h58:=H58;go_wp2;go_ret;rw[HZ.out];exact⟨rfl,rfl⟩
   ·have n58:((s[k].toNat:Int)==58)=false:=by simpa using h58
    cases L with
    |true=>
     have HG2:Hid _:=HGO (by rw[HSB.out];rfl) (fun _=>rfl);clear HYES HNO HSB HGO h58;go_wp2_with fail;refine Calls.mono (HLC _) ?_;rintro e w1 ⟨rfl,hw1⟩;obtain rfl:=hw1.symm;go_wp2_with fail;refine Calls.mono (HDC _) ?_;rintro e w1 ⟨rfl,hw1⟩;obtain rfl:=hw1.symm;go_wp2;go_roundw
     case rel=>exact⟨k+1,by omega,by go_num,HG2.out.1,HG2.out.2,trivial⟩
     case measure=>(simp[intOf];try omega)
    |false=>
     by_cases h0:k=0
     ·have HZ:Hid _:=HNO (fun _=>rfl) (fun h=>by omega)
      have h0b:((k:Int)==0)=true:=(by rw[h0];rfl);clear HYES HNO HSB HGO h58 h0;go_wp2_with fail;refine Calls.mono (HLC _) ?_;rintro e w1 ⟨rfl,hw1⟩;obtain rfl:=hw1.symm;go_wp2_with fail;refine Calls.mono (HDC _) ?_;rintro e w1 ⟨rfl,hw1⟩;obtain rfl:=hw1.symm;go_wp2;go_ret;rw[HZ.out];exact⟨rfl,rfl⟩
     ·have h0b:((k:Int)==0)=false:=by simpa using h0
      by_cases hbyte:z1D s[k]=true
      ·have HG2:Hid _:=HGO hbyte (fun h=>absurd h h0)
       have hor:D=true∨(D=false∧((s[k].toNat:Int) !=43)=false)∨(D=false∧((s[k].toNat:Int) !=43)=true∧((s[k].toNat:Int) !=45)=false)∨(D=false∧((s[k].toNat:Int) !=43)=true∧((s[k].toNat:Int) !=45)=true∧((s[k].toNat:Int) !=46)=false):=(by rw[HSB.out] at hbyte;exact znF D _ _ _ hbyte);clear HYES HNO HSB HGO h58 hbyte;rcases hor with q1|⟨q1,q2⟩|⟨q1,q2,q3⟩|⟨q1,q2,q3,q4⟩;all_goals
        subst q1;go_wp2_with fail;refine Calls.mono (HLC _) ?_;rintro e w1 ⟨rfl,hw1⟩;obtain rfl:=hw1.symm;go_wp2_with fail;refine Calls.mono (HDC _) ?_;rintro e w1 ⟨rfl,hw1⟩;obtain rfl:=hw1.symm;go_wp2;go_roundw
        case rel=>exact⟨k+1,by omega,by go_num,HG2.out.1,HG2.out.2,trivial⟩
        case measure=>(simp[intOf];try omega)
      ·have hbf:z1D s[k]=false:=by simpa using hbyte
       have HZ:Hid _:=HNO (fun h=>absurd h h0) (fun _=>⟨hbf,h58⟩);have hand:D=false∧((s[k].toNat:Int) !=43)=true∧((s[k].toNat:Int) !=45)=true∧((s[k].toNat:Int) !=46)=true:=(by rw[HSB.out] at hbf;exact znG D _ _ _ hbf);obtain⟨q1,q2,q3,q4⟩:=hand;subst q1;clear HYES HNO HSB HGO h58 hbyte hbf;go_wp2_with fail;refine Calls.mono (HLC _) ?_;rintro e w1 ⟨rfl,hw1⟩;obtain rfl:=hw1.symm;go_wp2_with fail;refine Calls.mono (HDC _) ?_;rintro e w1 ⟨rfl,hw1⟩;obtain rfl:=hw1.symm;go_wp2;go_ret;rw[HZ.out];exact⟨rfl,rfl⟩
  ·have HZ:Hid (res=0):=by
    show _=_;have h1:=HALL;rw[List.take_of_length_le (by omega)] at h1;rw[HR.out,ziz l h1];rfl
   clear HR HALL HBEG HG HLE HDI;go_wp2;go_ret;rw[HZ.out];exact⟨rfl,rfl⟩
def za1:Value→Nat
 | .string b=>b.size
 |_=>0
theorem ziB (l:Bs):z24 l=z4M (z3N blankB l):=rfl
theorem z8L (c:UInt8):blankB c=decide ((c.toNat:Int)≤32):=by unfold blankB;apply decide_eq_decide.2;omega
theorem zdv (m l:Bs) (h:(m.reverse.dropWhile blankB).reverse=z3N blankB l) (hm:m=[]∨∃x y,m=x++ [y]∧blankB y=false):m=z3N blankB l:=by
 rw[←h];rcases hm with rfl|⟨x,y,rfl,hy⟩
 ·rfl
 ·rw[List.reverse_append]
  simp[hy]
theorem ziC (m l:Bs) (h:m.dropWhile blankB=l.dropWhile blankB) (hm:m=[]∨∃y x,m=y::x∧blankB y=false):(m.reverse.dropWhile blankB).reverse=z3N blankB l:=by
 unfold z3N;rw[←h];rcases hm with rfl|⟨y,x,rfl,hy⟩
 ·rfl
 ·simp[hy]
theorem zmo (l:Bs) (w:World) (hs:l.length≤35184372088832):CN 121 #[.string ⟨l.toArray⟩] w (.string ⟨(z24 l).toArray⟩):=by
 have HBA:Hid (∀(m:Bs) (mb:ByteArray) W,mb=⟨m.toArray⟩→m.length≤35184372088832→CN 75 #[.string mb] W (.string ⟨(z4M m).toArray⟩)):=by intro m mb W h hm;rw[h];exact znl ⟨m.toArray⟩ W (by rw[z07];exact hm)
 rw[ziB];go_enter func121,ntmps121;go_wp2_with fail;go_loopw [0] (fun x wr=>∃m:Bs,x=.string ⟨m.toArray⟩∧m.length≤35184372088832∧m.dropWhile blankB=l.dropWhile blankB∧wr=w) (fun x _=>za1 x)
 case atStart=>exact⟨l,rfl,hs,rfl,rfl⟩
 case round=>
  obtain⟨m,rfl,hml,hmd,hwr⟩:=hrel;obtain rfl:=hwr.symm;have HMD:=hI hmd;clear hmd;obtain⟨mb,hmb⟩:=z09 (⟨m.toArray⟩:ByteArray);have hsz:mb.size=m.length:=by rw[hmb,z07]
  have HG:Hid (∀(k:Nat) (h:k<mb.size) (h2:k<m.length),m[k]=mb[k]):=by intro k h h2;subst hmb;rfl
  have HXT:Hid (∀i j:Nat,mb.extract i j=⟨((m.drop i).take (j- i)).toArray⟩):=by intro i j;rw[hmb];exact z1Z _ i j
  rw[←hmb];clear hmb;have hcase:(∃h0:0<mb.size,((mb[0]'h0).toNat:Int)≤32)∨(mb.size=0∨∃h0:0<mb.size,¬((mb[0]'h0).toNat:Int)≤32):=by
   rcases Nat.eq_zero_or_pos mb.size with h|h
   ·exact Or.inr (Or.inl h)
   ·by_cases h2:((mb[0]'h).toNat:Int)≤32
    ·exact Or.inl ⟨h,h2⟩
    ·exact Or.inr (Or.inr ⟨h,h2⟩)
  rcases hcase with⟨h0,hb0⟩|hex
  ·have hm0:0<m.length:=by omega
   have hsp:=z7F m 0 hm0;have HN:Hid ((m.drop 1).dropWhile blankB=l.dropWhile blankB):=by
    show _=_;rw[←HMD.out];conv=>rhs;rw[hsp]
    rw[List.take_zero,List.nil_append,List.dropWhile_cons,HG.out 0 h0 hm0,z8L,decide_eq_true hb0];rfl
   have hx:mb.extract 1 mb.size=⟨(m.drop 1).toArray⟩:=(by rw[HXT.out,List.take_of_length_le (by rw[List.length_drop];omega)]);have HL:Hid ((m.drop 1).length≤35184372088832∧(m.drop 1).length<mb.size):=(by rw[List.length_drop];exact⟨by omega,by omega⟩);generalize m.drop 1=m2 at*;have h1i:(1:Int)≤(mb.size:Int):=(by omega);clear HMD HG HXT hsp hsz;go_wp2;go_roundw
   case rel=>exact⟨m2,rfl,HL.out.1,HN,trivial⟩
   case measure=>(simp only[za1,z07];exact HL.out.2)
  ·have HST:Hid ((m.reverse.dropWhile blankB).reverse=z3N blankB l):=by
    refine ziC m l HMD ?_;rcases hex with h|⟨h0,hb0⟩
    ·left
     exact List.length_eq_zero_iff.1 (by omega)
    ·right
     have hm0:0<m.length:=(by omega);refine⟨m[0],m.drop 1,z7F m 0 hm0,?_⟩;rw[HG.out 0 h0 hm0,z8L,decide_eq_false hb0]
   have HMB:Hid (mb=⟨m.toArray⟩∧m.length≤35184372088832):=⟨by
    have:=HXT 0 mb.size;rw[List.drop_zero,List.take_of_length_le (by omega)] at this;rw[←this];simp,hml⟩
   clear HMD HG HXT;rcases hex with h|⟨h0,hb0⟩;all_goals
    go_wp2_with fail;go_loopw [0] (fun x wr=>∃m:Bs,x=.string ⟨m.toArray⟩∧m.length≤35184372088832∧(m.reverse.dropWhile blankB).reverse=z3N blankB l∧wr=w) (fun x _=>za1 x)
    case atStart=>exact⟨m,congrArg Value.string HMB.out.1,HMB.out.2,HST,rfl⟩
    case round=>
     clear HST HMB;obtain⟨m3,rfl,hml3,hmd3,hwr⟩:=hrel;obtain rfl:=hwr.symm;have HMD3:=hI hmd3;clear hmd3;obtain⟨mc,hmc⟩:=z09 (⟨m3.toArray⟩:ByteArray);have HMC:=hI hmc;have hsz3:mc.size=m3.length:=(by rw[hmc,z07]);have HG3:Hid (∀(k:Nat) (h:k<mc.size) (h2:k<m3.length),m3[k]=mc[k]):=by intro k h h2;subst hmc;rfl
     have HXT3:Hid (∀i j:Nat,mc.extract i j=⟨((m3.drop i).take (j- i)).toArray⟩):=(by intro i j;rw[hmc];exact z1Z _ i j);rw[←hmc];clear hmc;rcases Nat.eq_zero_or_pos mc.size with hz|hz
     ·have HF:Hid _:=zdv m3 l HMD3 (Or.inl (List.length_eq_zero_iff.1 (by omega)))
      have HB2:Hid _:=fun W=>HBA m3 mc W HMC hml3;rw[HF.out] at HB2;clear HG3 HXT3 HMD3 HMC HF;go_wp2_with fail;refine Calls.mono (HB2 _) ?_;rintro e w1 ⟨rfl,nd,rfl⟩;go_wp2;go_ret;exact⟨rfl,_,rfl⟩
     ·obtain⟨n,hn⟩:∃n,mc.size=n+1:=⟨mc.size- 1,by omega⟩
      have hnl:n<mc.size:=(by omega);have hn3:n<m3.length:=(by omega);have hsp:=z7F m3 n hn3;rw[List.drop_of_length_le (by omega)] at hsp;by_cases hb:((mc[n]'hnl).toNat:Int)≤32
      ·have HN:Hid (((m3.take n).reverse.dropWhile blankB).reverse=z3N blankB l):=by
        show _=_;rw[←HMD3.out];conv=>rhs;rw[hsp]
        rw[List.reverse_append,List.reverse_singleton,List.singleton_append,List.dropWhile_cons,HG3.out n hnl hn3,z8L,decide_eq_true hb];rfl
       have hx:mc.extract 0 n=⟨(m3.take n).toArray⟩:=(by rw[HXT3.out,List.drop_zero,Nat.sub_zero]);have HL:Hid ((m3.take n).length≤35184372088832∧(m3.take n).length<n+1):=(by rw[List.length_take];exact⟨by omega,by omega⟩);generalize m3.take n=m4 at*;have hni:(n:Int)≤(mc.size:Int):=(by omega);have HSN:=hI hn;clear HMD3 HG3 HXT3 hsp hsz3 HMC;go_wp2;go_roundw
       case rel=>exact⟨m4,rfl,HL.out.1,HN,trivial⟩
       case measure=>(simp only[za1,z07,HSN.out];exact HL.out.2)
      ·have HF:Hid _:=zdv m3 l HMD3 (Or.inr ⟨m3.take n,m3[n],hsp,by rw[HG3.out n hnl hn3,z8L,decide_eq_false hb]⟩)
       have HB2:Hid _:=fun W=>HBA m3 mc W HMC hml3;rw[HF.out] at HB2;have hnb:n≤35184372088832:=(by omega);clear HG3 HXT3 HMD3 HMC HF hsp hsz3 hn3 hml3;go_wp2_with fail;refine Calls.mono (HB2 _) ?_;rintro e w1 ⟨rfl,nd,rfl⟩;go_wp2;go_ret;exact⟨rfl,_,rfl⟩
def zo3 (w:World) (res:Except Int Adr) (e:Ending) (w':World):Prop:=
 Below w.heap.size w w'∧match res with
 | .ok u=>∃pv,e=.returned (.tuple #[.pointer (some ⟨w.heap.size,0,none⟩),.int .i64 0])∧UBase w'.heap.size w' u w.heap.size pv∧UAt w' w.heap.size u pv
 | .error er=>e=.returned (.tuple #[.pointer none,.int .i64 er])∧er≠0
theorem zlK (base:Option Adr) (hg:∀b,base=some b→Moor.Good hostTell b):∀b,base=some b→z0b b.scheme=true→b.way.opaq=false:=fun b hb hs=>((hg b hb).spec hs).2.1
theorem zdu (base:Option Adr) (n:Nat) (c f:Mc) (h:z5T hostTell base n c=some f) (hc:c.st=13∨c.err≠0):f=c:=by
 cases n with
 |zero=>unfold z5T at h;rw[if_pos hc] at h;injection h with h;exact h.symm
 |succ n=>unfold z5T at h;rw[if_pos hc] at h;injection h with h;exact h.symm
theorem znx (base:Option Adr) (n:Nat) (c f:Mc) (h:z5T hostTell base n c=some f) (hc:¬(c.st=13∨c.err≠0)):∃m,m<n∧z5T hostTell base m (z0g hostTell base c)=some f:=by
 cases n with
 |zero=>unfold z5T at h;rw[if_neg hc] at h;cases h
 |succ n=>unfold z5T at h;rw[if_neg hc] at h;exact⟨n,Nat.lt_succ_self _,h⟩
theorem zny (t:Bs) (bv:Value) (base:Option Adr) (w:World) (hbv:z6s w.heap.size w bv base) (hg:∀b,base=some b→Moor.Good hostTell b) (hbl:z3n base≤400000) (ht:t.length≤2000):Calls prog 68 #[.string ⟨t.toArray⟩,bv] w fun e w'=>zo3 w (z0C hostTell t base) e w':=by
 have hbo:=zlK base hg;have hpv:∃p,bv=.pointer p:=by
  cases base with
  |none=>exact⟨none,hbv⟩
  |some b=>obtain⟨bj,bpv,h1,_⟩:=hbv;exact⟨_,h1⟩
 obtain⟨bp,rfl⟩:=hpv;have hsl:=Nat.le_trans (z9i t) ht;obtain⟨nr,f,hrun,hfin⟩:=zjE hostTell zjb t base hg;have HFIN:Hid (∀e w',Below w.heap.size w w'→(f.err≠0→e=.returned (.tuple #[.pointer none,.int .i64 f.err]))→(f.err=0→∃pv,e=.returned (.tuple #[.pointer (some ⟨w.heap.size,0,none⟩),.int .i64 0])∧UBase w'.heap.size w' f.u w.heap.size pv∧UAt w' w.heap.size f.u pv)→zo3 w (z0C hostTell t base) e w'):=by
  intro e w' hb h1 h2;refine⟨hb,?_⟩;cases hr:z0C hostTell t base with
  |ok u=>rw[hr] at hfin;have h3:=h2 hfin.1;rw[hfin.2] at h3;exact h3
  |error er=>rw[hr] at hfin;have h3:=h1 (by rw[hfin.1];exact hfin.2);rw[hfin.1] at h3;exact⟨h3,hfin.2⟩
 clear hfin;have HCL:=hI fun W=>zmo t W (by omega);obtain⟨l,hl⟩:=z09 (z24 t);rw[←hl] at HCL hsl hrun;have HSC:=hI fun W=>zlR l W (by omega);obtain⟨s,hs⟩:=z09 (⟨l.toArray⟩:ByteArray);have hlen:l.length=s.size:=by rw[hs,z07]
 have hsd:s.data.toList=l:=by rw[hs]
 have HX:Hid (∀q:Nat,s.extract 0 q=⟨(l.take q).toArray⟩):=by intro q;rw[hs];exact zhe l q
 rw[←hs] at HCL HSC;have HSM:Hid (∀(x:Bs) W,x.length≤2000→CB 118 #[.string ⟨x.toArray⟩] W (.string ⟨(Lib.toLowerA x).toArray⟩)):=fun x W hx=>zm8 ⟨x.toArray⟩ W (by rw[z07];omega);have hKl:(z0k l).2.length+(2+z3n base)≤410000:=by
  have h1:(z0k l).2.length≤l.length:=by
   rw[z6d];split
   ·exact Nat.le_refl _
   ·simp
  omega
 obtain⟨hi0,hn0,he0⟩:=zk3 base hbo (z0k l).1 (z0k l).2 410000 hKl;obtain⟨c0,hc0⟩:=z09 (z4G base (z0k l).1 (z0k l).2);rw[←hc0] at hrun hi0 hn0 he0;have HSTEP:Hid (∀c W,z3u w.heap.size (w.heap.size+2) (w.heap.size+1) w.heap.size (.pointer bp) s w c W→Inv base 410000 c→z3t c→c.st≠13→c.err=0→CQ 124 #[.pointer (some ⟨w.heap.size+1,0,none⟩)] W (.tuple #[]) (z6B w.heap.size (w.heap.size+2) (w.heap.size+1) w.heap.size (.pointer bp) s w (z0g hostTell base c))):=by intro c W hr hi hn h13 he;exact zo4 hbv hbo (by omega) (by omega) (fun u pv a W2 hm ha hu hp=>znt a hm hu hp ha (by omega)) (fun u pv a W2 hm ha ho hsg=>zmi a hm hbv hbo ho ha (by omega) hsg) c W hr hi hn h13 he
 have HKI:Hid (∀(u:Adr) pv (a st er:Int) W,Mem w.heap.size (w.heap.size+2) (w.heap.size+1) w.heap.size (.pointer bp) s w u pv a st er W→CN 123 #[.pointer (some ⟨w.heap.size+1,0,none⟩)] W (.int .i64 (z2u base u.scheme:Nat))):=fun u pv a st er W hm=>znm hm hbv;have HST:=hI fun nd=>znB w nd (.pointer bp) s;have HS0:Hid (z0P l=0→c0=⟨z20 [],l,14,0⟩):=fun h=>by rw[hc0];exact zis base l h
 have HS1:Hid (z0P l≠0→c0=⟨z20 (Lib.toLowerA (l.take (z0P l- 1))),l.drop (z0P l),z2u base (Lib.toLowerA (l.take (z0P l- 1))),0⟩):=fun h=>by rw[hc0];exact zit base l h
 have hsle:=z8X l;have HSD:=hI hsd;have HRUN:=hI hrun;have HI0:=hI hi0;have HN0:=hI hn0;have HE0:=hI he0;have HIS:Hid (∀c,Inv base 410000 c→Inv base 410000 (z0g hostTell base c)):=fun c h=>zlT hostTell hbo c h;have HNS:Hid (∀c,z3t c→z3t (z0g hostTell base c)):=fun c h=>zeg hostTell c h;clear hbv hg hbo hc0 hl hs hsd hrun hi0 hn0 he0 hKl;generalize z0P l=n at*;go_enter func68,ntmps68;go_wp2_with fail;refine Calls.mono (HCL _) ?_;rintro e w1 ⟨rfl,nd,rfl⟩;go_upto_region 3 with fail;go_name_world W1 hW1;have hm1:Mem w.heap.size (w.heap.size+2) (w.heap.size+1) w.heap.size (.pointer bp) s w (z20 []) (.slice none 0 0) 0 0 0 W1:=by rw[←hW1];exact HST nd
 have HM1:Hid _:=hm1;have z4:=hm1.y4;have x4:=hm1.f 4;clear hW1 hm1 HST HCL;go_wp2_with fail;refine Calls.mono (HSC _) ?_;rintro e w2 ⟨rfl,hw2⟩;obtain rfl:=hw2.symm;go_upto_if 22 with fail
 go_name_world W2 hW2;have hm2:Mem w.heap.size (w.heap.size+2) (w.heap.size+1) w.heap.size (.pointer bp) s w (z20 []) (.slice none 0 0) 0 14 0 W2:=by rw[←hW2];exact HM1.out.set_st 14
 have HM2:Hid _:=hm2;have y0:=hm2.y0;clear hW2 hm2 HM1 z4 x4;go_cut [] from 21 to 42 (fun wx=>z3u w.heap.size (w.heap.size+2) (w.heap.size+1) w.heap.size (.pointer bp) s w c0 wx)
 case first=>
  clear HFIN HSTEP HRUN HI0 HN0 HE0 HIS HNS;by_cases hn0:n=0
  ·subst hn0
   have HC:Hid _:=HS0 rfl;clear HS0 HS1;go_wp2;go_meet
   case rel=>(rw[HC.out];exact z1S (a:=0) HM2 (Nat.zero_le _) _ (by rw[HSD.out];rfl))
  ·have HC:Hid _:=HS1 hn0
   have hnp:(0:Int)<(n:Int):=(by omega);obtain⟨m,hm⟩:=z09 (n- 1);have q6:IntKind.i64.wrap ((n:Int)- 1)=(m:Int):=(by rw[IntWalk.i64_left];unfold wrap64;omega);have q2:(m:Int)≤(s.size:Int):=(by omega);rw[←hm] at HC;have hx:=HX m;have HSL:Hid _:=fun W=>HSM (l.take m) W (by rw[List.length_take];omega);obtain⟨sm,hsm⟩:=z09 (Lib.toLowerA (l.take m));rw[←hsm] at HSL HC;have HCL:Hid (∀w5,Below W2.heap.size W2 w5→w5.cell? ⟨w.heap.size+1,0,none⟩=some (.pointer (some ⟨w.heap.size,0,none⟩))∧w5.cell? ⟨w.heap.size,0,none⟩=some (.string ⟨#[]⟩)∧w5.frozen? ⟨w.heap.size,0,none⟩=false∧w5.cell? ⟨w.heap.size+1,3,none⟩=some (.int .i64 0)∧w5.frozen? ⟨w.heap.size+1,3,none⟩=false∧w5.cell? ⟨w.heap.size+1,4,none⟩=some (.int .i64 14)∧w5.frozen? ⟨w.heap.size+1,4,none⟩=false∧Hid (Mem w.heap.size (w.heap.size+2) (w.heap.size+1) w.heap.size (.pointer bp) s w (z20 sm) (.slice none 0 0) 0 14 0 (w5.setCell ⟨w.heap.size,0,none⟩ (.string ⟨sm.toArray⟩)))):=(by intro w5 h5;have h6:=HM2.out.off h5;exact⟨z00 h6.mach 0,z00 h6.url 0,h6.g 0,z00 h6.mach 3,h6.f 3,z00 h6.mach 4,h6.f 4,h6.uset (u':=z20 sm) 0 _ rfl rfl⟩);have hsn:n≤s.size:=(by omega);clear HS0 HS1 HX HSM hsm HM2 hm;go_wp2;go_region_held3 (fun w'=>w'.cell? ⟨w.heap.size+1,0,none⟩=some (.pointer (some ⟨w.heap.size,0,none⟩))) (go_keep) (first|(go_at_call 118;refine Calls.mono (HSL _) ?_;rintro e w5 ⟨rfl,hb5⟩;obtain⟨v0,v00,x00,v3,x3,v4,x4,HM5⟩:=HCL w5 ((z1x rfl rfl rfl rfl:Below W2.heap.size W2 W2.drew).trans hb5);clear hb5))
   go_wp2_with fail;refine Calls.mono (HKI _ _ _ _ _ _ (HM5.out.set_a (n:Int))) ?_;rintro e w6 ⟨rfl,n6,rfl⟩;go_wp2;go_meet
   case rel=>(rw[HC.out];exact z1S (a:=n) (((HM5.out.set_a (n:Int)).drewN n6).set_st _) hsn _ (by rw[HSD.out]))
 case rest=>
 have HR0:=hI hcut;clear hcut HS0 HS1 HX HSM HM2 HKI y0 HSC;go_wp2_with fail;go_loopg [] nr (fun g wr=>∃c,z5T hostTell base g c=some f∧z6B w.heap.size (w.heap.size+2) (w.heap.size+1) w.heap.size (.pointer bp) s w c wr∧Inv base 410000 c∧z3t c)
 case atStart=>exact⟨c0,HRUN,z4g HR0 HE0,HI0,HN0⟩
 case round=>
 clear HRUN HR0 HE0 HI0 HN0;obtain⟨c,hrun,hrel2,hi,hn⟩:=hrel;rcases hrel2 with⟨he,hr⟩|⟨he,hb,x0,x1,x2,x3,st,hmk⟩
 ·by_cases h13:c.st=13
  ·have hfc:=zdu base gk c f hrun (Or.inl h13)
   obtain⟨pv,a,hm,_,_⟩:=hr;have HF:=hI (HFIN _ wr hm.below (fun h=>absurd (by rw[hfc];exact he) h) (fun _=>⟨pv,rfl,by rw[hfc];exact hm.base,by rw[hfc];exact hm.at⟩));have z0:=hm.y0;have z4:wr.cell? ⟨w.heap.size+1,4,none⟩=some (.int .i64 13):=by have:wr.cell? ⟨w.heap.size+1,4,none⟩=some (.int .i64 (c.st:Nat)):=z00 hm.mach 4;rw[h13] at this;exact this
   have z5:wr.cell? ⟨w.heap.size+1,5,none⟩=some (.int .i64 0):=(by have:wr.cell? ⟨w.heap.size+1,5,none⟩=some (.int .i64 c.err):=z00 hm.mach 5;rw[he] at this;exact this);clear hm hfc h13 he hrun hi hn HFIN HSTEP HIS HNS;go_wp2;go_ret2;exact HF
  ·obtain⟨m,hlt,hrun2⟩:=znx base gk c f hrun (by rintro(h|h);exact h13 h;exact h he)
   have HST:Hid _:=HSTEP c wr hr hi hn h13 he;have HNX:Hid (∀w1,z6B w.heap.size (w.heap.size+2) (w.heap.size+1) w.heap.size (.pointer bp) s w (z0g hostTell base c) w1→∃c,z5T hostTell base m c=some f∧z6B w.heap.size (w.heap.size+2) (w.heap.size+1) w.heap.size (.pointer bp) s w c w1∧Inv base 410000 c∧z3t c):=fun w1 h1=>⟨_,hrun2,h1,HIS c hi,HNS c hn⟩;obtain⟨pv,a,hm,_,_⟩:=hr;have z4:=hm.y4;have z5:wr.cell? ⟨w.heap.size+1,5,none⟩=some (.int .i64 0):=(by have:wr.cell? ⟨w.heap.size+1,5,none⟩=some (.int .i64 c.err):=z00 hm.mach 5;rw[he] at this;exact this);have e13:(((c.st:Nat):Int) !=13)=true:=(by rw[bne_iff_ne];omega);generalize((c.st:Nat):Int)=cst at z4 e13;clear hm h13 he hrun hi hn HFIN HSTEP HIS HNS hrun2;go_wp2_with fail;refine Calls.mono HST ?_;rintro e w1 ⟨rfl,hre⟩;have HRE:Hid _:=HNX w1 hre;clear hre HNX HST;go_wp2;go_roundg m
   case measure=>exact hlt
   case rel=>exact HRE
 ·have hfc:=zdu base gk c f hrun (Or.inr he)
  have HF:=hI (HFIN _ wr.drew hb.drew (fun _=>by rw[hfc]) (fun h=>absurd (by rw[←hfc];exact h) he));have z4:wr.cell? ⟨w.heap.size+1,4,none⟩=some (.int .i64 st):=z00 hmk 4;have z5:wr.cell? ⟨w.heap.size+1,5,none⟩=some (.int .i64 c.err):=z00 hmk 5;have e5:(c.err==0)=false:=by rw[beq_eq_false_iff_ne];exact he
  generalize c.err=ce at*;have h13:(st==13)=true∨(st==13)=false:=by cases(st==13)<;>simp
  clear hmk hfc he hrun hi hn HFIN HSTEP HIS HNS hb;rcases h13 with h13|h13
  ·go_wp2
   go_region;go_wp2;go_ret2;exact HF
  ·go_wp2
   go_region;go_wp2;go_ret2;exact HF
theorem z39 (P:Program) (x y:Bs) (h:x.length+y.length≤2000000000):∀V:World,(Op.stringOp .add ⟨x.toArray⟩ ⟨y.toArray⟩).run P V=.ok (.string ⟨(x++y).toArray⟩) V:=fun V=>by
 rw[run_string_add_sum V _ _ (by rw[z07,z07];omega)];exact congrArg (fun z=>Result.ok (Value.string z) V) (z0G x y)
def z2I (us:Bool) (a:Auth):Bs:=if us then z16 a else []
def z3Q (us:Bool) (u:Adr):Bs:=u.scheme++58::(if u.auth.has then 47::47::(z2I us u.auth++z1m u.auth) else [])
theorem zbj (x:Bs):((⟨x.toArray⟩:ByteArray).toList.isEmpty)=x.isEmpty:=by rw[Lib.toList_data]
theorem zmj (j:Nat) (u:Adr) (pv:Value) (us:Bool) (w:World) (hu:UAt w j u pv) (hp:u.auth.port= -1∨(0≤u.auth.port∧u.auth.port≤65535)) (hl:u.scheme.length+u.auth.user.length+u.auth.pass.length+u.auth.host.length≤100000000):CB 74 #[.pointer (some ⟨j,0,none⟩),.bool us] w (.string ⟨(z3Q us u).toArray⟩):=by
 have c0:w.cell? ⟨j,0,none⟩=some (.string ⟨u.scheme.toArray⟩):=z00 hu.url 0;have c1:w.cell? ⟨j,1,none⟩=some (.string ⟨u.auth.user.toArray⟩):=z00 hu.url 1;have c2:w.cell? ⟨j,2,none⟩=some (.string ⟨u.auth.pass.toArray⟩):=z00 hu.url 2;have c3:w.cell? ⟨j,3,none⟩=some (.bool u.auth.has):=z00 hu.url 3;have c4:w.cell? ⟨j,4,none⟩=some (.string ⟨u.auth.host.toArray⟩):=z00 hu.url 4;have c5:w.cell? ⟨j,5,none⟩=some (.int .i64 u.auth.port):=z00 hu.url 5;have HSAME:Hid (∀n,Below w.heap.size w (w.drewN n)):=fun n=>z1x rfl rfl rfl rfl;have HDE:Hid (0≤u.auth.port→∀W,CB 128 #[.int .i64 u.auth.port] W (.string ⟨(z42 u.auth.port).toArray⟩)):=by
  intro h0 W;have hle:u.auth.port≤65535:=by omega
  obtain⟨n,hn⟩:∃n:Nat,u.auth.port=(n:Int):=⟨u.auth.port.toNat,by omega⟩;have:=zkn 4 n W (by omega) (by omega) (by omega);rw[z69 4 n (by omega)] at this;rw[hn];exact this
 have hdl:0≤u.auth.port→(z42 u.auth.port).length≤5:=by intro h0;obtain⟨n,hn⟩:∃n:Nat,u.auth.port=(n:Int):=⟨u.auth.port.toNat,by omega⟩;have h1:=z4u 10 4 n;rw[z69 4 n (by omega)] at h1;rw[hn];exact h1
 obtain⟨sc,⟨xu,xp,has,xh,port⟩,way,q,f⟩:=u;simp only at c0 c1 c2 c3 c4 c5 HDE hp hl hdl;clear hu;obtain⟨t0,e0⟩:∃t,t=sc++ [58]:=⟨_,rfl⟩;have a0:∀V:World,(Op.stringOp .add ⟨sc.toArray⟩ ⟨#[58]⟩).run prog V=.ok (.string ⟨t0.toArray⟩) V:=by rw[e0];exact z39 _ sc [58] (by simp;omega)
 have l0:t0.length=sc.length+1:=by rw[e0];simp
 cases has with
 |false=>
  have HE:Hid (z3Q us ⟨sc,⟨xu,xp,false,xh,port⟩,way,q,f⟩=t0):=by rw[e0];rfl
  rw[HE.out];clear e0 l0 HDE hdl hp hl HE;go_enter func74,ntmps74;go_wp2;go_ret;exact⟨rfl,Below.refl _ _⟩
 |true=>
  have HE:Hid (z3Q us ⟨sc,⟨xu,xp,true,xh,port⟩,way,q,f⟩=t0++ [47,47]++z2I us ⟨xu,xp,true,xh,port⟩++(if port= -1 then xh else xh++58::z42 port)):=by show _=_;rw[e0];unfold z3Q;simp only[if_true,List.append_assoc,List.cons_append,List.nil_append];rfl
  rw[HE.out];clear HE e0;obtain⟨t1,e1⟩:∃t,t=t0++ [47,47]:=⟨_,rfl⟩;have a1:∀V:World,(Op.stringOp .add ⟨t0.toArray⟩ ⟨#[47,47]⟩).run prog V=.ok (.string ⟨t1.toArray⟩) V:=by rw[e1];exact z39 _ t0 [47,47] (by simp;omega)
  have l1:t1.length=t0.length+2:=by rw[e1];simp
  rw[←e1];clear e1;have aup:∀V:World,(Op.stringOp .add ⟨xu.toArray⟩ ⟨xp.toArray⟩).run prog V=.ok (.string ⟨(xu++xp).toArray⟩) V:=z39 _ xu xp (by omega);have nup:((⟨(xu++xp).toArray⟩:ByteArray).toList.isEmpty)=(xu++xp).isEmpty:=zbj _;have npp:((⟨xp.toArray⟩:ByteArray).toList.isEmpty)=xp.isEmpty:=zbj _;obtain⟨ub,hub⟩:=z09 (⟨(xu++xp).toArray⟩:ByteArray);rw[←hub] at aup nup;clear hub;cases us with
  |false=>
   obtain⟨t6,e6⟩:∃t,t=t1++xh:=⟨_,rfl⟩;have a6:∀V:World,(Op.stringOp .add ⟨(t1).toArray⟩ ⟨xh.toArray⟩).run prog V=.ok (.string ⟨t6.toArray⟩) V:=(by rw[e6];exact z39 _ t1 xh (by omega));have l6:t6.length=(t1).length+xh.length:=(by rw[e6];simp);rcases hp with hp|hp
   ·have HF:Hid (t1++z2I false ⟨xu,xp,true,xh,port⟩++(if port= -1 then xh else xh++58::z42 port)=t6):=by
     show _=_;show t1++ []++_=_;rw[List.append_nil];rw[if_pos hp,e6]
    have hpn:¬(0:Int)≤port:=(by omega);rw[HF.out];clear e6 HDE hdl hp hl HF nup npp aup;go_enter func74,ntmps74;go_wp2;go_quiet (fail);go_wp2;go_ret;exact⟨rfl,HSAME _⟩
   ·have HDC:Hid _:=HDE hp.1
    have hdl2:=hdl hp.1;obtain⟨dc,edc⟩:∃d,d=z42 port:=⟨_,rfl⟩;rw[←edc] at HDC hdl2;obtain⟨t7,e7⟩:∃t,t=t6++ [58]:=⟨_,rfl⟩;obtain⟨t8,e8⟩:∃t,t=t7++dc:=⟨_,rfl⟩;have a7:∀V:World,(Op.stringOp .add ⟨t6.toArray⟩ ⟨#[58]⟩).run prog V=.ok (.string ⟨t7.toArray⟩) V:=(by rw[e7];exact z39 _ t6 [58] (by simp;omega));have l7:t7.length=t6.length+1:=(by rw[e7];simp);have a8:∀V:World,(Op.stringOp .add ⟨t7.toArray⟩ ⟨dc.toArray⟩).run prog V=.ok (.string ⟨t8.toArray⟩) V:=(by rw[e8];exact z39 _ t7 dc (by omega));have HF:Hid (t1++z2I false ⟨xu,xp,true,xh,port⟩++(if port= -1 then xh else xh++58::z42 port)=t8):=(by show _=_;show t1++ []++_=_;rw[List.append_nil];rw[if_neg (by omega),e8,e7,e6,edc];simp);have hpn:=hp.1;rw[HF.out];clear e6 e7 e8 edc HDE hdl hl HF hdl2 nup npp aup;go_enter func74,ntmps74;go_wp2;go_quiet (fail);go_wp2_with fail;refine Calls.mono (HDC _) ?_;rintro e w5 ⟨rfl,hb5⟩;have HB5:Hid _:=(HSAME _).trans hb5;clear hb5;go_wp2;go_ret;exact⟨rfl,HB5⟩
  |true=>
   by_cases hxp:xp=[]
   ·have hpb:(⟨xp.toArray⟩:ByteArray).toList.isEmpty=true:=by rw[npp,hxp];rfl
    by_cases hxu:xu=[]
    ·have hnb:ub.toList.isEmpty=true:=by rw[nup,hxu,hxp];rfl
     obtain⟨t6,e6⟩:∃t,t=t1++xh:=⟨_,rfl⟩;have a6:∀V:World,(Op.stringOp .add ⟨(t1).toArray⟩ ⟨xh.toArray⟩).run prog V=.ok (.string ⟨t6.toArray⟩) V:=(by rw[e6];exact z39 _ t1 xh (by omega));have l6:t6.length=(t1).length+xh.length:=(by rw[e6];simp);rcases hp with hp|hp
     ·have HF:Hid (t1++z2I true ⟨xu,xp,true,xh,port⟩++(if port= -1 then xh else xh++58::z42 port)=t6):=by
       show _=_;rw[show z2I true ⟨xu,xp,true,xh,port⟩=[] from by show z16 _=_;unfold z16;rw[if_neg (fun h=>h hxp),if_neg (fun h=>h hxu)],List.append_nil];rw[if_pos hp,e6]
      have hpn:¬(0:Int)≤port:=(by omega);rw[HF.out];clear e6 HDE hdl hp hl HF nup npp hxp hxu hpb;go_enter func74,ntmps74;go_wp2;go_quiet (fail);go_wp2;go_ret;exact⟨rfl,HSAME _⟩
     ·have HDC:Hid _:=HDE hp.1
      have hdl2:=hdl hp.1;obtain⟨dc,edc⟩:∃d,d=z42 port:=⟨_,rfl⟩;rw[←edc] at HDC hdl2;obtain⟨t7,e7⟩:∃t,t=t6++ [58]:=⟨_,rfl⟩;obtain⟨t8,e8⟩:∃t,t=t7++dc:=⟨_,rfl⟩;have a7:∀V:World,(Op.stringOp .add ⟨t6.toArray⟩ ⟨#[58]⟩).run prog V=.ok (.string ⟨t7.toArray⟩) V:=(by rw[e7];exact z39 _ t6 [58] (by simp;omega));have l7:t7.length=t6.length+1:=(by rw[e7];simp);have a8:∀V:World,(Op.stringOp .add ⟨t7.toArray⟩ ⟨dc.toArray⟩).run prog V=.ok (.string ⟨t8.toArray⟩) V:=(by rw[e8];exact z39 _ t7 dc (by omega));have HF:Hid (t1++z2I true ⟨xu,xp,true,xh,port⟩++(if port= -1 then xh else xh++58::z42 port)=t8):=(by show _=_;rw[show z2I true ⟨xu,xp,true,xh,port⟩=[] from by show z16 _=_;unfold z16;rw[if_neg (fun h=>h hxp),if_neg (fun h=>h hxu)],List.append_nil];rw[if_neg (by omega),e8,e7,e6,edc];simp);have hpn:=hp.1;rw[HF.out];clear e6 e7 e8 edc HDE hdl hl HF hdl2 nup npp hxp hxu hpb;go_enter func74,ntmps74;go_wp2;go_quiet (fail);go_wp2_with fail;refine Calls.mono (HDC _) ?_;rintro e w5 ⟨rfl,hb5⟩;have HB5:Hid _:=(HSAME _).trans hb5;clear hb5;go_wp2;go_ret;exact⟨rfl,HB5⟩
    ·have hnb:ub.toList.isEmpty=false:=by
      rw[nup];cases xu with
      |nil=>exact absurd rfl hxu
      |cons x y=>rfl
     obtain⟨t2,e2⟩:∃t,t=t1++xu:=⟨_,rfl⟩;have a2:∀V:World,(Op.stringOp .add ⟨t1.toArray⟩ ⟨xu.toArray⟩).run prog V=.ok (.string ⟨t2.toArray⟩) V:=(by rw[e2];exact z39 _ t1 xu (by omega));have l2:t2.length=t1.length+xu.length:=(by rw[e2];simp);obtain⟨t5,e5⟩:∃t,t=t2++ [64]:=⟨_,rfl⟩;have a5:∀V:World,(Op.stringOp .add ⟨t2.toArray⟩ ⟨#[64]⟩).run prog V=.ok (.string ⟨t5.toArray⟩) V:=(by rw[e5];exact z39 _ t2 [64] (by simp;omega));have l5:t5.length=t2.length+1:=(by rw[e5];simp);have HLG:Hid (t1++z2I true ⟨xu,xp,true,xh,port⟩=t5):=by show t1++z16 _=_;unfold z16;rw[if_neg (fun h=>h hxp),if_pos hxu,e5,e2,List.append_assoc]
     obtain⟨pb,epb⟩:=z09 (⟨xp.toArray⟩:ByteArray);rw[←epb] at hpb c2 aup;obtain⟨t6,e6⟩:∃t,t=t5++xh:=⟨_,rfl⟩;have a6:∀V:World,(Op.stringOp .add ⟨(t5).toArray⟩ ⟨xh.toArray⟩).run prog V=.ok (.string ⟨t6.toArray⟩) V:=(by rw[e6];exact z39 _ t5 xh (by omega));have l6:t6.length=(t5).length+xh.length:=(by rw[e6];simp);rcases hp with hp|hp
     ·have HF:Hid (t1++z2I true ⟨xu,xp,true,xh,port⟩++(if port= -1 then xh else xh++58::z42 port)=t6):=by
       show _=_;rw[HLG.out];rw[if_pos hp,e6]
      have hpn:¬(0:Int)≤port:=(by omega);rw[HF.out];clear e6 HDE hdl hp hl HF nup npp hxp hxu e2 e5 epb HLG;go_enter func74,ntmps74;go_wp2;go_quiet (fail);go_wp2;go_ret;exact⟨rfl,HSAME _⟩
     ·have HDC:Hid _:=HDE hp.1
      have hdl2:=hdl hp.1;obtain⟨dc,edc⟩:∃d,d=z42 port:=⟨_,rfl⟩;rw[←edc] at HDC hdl2;obtain⟨t7,e7⟩:∃t,t=t6++ [58]:=⟨_,rfl⟩;obtain⟨t8,e8⟩:∃t,t=t7++dc:=⟨_,rfl⟩;have a7:∀V:World,(Op.stringOp .add ⟨t6.toArray⟩ ⟨#[58]⟩).run prog V=.ok (.string ⟨t7.toArray⟩) V:=(by rw[e7];exact z39 _ t6 [58] (by simp;omega));have l7:t7.length=t6.length+1:=(by rw[e7];simp);have a8:∀V:World,(Op.stringOp .add ⟨t7.toArray⟩ ⟨dc.toArray⟩).run prog V=.ok (.string ⟨t8.toArray⟩) V:=(by rw[e8];exact z39 _ t7 dc (by omega));have HF:Hid (t1++z2I true ⟨xu,xp,true,xh,port⟩++(if port= -1 then xh else xh++58::z42 port)=t8):=(by show _=_;rw[HLG.out];rw[if_neg (by omega),e8,e7,e6,edc];simp);have hpn:=hp.1;rw[HF.out];clear e6 e7 e8 edc HDE hdl hl HF hdl2 nup npp hxp hxu e2 e5 epb HLG;go_enter func74,ntmps74;go_wp2;go_quiet (fail);go_wp2_with fail;refine Calls.mono (HDC _) ?_;rintro e w5 ⟨rfl,hb5⟩;have HB5:Hid _:=(HSAME _).trans hb5;clear hb5;go_wp2;go_ret;exact⟨rfl,HB5⟩
   ·have hpb:(⟨xp.toArray⟩:ByteArray).toList.isEmpty=false:=by
     rw[npp];cases xp with
     |nil=>exact absurd rfl hxp
     |cons x y=>rfl
    have hnb:ub.toList.isEmpty=false:=by
     rw[nup];cases xu with
     |nil=>
      cases xp with
      |nil=>exact absurd rfl hxp
      |cons x y=>rfl
     |cons x y=>rfl
    obtain⟨t2,e2⟩:∃t,t=t1++xu:=⟨_,rfl⟩;have a2:∀V:World,(Op.stringOp .add ⟨t1.toArray⟩ ⟨xu.toArray⟩).run prog V=.ok (.string ⟨t2.toArray⟩) V:=(by rw[e2];exact z39 _ t1 xu (by omega));have l2:t2.length=t1.length+xu.length:=(by rw[e2];simp);obtain⟨t3,e3⟩:∃t,t=t2++ [58]:=⟨_,rfl⟩;have a3:∀V:World,(Op.stringOp .add ⟨t2.toArray⟩ ⟨#[58]⟩).run prog V=.ok (.string ⟨t3.toArray⟩) V:=(by rw[e3];exact z39 _ t2 [58] (by simp;omega));have l3:t3.length=t2.length+1:=(by rw[e3];simp);obtain⟨t4,e4⟩:∃t,t=t3++xp:=⟨_,rfl⟩;have a4:∀V:World,(Op.stringOp .add ⟨t3.toArray⟩ ⟨xp.toArray⟩).run prog V=.ok (.string ⟨t4.toArray⟩) V:=(by rw[e4];exact z39 _ t3 xp (by omega));have l4:t4.length=t3.length+xp.length:=(by rw[e4];simp);obtain⟨t5,e5⟩:∃t,t=t4++ [64]:=⟨_,rfl⟩;have a5:∀V:World,(Op.stringOp .add ⟨t4.toArray⟩ ⟨#[64]⟩).run prog V=.ok (.string ⟨t5.toArray⟩) V:=(by rw[e5];exact z39 _ t4 [64] (by simp;omega));have l5:t5.length=t4.length+1:=(by rw[e5];simp);have HLG:Hid (t1++z2I true ⟨xu,xp,true,xh,port⟩=t5):=by show t1++z16 _=_;unfold z16;rw[if_pos hxp,e5,e4,e3,e2];simp
    obtain⟨pb,epb⟩:=z09 (⟨xp.toArray⟩:ByteArray);rw[←epb] at hpb c2 aup a4;obtain⟨t6,e6⟩:∃t,t=t5++xh:=⟨_,rfl⟩;have a6:∀V:World,(Op.stringOp .add ⟨(t5).toArray⟩ ⟨xh.toArray⟩).run prog V=.ok (.string ⟨t6.toArray⟩) V:=(by rw[e6];exact z39 _ t5 xh (by omega));have l6:t6.length=(t5).length+xh.length:=(by rw[e6];simp);rcases hp with hp|hp
    ·have HF:Hid (t1++z2I true ⟨xu,xp,true,xh,port⟩++(if port= -1 then xh else xh++58::z42 port)=t6):=by
      show _=_;rw[HLG.out];rw[if_pos hp,e6]
     have hpn:¬(0:Int)≤port:=(by omega);rw[HF.out];clear e6 HDE hdl hp hl HF nup npp hxp e2 e3 e4 e5 epb HLG;go_enter func74,ntmps74;go_wp2;go_quiet (fail);go_wp2;go_ret;exact⟨rfl,HSAME _⟩
    ·have HDC:Hid _:=HDE hp.1
     have hdl2:=hdl hp.1;obtain⟨dc,edc⟩:∃d,d=z42 port:=⟨_,rfl⟩;rw[←edc] at HDC hdl2;obtain⟨t7,e7⟩:∃t,t=t6++ [58]:=⟨_,rfl⟩;obtain⟨t8,e8⟩:∃t,t=t7++dc:=⟨_,rfl⟩;have a7:∀V:World,(Op.stringOp .add ⟨t6.toArray⟩ ⟨#[58]⟩).run prog V=.ok (.string ⟨t7.toArray⟩) V:=(by rw[e7];exact z39 _ t6 [58] (by simp;omega));have l7:t7.length=t6.length+1:=(by rw[e7];simp);have a8:∀V:World,(Op.stringOp .add ⟨t7.toArray⟩ ⟨dc.toArray⟩).run prog V=.ok (.string ⟨t8.toArray⟩) V:=(by rw[e8];exact z39 _ t7 dc (by omega));have HF:Hid (t1++z2I true ⟨xu,xp,true,xh,port⟩++(if port= -1 then xh else xh++58::z42 port)=t8):=(by show _=_;rw[HLG.out];rw[if_neg (by omega),e8,e7,e6,edc];simp);have hpn:=hp.1;rw[HF.out];clear e6 e7 e8 edc HDE hdl hl HF hdl2 nup npp hxp e2 e3 e4 e5 epb HLG;go_enter func74,ntmps74;go_wp2;go_quiet (fail);go_wp2_with fail;refine Calls.mono (HDC _) ?_;rintro e w5 ⟨rfl,hb5⟩;have HB5:Hid _:=(HSAME _).trans hb5;clear hb5;go_wp2;go_ret;exact⟨rfl,HB5⟩
theorem zfE {w:World} {g i:Nat} {v:Value} (h:w.cell? ⟨g,i,none⟩=some v):g<w.heap.size:=by
 rcases Nat.lt_or_ge g w.heap.size with h2|h2
 ·exact h2
 ·simp[World.cell?,Array.getElem?_eq_none h2] at h
theorem Tryz.UAt.below {w w':World} {j:Nat} {u:Adr} {pv:Value} (h:UAt w j u pv) (hb:Below w.heap.size w w'):UAt w' j u pv:=by
 refine⟨(hb.block j (Array.getElem?_eq_some_iff.1 h.url).1).trans h.url,fun ho=>?_,fun ho=>?_⟩
 ·obtain⟨sp,cap,hv,h2⟩:=h.segs ho
  exact⟨sp,cap,hv,fun i x hx=>by obtain⟨g,h3,h4⟩:=h2 i x hx;exact⟨g,h3,by rw[hb.cell (p:=⟨g,i,none⟩) (zfE h4)];exact h4⟩⟩
 ·obtain⟨g,cap,hv,h2⟩:=h.text ho
  exact⟨g,cap,hv,by rw[hb.cell (p:=⟨g,0,none⟩) (zfE h2)];exact h2⟩
theorem ziu (u:Adr):z3p u=z3Q true u++(z3h u++(z1X u.way++(z1b 63 u.query++z1b 35 u.frag))):=by unfold z3p z3Q z3K z2I;simp
theorem znA (j:Nat) (u:Adr) (pv:Value) (w:World) (hu:UAt w j u pv) (hp:u.auth.port= -1∨(0≤u.auth.port∧u.auth.port≤65535)) (ho:u.way.opaq=true→u.way.segs=[]) (hl:u.scheme.length+u.auth.user.length+u.auth.pass.length+u.auth.host.length≤100000000) (hw:(z1X u.way).length≤100000000) (hn:u.way.segs.length≤100000000) (hq:(u.query.getD []).length+(u.frag.getD []).length≤100000000) (hfl:(z3Q true u).length≤200000000):CB 69 #[.pointer (some ⟨j,0,none⟩)] w (.string ⟨(z3p u).toArray⟩):=by
 have HFR:Hid _:=zmj j u pv true w hu hp hl;have HPT:=hI fun W hW=>zk4 j u pv W (hu.below hW) hw hn;have HAT:Hid (∀W,Below w.heap.size w W→UAt W j u pv):=fun W hW=>hu.below hW;rw[ziu];obtain⟨t0,e0⟩:∃t,t=z3Q true u:=⟨_,rfl⟩;rw[←e0] at HFR hfl⊢;clear e0 hp hl;obtain⟨t1,e1⟩:∃t,t=t0++z3h u:=⟨_,rfl⟩;have l1:t1.length≤t0.length+2:=by rw[e1,List.length_append];unfold z3h;split<;>simp
 obtain⟨pt,ept⟩:∃t,t=z1X u.way:=⟨_,rfl⟩;rw[←ept] at HPT hw;obtain⟨t2,e2⟩:∃t,t=t1++pt:=⟨_,rfl⟩;have a2:∀V:World,(Op.stringOp .add ⟨t1.toArray⟩ ⟨pt.toArray⟩).run prog V=.ok (.string ⟨t2.toArray⟩) V:=by rw[e2];exact z39 _ t1 pt (by omega)
 have l2:t2.length=t1.length+pt.length:=by rw[e2];simp
 have HALL:Hid (t0++(z3h u++(z1X u.way++(z1b 63 u.query++z1b 35 u.frag)))=t2++(z1b 63 u.query++z1b 35 u.frag)):=by show _=_;rw[e2,e1,ept];simp
 rw[HALL.out];clear HALL ept e2;have HGD:Hid ((t1=t0∧(u.auth.has=true∨(u.auth.has=false∧u.way.opaq=true)∨(u.auth.has=false∧u.way.opaq=false∧u.way.segs.length≤1)∨(u.auth.has=false∧u.way.opaq=false∧1<u.way.segs.length∧∃x,u.way.segs[0]?=some x∧¬x=[])))∨(t1=t0++ [47,46]∧u.auth.has=false∧u.way.opaq=false∧1<u.way.segs.length∧u.way.segs[0]?=some [])):=by
  rw[e1];unfold z3h;by_cases hh:u.auth.has=false
  ·cases hop:u.way.opaq with
   |true=>left;rw[if_neg (fun h=>by rw[ho hop] at h;simp at h),List.append_nil];exact⟨rfl,Or.inr (Or.inl ⟨hh,rfl⟩)⟩
   |false=>
    by_cases hlen:1<u.way.segs.length
    ·cases hs:u.way.segs with
     |nil=>rw[hs] at hlen;simp at hlen
     |cons x r=>
      rw[hs] at hlen;by_cases hx:x=[]
      ·right
       subst hx;rw[if_pos ⟨hh,hlen,rfl⟩];exact⟨rfl,hh,rfl,hlen,rfl⟩
      ·left
       rw[if_neg (fun h=>hx (by have:=h.2.2;simpa using this)),List.append_nil];exact⟨rfl,Or.inr (Or.inr (Or.inr ⟨hh,rfl,hlen,x,rfl,hx⟩))⟩
    ·left
     rw[if_neg (fun h=>hlen h.2.1),List.append_nil];exact⟨rfl,Or.inr (Or.inr (Or.inl ⟨hh,rfl,by omega⟩))⟩
  ·left
   rw[if_neg (fun h=>hh h.1),List.append_nil];exact⟨rfl,Or.inl (by simpa using hh)⟩
 clear e1 ho;obtain⟨qt,eqt⟩:∃t,t=u.query.getD []:=⟨_,rfl⟩;obtain⟨ft,eft⟩:∃t,t=u.frag.getD []:=⟨_,rfl⟩;rw[←eqt,←eft] at hq;obtain⟨t3,e3⟩:∃t,t=t2++ [63]:=⟨_,rfl⟩;obtain⟨t4,e4⟩:∃t,t=t3++qt:=⟨_,rfl⟩;have a3:∀V:World,(Op.stringOp .add ⟨t2.toArray⟩ ⟨#[63]⟩).run prog V=.ok (.string ⟨t3.toArray⟩) V:=by rw[e3];exact z39 _ t2 [63] (by simp;omega)
 have l3:t3.length=t2.length+1:=by rw[e3];simp
 have a4:∀V:World,(Op.stringOp .add ⟨t3.toArray⟩ ⟨qt.toArray⟩).run prog V=.ok (.string ⟨t4.toArray⟩) V:=by rw[e4];exact z39 _ t3 qt (by omega)
 have l4:t4.length=t3.length+qt.length:=by rw[e4];simp
 obtain⟨tq,etq,ltq⟩:∃t,t=(if u.query.isSome then t4 else t2)∧t.length≤t4.length:=by refine⟨_,rfl,?_⟩;split<;>omega
 obtain⟨t5,e5⟩:∃t,t=tq++ [35]:=⟨_,rfl⟩;obtain⟨t6,e6⟩:∃t,t=t5++ft:=⟨_,rfl⟩;have a5:∀V:World,(Op.stringOp .add ⟨tq.toArray⟩ ⟨#[35]⟩).run prog V=.ok (.string ⟨t5.toArray⟩) V:=by rw[e5];exact z39 _ tq [35] (by simp;omega)
 have l5:t5.length=tq.length+1:=by rw[e5];simp
 have a6:∀V:World,(Op.stringOp .add ⟨t5.toArray⟩ ⟨ft.toArray⟩).run prog V=.ok (.string ⟨t6.toArray⟩) V:=by rw[e6];exact z39 _ t5 ft (by omega)
 have HFIN:Hid (t2++(z1b 63 u.query++z1b 35 u.frag)=if u.frag.isSome then t6 else tq):=by show _=_;rw[e6,e5,etq,e4,e3,eqt,eft];cases u.query<;>cases u.frag<;>simp[z1b]
 rw[HFIN.out];have HC:Hid (∀W,Below w.heap.size w W→W.cell? ⟨j,3,none⟩=some (.bool u.auth.has)∧W.cell? ⟨j,6,none⟩=some (.bool u.way.opaq)∧W.cell? ⟨j,7,none⟩=some pv∧W.cell? ⟨j,8,none⟩=some (.bool u.query.isSome)∧W.cell? ⟨j,9,none⟩=some (.string ⟨qt.toArray⟩)∧W.cell? ⟨j,10,none⟩=some (.bool u.frag.isSome)∧W.cell? ⟨j,11,none⟩=some (.string ⟨ft.toArray⟩)):=by intro W hW;have h:=(HAT.out W hW).url;rw[eqt,eft];exact⟨z00 h 3,z00 h 6,z00 h 7,z00 h 8,z00 h 9,z00 h 10,z00 h 11⟩
 have HSG:Hid (u.way.opaq=false→∃sp cap,pv=.slice sp u.way.segs.length cap∧∀W,Below w.heap.size w W→∀x,u.way.segs[0]?=some x→∃g,sp=some ⟨g,0,none⟩∧W.cell? ⟨g,0,none⟩=some (.string ⟨x.toArray⟩)):=by intro hop;obtain⟨sp,cap,hv,_⟩:=hu.segs hop;refine⟨sp,cap,hv,fun W hW x hx=>?_⟩;obtain⟨sp2,cap2,hv2,h2⟩:=(HAT.out W hW).segs hop;rw[hv] at hv2;simp only[Value.slice.injEq] at hv2;obtain⟨rfl,_,_⟩:=hv2;exact h2 0 x hx
 have HLT0:=hI hfl;clear HFIN e3 e4 e5 e6 eqt eft hu HAT hw hn hq hfl l1 l2 l3 l4 l5 ltq;have hqc:(u.query.isSome=true∧tq=t4)∨(u.query.isSome=false∧tq=t2):=by rw[etq];cases u.query.isSome<;>simp
 clear etq;generalize u.query.isSome=Q at*;generalize u.frag.isSome=Fr at*;rcases HGD.out with⟨rfl,hh|⟨hh,hop⟩|⟨hh,hop,hlen⟩|⟨hh,hop,hlen,x,hx,hxn⟩⟩|⟨e1,hh,hop,hlen,hx⟩
 ·clear HGD HSG
  go_enter func69,ntmps69;go_wp2_with fail;refine Calls.mono HFR.out ?_;rintro e w1 ⟨rfl,hb1⟩;obtain⟨c3,c6,c7,c8,c9,c10,c11⟩:=HC.out w1 hb1;rw[hh] at c3;have HB1:=hI hb1;clear hb1;go_wp2_with fail;refine Calls.mono (HPT.out w1 HB1.out) ?_;rintro e w2 ⟨rfl,hw2⟩;obtain rfl:=hw2.symm;rcases hqc with⟨rfl,rfl⟩|⟨rfl,rfl⟩;all_goals cases Fr
  all_goals
   go_wp2;go_ret;exact⟨rfl,HB1.out⟩
 ·clear HGD HSG
  go_enter func69,ntmps69;go_wp2_with fail;refine Calls.mono HFR.out ?_;rintro e w1 ⟨rfl,hb1⟩;obtain⟨c3,c6,c7,c8,c9,c10,c11⟩:=HC.out w1 hb1;rw[hh] at c3;rw[hop] at c6;have HB1:=hI hb1;clear hb1;go_wp2_with fail;refine Calls.mono (HPT.out w1 HB1.out) ?_;rintro e w2 ⟨rfl,hw2⟩;obtain rfl:=hw2.symm;rcases hqc with⟨rfl,rfl⟩|⟨rfl,rfl⟩;all_goals cases Fr
  all_goals
   go_wp2;go_ret;exact⟨rfl,HB1.out⟩
 ·obtain⟨sp,cap,hv,_⟩:=HSG.out hop
  clear HGD HSG;have hli:¬(1:Int)<(u.way.segs.length:Int):=by omega
  go_enter func69,ntmps69;go_wp2_with fail;refine Calls.mono HFR.out ?_;rintro e w1 ⟨rfl,hb1⟩;obtain⟨c3,c6,c7,c8,c9,c10,c11⟩:=HC.out w1 hb1;rw[hh] at c3;rw[hop] at c6;rw[hv] at c7;generalize u.way.segs.length=N at*;have HB1:=hI hb1;clear hb1;go_wp2_with fail;refine Calls.mono (HPT.out w1 HB1.out) ?_;rintro e w2 ⟨rfl,hw2⟩;obtain rfl:=hw2.symm;rcases hqc with⟨rfl,rfl⟩|⟨rfl,rfl⟩;all_goals cases Fr
  all_goals
   go_wp2;go_ret;exact⟨rfl,HB1.out⟩
 ·obtain⟨sp,cap,hv,hcx⟩:=HSG.out hop
  have HCX:Hid _:=hcx;have hli:(1:Int)<(u.way.segs.length:Int):=by omega
  have hxe:((⟨x.toArray⟩:ByteArray).toList.isEmpty)=false:=by
   rw[zbj];cases x with
   |nil=>exact absurd rfl hxn
   |cons a b=>rfl
  clear HGD HSG hcx hxn;go_enter func69,ntmps69;go_wp2_with fail;refine Calls.mono HFR.out ?_;rintro e w1 ⟨rfl,hb1⟩;obtain⟨c3,c6,c7,c8,c9,c10,c11⟩:=HC.out w1 hb1;rw[hh] at c3;rw[hop] at c6;rw[hv] at c7;obtain⟨g,rfl,hg⟩:=HCX.out w1 hb1 x hx;generalize(⟨x.toArray⟩:ByteArray)=xb at*;clear HCX hx;generalize u.way.segs.length=N at*;have HB1:=hI hb1;clear hb1;go_wp2_with fail;refine Calls.mono (HPT.out w1 HB1.out) ?_;rintro e w2 ⟨rfl,hw2⟩;obtain rfl:=hw2.symm;rcases hqc with⟨rfl,rfl⟩|⟨rfl,rfl⟩;all_goals cases Fr
  all_goals
   go_wp2;go_ret;exact⟨rfl,HB1.out⟩
 ·obtain⟨sp,cap,hv,hcx⟩:=HSG.out hop
  have HCX:Hid _:=hcx;have hli:(1:Int)<(u.way.segs.length:Int):=by omega
  have a1:∀V:World,(Op.stringOp .add ⟨t0.toArray⟩ ⟨#[47,46]⟩).run prog V=.ok (.string ⟨t1.toArray⟩) V:=by rw[e1];exact z39 _ t0 [47,46] (by have:=HLT0.out;simp;omega)
  clear HGD HSG hcx e1 HLT0;go_enter func69,ntmps69;go_wp2_with fail;refine Calls.mono HFR.out ?_;rintro e w1 ⟨rfl,hb1⟩;obtain⟨c3,c6,c7,c8,c9,c10,c11⟩:=HC.out w1 hb1;rw[hh] at c3;rw[hop] at c6;rw[hv] at c7;obtain⟨g,rfl,hg⟩:=HCX.out w1 hb1 [] hx;clear HCX hx;generalize u.way.segs.length=N at*;have HB1:=hI hb1;clear hb1;go_wp2_with fail;refine Calls.mono (HPT.out w1 HB1.out) ?_;rintro e w2 ⟨rfl,hw2⟩;obtain rfl:=hw2.symm;rcases hqc with⟨rfl,rfl⟩|⟨rfl,rfl⟩;all_goals cases Fr
  all_goals
   go_wp2;go_ret;exact⟨rfl,HB1.out⟩
def z2T (t:Bs):Except Int Adr:=if 2000<t.length then .error 1 else z0C hostTell t none
def znQ (o:Except Int Adr) (e:Ending) (w':World):Prop:=
 match o with
 | .error n=>∃cs,e=.returned (.tuple #[.agg cs,.int .i64 n])∧cs.size=13∧cs.all (·.oneCell')=true
 | .ok a=>∃v,e=.returned (.tuple #[.agg (z0f a v),.int .i64 0])∧z1f w' v a.way.segs
theorem z3a {w:World} {g:Nat} {old:Array Value} {t:TypeId} (h:w.heap[g]?=some (.cells old t (0,0))) (cs:Array Value):(w.setRow g cs).heap[g]?=some (.cells cs t (0,0)):=by unfold World.setRow;simp[Array.getElem?_modify,h]
theorem z6U:z03.all (·.oneCell')=true:=by unfold z03;simp[Value.oneCell']
theorem znR {l:Bs} {o:Except Int Adr} {e:Ending} {w2:World} (h:z72 l o e w2):∃cs v n,e=.returned (.tuple #[.agg cs,v])∧cs.size=13∧cs.all (·.oneCell')=true∧(∀w1,Env w1→CB 33 #[v] w1 (.int .i64 n))∧∀w3 g,w2.heap[g]?=some (.cells z03 77 (0,0))→But g w2 w3→znQ o (.returned (.tuple #[.agg cs,.int .i64 n])) w3:=by
 cases o with
 |error n=>obtain⟨x,y,te,ve,rfl⟩:=h;exact⟨_,_,n,rfl,rfl,z6U,fun w1 he=>za7 _ n x y te ve w1 he,fun w3 g _ _=>⟨_,rfl,rfl,z6U⟩⟩
 |ok a=>
  obtain⟨v,rfl,hs⟩:=h;have hv1:(z0f a v).all (·.oneCell')=true:=by obtain⟨⟨sp,cap,rfl,_⟩,_⟩:=hs;exact z3g _ _ rfl
  exact⟨_,_,0,rfl,rfl,hv1,fun w1 _=>zaY w1,fun w3 g hg hb=>⟨v,rfl,z3x hs hb (z5C hs.2 hg (by decide))⟩⟩
theorem ziS (t:Bs) (w:World) (ht:t.length≤maxLen) (henv:Env2 w):Calls prog 36 #[.string ⟨t.toArray⟩] w fun e w'=>znQ (z2T t) e w'∧Below w.heap.size w w':=by
 obtain⟨W,hW⟩:=z09 (w.alloc (.cells z03 77));have hBW:Below w.heap.size w W:=by rw[hW];exact(Below.refl _ _).alloc (Nat.le_refl _) _
 have HBW:=hI hBW;have hsize:W.heap.size=w.heap.size+1:=by rw[hW];simp
 have hz0:W.heap[w.heap.size]?=some (.cells z03 77 (0,0)):=by rw[hW];exact z0K w _ _
 by_cases hl:t.length≤2000
 ·have HL:=hI fun w1=>z4c _ w1 (by rw[z07];exact hl)
  have HE:Hid (z2T t=z0C hostTell t none):=if_neg (by omega);have HR:Hid _:=zdG t none none W (by omega) rfl (henv.below hBW);have HEN:Hid (∀w1,Below W.heap.size W w1→Env w1):=fun w1 h1=>((henv.below hBW).below h1).env;have HZ:Hid (∀w1,Below W.heap.size W w1→w1.heap[w.heap.size]?=some (.cells z03 77 (0,0))):=fun w1 h1=>(h1.block w.heap.size (by omega)).trans hz0;clear ht henv hBW hl;go_enter func36,ntmps36;go_upto_region 1 with fail;unfold z03 at hW;rw[←hW];clear hW;go_wp2_with fail;refine Calls.mono (HL W) ?_;rintro e W0 ⟨rfl,hw0⟩;obtain rfl:=hw0.symm;go_wp2_with fail;refine Calls.mono HR ?_;rintro e w2 ⟨hr,b2⟩;obtain⟨cs,v,n,rfl,hcs,hone,herr,hfin⟩:=znR hr;have HN:Hid ((w2.alloc (.cells z03 77)).heap[w2.heap.size]?=some (.cells z03 77 (0,0))):=z0K w2 _ _;have HZS:Hid ((prog.info? 77).map (·.size)=some cs.size):=by show _=_;rw[hcs];exact z1n
  have HZO:Hid (z03.size=cs.size):=by show _=_;rw[hcs];rfl
  have HON:=hI hone;have hk2:=b2.size;obtain⟨V,hV⟩:=z09 ((w2.alloc (.cells z03 77)).setRow w2.heap.size cs);have hVc:V.heap[w2.heap.size]?=some (.cells cs 77 (0,0)):=by rw[hV];exact z3a HN cs
  have hVB:Below w2.heap.size w2 V:=by rw[hV];exact below_setRow ((Below.refl _ _).alloc (Nat.le_refl _) _) (Nat.le_refl _) _
  have HVB:Hid _:=b2.trans (hVB.mono hk2);have HV2:=hI hVB;have HFIN:=hI hfin;have HERR:=hI fun w1 h1=>herr w1 (HEN w1 h1);have HVE:=hI hV;have HB2:=hI b2;obtain⟨c0,c1,c2,c3,c4,c5,c6,c7,c8,c9,c10,c11,c12,rfl,o0,o1,o2,o3,o4,o5,o6,o7,o8,o9,o10,o11,o12⟩:=zgP cs hcs hone;clear hr b2 hfin herr hV hVB hcs hone;go_wp2_with(refine wpList_store_row rfl 77 _ _ rfl w2.heap.size _ rfl rfl 77 z03 HN HZS HZO HON ?_);have hve:=HVE;unfold z03 at hve;rw[←hve];clear hve;obtain⟨y0,y1,y2,y3,y4,y5,y6,y7,y8,y9,y10,y11,y12⟩:V.cell? ⟨w2.heap.size,0,none⟩=some c0∧V.cell? ⟨w2.heap.size,1,none⟩=some c1∧V.cell? ⟨w2.heap.size,2,none⟩=some c2∧V.cell? ⟨w2.heap.size,3,none⟩=some c3∧V.cell? ⟨w2.heap.size,4,none⟩=some c4∧V.cell? ⟨w2.heap.size,5,none⟩=some c5∧V.cell? ⟨w2.heap.size,6,none⟩=some c6∧V.cell? ⟨w2.heap.size,7,none⟩=some c7∧V.cell? ⟨w2.heap.size,8,none⟩=some c8∧V.cell? ⟨w2.heap.size,9,none⟩=some c9∧V.cell? ⟨w2.heap.size,10,none⟩=some c10∧V.cell? ⟨w2.heap.size,11,none⟩=some c11∧V.cell? ⟨w2.heap.size,12,none⟩=some c12:=⟨z00 hVc 0,z00 hVc 1,z00 hVc 2,z00 hVc 3,z00 hVc 4,z00 hVc 5,z00 hVc 6,z00 hVc 7,z00 hVc 8,z00 hVc 9,z00 hVc 10,z00 hVc 11,z00 hVc 12⟩;have q0:∀(W:World) (a:Go.Addr) (m:Mode),(store a c0 m).run prog W=stored prog W a c0 m:=fun W a m=>run_store prog W a c0 m o0;have q1:∀(W:World) (a:Go.Addr) (m:Mode),(store a c1 m).run prog W=stored prog W a c1 m:=fun W a m=>run_store prog W a c1 m o1;have q2:∀(W:World) (a:Go.Addr) (m:Mode),(store a c2 m).run prog W=stored prog W a c2 m:=fun W a m=>run_store prog W a c2 m o2;have q3:∀(W:World) (a:Go.Addr) (m:Mode),(store a c3 m).run prog W=stored prog W a c3 m:=fun W a m=>run_store prog W a c3 m o3;have q4:∀(W:World) (a:Go.Addr) (m:Mode),(store a c4 m).run prog W=stored prog W a c4 m:=fun W a m=>run_store prog W a c4 m o4;have q5:∀(W:World) (a:Go.Addr) (m:Mode),(store a c5 m).run prog W=stored prog W a c5 m:=fun W a m=>run_store prog W a c5 m o5;have q6:∀(W:World) (a:Go.Addr) (m:Mode),(store a c6 m).run prog W=stored prog W a c6 m:=fun W a m=>run_store prog W a c6 m o6;have q7:∀(W:World) (a:Go.Addr) (m:Mode),(store a c7 m).run prog W=stored prog W a c7 m:=fun W a m=>run_store prog W a c7 m o7;have q8:∀(W:World) (a:Go.Addr) (m:Mode),(store a c8 m).run prog W=stored prog W a c8 m:=fun W a m=>run_store prog W a c8 m o8;have q9:∀(W:World) (a:Go.Addr) (m:Mode),(store a c9 m).run prog W=stored prog W a c9 m:=fun W a m=>run_store prog W a c9 m o9;have q10:∀(W:World) (a:Go.Addr) (m:Mode),(store a c10 m).run prog W=stored prog W a c10 m:=fun W a m=>run_store prog W a c10 m o10;have q11:∀(W:World) (a:Go.Addr) (m:Mode),(store a c11 m).run prog W=stored prog W a c11 m:=fun W a m=>run_store prog W a c11 m o11;have q12:∀(W:World) (a:Go.Addr) (m:Mode),(store a c12 m).run prog W=stored prog W a c12 m:=fun W a m=>run_store prog W a c12 m o12;have HCV:Hid (∀w3,Below V.heap.size V w3→w3.cell? ⟨w2.heap.size,0,none⟩=some c0∧w3.cell? ⟨w2.heap.size,1,none⟩=some c1∧w3.cell? ⟨w2.heap.size,2,none⟩=some c2∧w3.cell? ⟨w2.heap.size,3,none⟩=some c3∧w3.cell? ⟨w2.heap.size,4,none⟩=some c4∧w3.cell? ⟨w2.heap.size,5,none⟩=some c5∧w3.cell? ⟨w2.heap.size,6,none⟩=some c6∧w3.cell? ⟨w2.heap.size,7,none⟩=some c7∧w3.cell? ⟨w2.heap.size,8,none⟩=some c8∧w3.cell? ⟨w2.heap.size,9,none⟩=some c9∧w3.cell? ⟨w2.heap.size,10,none⟩=some c10∧w3.cell? ⟨w2.heap.size,11,none⟩=some c11∧w3.cell? ⟨w2.heap.size,12,none⟩=some c12):=by intro w3 h3;have k:=(h3.block w2.heap.size (Array.getElem?_eq_some_iff.1 hVc).1).trans hVc;exact⟨z00 k 0,z00 k 1,z00 k 2,z00 k 3,z00 k 4,z00 k 5,z00 k 6,z00 k 7,z00 k 8,z00 k 9,z00 k 10,z00 k 11,z00 k 12⟩
  have HZV:Hid (∀w3,Below V.heap.size V w3→w3.heap[w.heap.size]?=some (.cells z03 77 (0,0))):=fun w3 h3=>HZ w3 (HVB.out.trans (h3.mono HVB.out.size));clear hVc HVE HN HZS HZO HON o0 o1 o2 o3 o4 o5 o6 o7 o8 o9 o10 o11 o12;go_region_with (go_at_call 33;refine Calls.mono (HERR _ (by first|exact HVB|exact HVB.out.trans (z1x rfl rfl rfl rfl))) ?_;rintro e w3 ⟨rfl,b3⟩;have HB3:Hid (Below V.heap.size V w3):=(by first|exact b3|exact(z1x rfl rfl rfl rfl:Below V.heap.size V V.drew).trans b3);clear b3;obtain⟨d0,d1,d2,d3,d4,d5,d6,d7,d8,d9,d10,d11,d12⟩:=HCV w3 HB3;obtain⟨⟨p0,p1,p2,p3,p4,p5,p6,p7,p8,p9,p10,p11,p12⟩,r0,r1,r2,r3,r4,r5,r6,r7,r8,r9,r10,r11,r12⟩:=z83 (HZV w3 HB3));all_goals
   go_wp2;have hld:=run_loadVar_row (P:=prog) _ w.heap.size 77 77 #[c0,c1,c2,c3,c4,c5,c6,c7,c8,c9,c10,c11,c12] (0,0) _ (z9X (HZV w3 HB3) c0 c1 c2 c3 c4 c5 c6 c7 c8 c9 c10 c11 c12) underlying77 rfl z1n;have hb23:=HV2.out.trans (HB3.out.mono HV2.out.size);have hbw3:=HBW.out.trans ((HVB.out.trans (HB3.out.mono HVB.out.size)).mono (by omega));rw[HE.out];refine bodyPost_ret (v:=.tuple #[.agg #[c0,c1,c2,c3,c4,c5,c6,c7,c8,c9,c10,c11,c12],.int .i64 n]) ?_ rfl ⟨HFIN _ w.heap.size (HZ w2 HB2) ((((((((((((((But.of_below hb23).setCell 0 c0).setCell 1 c1).setCell 2 c2).setCell 3 c3).setCell 4 c4).setCell 5 c5).setCell 6 c6).setCell 7 c7).setCell 8 c8).setCell 9 c9).setCell 10 c10).setCell 11 c11).setCell 12 c12),z84 hbw3 (Nat.le_refl _) c0 c1 c2 c3 c4 c5 c6 c7 c8 c9 c10 c11 c12⟩;rw[results_cell_tmp rfl];simp[asAddr,Result.andThen,hld,Act.put]
 ·have HL:Hid (∀w1,C0 31 #[.string ⟨t.toArray⟩] w1 (.bool true)):=fun w1=>z5Q _ w1 (by rw[z07];omega) (by rw[z07];exact ht)
  have HE:Hid (z2T t=.error 1):=if_pos (by omega);have HZ:=hI hz0;obtain⟨⟨p0,p1,p2,p3,p4,p5,p6,p7,p8,p9,p10,p11,p12⟩,r0,r1,r2,r3,r4,r5,r6,r7,r8,r9,r10,r11,r12⟩:=z83 hz0;clear ht henv hBW hl;go_enter func36,ntmps36;go_upto_region 1 with fail;unfold z03 at hW;rw[←hW];clear hW;go_wp2_with fail;refine Calls.mono (HL W) ?_;rintro e W0 ⟨rfl,hw0⟩;obtain rfl:=hw0.symm;go_wp2_with fail;have hld:=run_loadVar_row (P:=prog) _ w.heap.size 77 77 z03 (0,0) _ (z9X HZ (.string ⟨#[]⟩) (.string ⟨#[]⟩) (.string ⟨#[]⟩) (.bool false) (.string ⟨#[]⟩) (.int .i64 0) (.bool false) (.string ⟨#[]⟩) (.slice none 0 0) (.bool false) (.string ⟨#[]⟩) (.bool false) (.string ⟨#[]⟩)) underlying77 rfl z1n;rw[HE.out];refine bodyPost_ret (v:=.tuple #[.agg z03,.int .i64 1]) ?_ rfl ⟨⟨_,rfl,rfl,z6U⟩,z84 HBW (Nat.le_refl _) (.string ⟨#[]⟩) (.string ⟨#[]⟩) (.string ⟨#[]⟩) (.bool false) (.string ⟨#[]⟩) (.int .i64 0) (.bool false) (.string ⟨#[]⟩) (.slice none 0 0) (.bool false) (.string ⟨#[]⟩) (.bool false) (.string ⟨#[]⟩)⟩;rw[results_cell_tmp rfl];simp only[z03] at hld;simp[asAddr,Result.andThen,hld,z03]
end Go.Proofs
