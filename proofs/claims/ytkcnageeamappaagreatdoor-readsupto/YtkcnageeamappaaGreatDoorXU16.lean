import Derived.Test.YtkcnageeamappaaGreatDoorXU14
set_option maxHeartbeats 32000000
set_option maxRecDepth 8000
namespace Go.Moor
open Go
def z3t (c:Mc):Prop:=(c.st=14∨c.st=8∨c.st=9∨c.st=10)→c.u.auth.host=[]
theorem z34 (c:Mc) (h:c.st≠14∧c.st≠8∧c.st≠9∧c.st≠10):z3t c:=fun hx=>by omega
theorem z6k (c:Mc):z3t (z0L c):=by
 refine z34 _ ?_;unfold z0L;simp only;split
 ·simp
 ·split<;>simp
theorem zfM (b:Adr) (c:Mc):z3t (z1y b c):=by
 unfold z1y;split
 ·exact z6k _
 ·split
  ·exact z6k _
  ·exact z34 _ (by simp)
section
variable (H : Bs → Bool → Option Bs) {base : Option Adr}
theorem zeg (c:Mc) (h:z3t c):z3t (z0g H base c):=by
 by_cases hs:c.st=14
 ·have hE0:z0g H base c=z3v base c:=by simp[z0g,hs]
  rw[hE0];have hh:=h (Or.inl hs);unfold z3v;split
  ·exact fun _=>hh
  ·split
   ·exact fun _=>hh
   ·split
    ·exact z6k _
    ·exact fun _=>hh
 by_cases hs:c.st=15
 ·have hE0:z0g H base c=z2B c:=by simp[z0g,hs]
  rw[hE0];unfold z2B;split
  ·split<;>exact z34 _ (by simp)
  ·exact z34 _ (by simp)
 by_cases hs:c.st=1
 ·cases base with
  |none=>have hE0:z0g H none c=c:=(by simp[z0g,hs]);rw[hE0];exact h
  |some b=>
   have hE0:z0g H (some b) c=z3l b c:=(by simp[z0g,hs]);rw[hE0];unfold z3l;split
   ·exact z34 _ (by simp)
   ·exact zfM b _
 by_cases hs:c.st=2
 ·cases base with
  |none=>have hE0:z0g H none c=c:=(by simp[z0g,hs]);rw[hE0];exact h
  |some b=>
   have hE0:z0g H (some b) c=z25 b c:=(by simp[z0g,hs]);rw[hE0];unfold z25;split
   ·split<;>exact z34 _ (by simp)
   ·exact z34 _ (by simp)
 by_cases hs:c.st=3
 ·have hE0:z0g H base c=z4H c:=by simp[z0g,hs]
  rw[hE0];exact z34 _ (by show(4:Nat)≠14∧(4:Nat)≠8∧(4:Nat)≠9∧(4:Nat)≠10;decide)
 by_cases hs:c.st=4
 ·have hE0:z0g H base c=z2Z H c:=by simp[z0g,hs]
  rw[hE0];unfold z2Z;split
  ·exact z34 _ (by show c.st≠14∧c.st≠8∧c.st≠9∧c.st≠10;omega)
  ·exact z34 _ (by simp)
 by_cases hs:c.st=5
 ·have hE0:z0g H base c=z2l c:=by simp[z0g,hs]
  rw[hE0];unfold z2l;split
  ·exact z34 _ (by simp)
  ·split
   ·exact z6k _
   ·exact z34 _ (by simp)
 by_cases hs:c.st=6
 ·have hE0:z0g H base c=z2q c:=by simp[z0g,hs]
  rw[hE0];unfold z2q;simp only;split
  ·exact z34 _ (by show c.st≠14∧c.st≠8∧c.st≠9∧c.st≠10;omega)
  ·exact z6k _
 by_cases hs:c.st=7
 ·have hE0:z0g H base c=z3r c:=by simp[z0g,hs]
  rw[hE0];exact z6k _
 by_cases hs:c.st=8
 ·have hE0:z0g H base c=z2b base c:=by simp[z0g,hs]
  rw[hE0];have hh:=h (by omega);unfold z2b;simp only;split
  ·exact fun _=>hh
  ·split
   ·exact z34 _ (by simp)
   ·split
    ·exact z34 _ (by simp)
    ·exact zfM _ _
 by_cases hs:c.st=9
 ·have hE0:z0g H base c=z0D base c:=by simp[z0g,hs]
  rw[hE0];have hh:=h (by omega);unfold z0D;simp only;split
  ·exact fun _=>hh
  ·split<;>exact z34 _ (by simp)
 by_cases hs:c.st=10
 ·have hE0:z0g H base c=z1U H c:=by simp[z0g,hs]
  rw[hE0];have hh:=h (by omega);unfold z1U;simp only;split
  ·exact z34 _ (by simp)
  ·split
   ·exact fun _=>hh
   ·exact z34 _ (by simp)
 by_cases hs:c.st=11
 ·have hE0:z0g H base c=z3G c:=by simp[z0g,hs]
  rw[hE0];exact z6k _
 by_cases hs:c.st=12
 ·have hE0:z0g H base c=z5k c:=by simp[z0g,hs]
  rw[hE0];exact z34 _ (by show(13:Nat)≠14∧(13:Nat)≠8∧(13:Nat)≠9∧(13:Nat)≠10;decide)
 have hE0 : z0g H base c = c := by simp [z0g, *]
 rw[hE0];exact h
end
end Go.Moor
namespace Go.Proofs
open Go.RowKit Go.Moor Go.Proofs.Tryz
theorem zfB (u:Adr) (h:u.auth.host=[]):z1r u []=z2g u:=by unfold z1r z2g;rw[←h]
theorem zlG (u:Adr) (r:Bs) (st:Nat) (er:Int) (h:z0h (z1i u.scheme r)=true):z1U hostTell ⟨u,r,st,er⟩=⟨z2g u,r,6,er⟩:=by unfold z1U;simp only;rw[if_pos h];rfl
theorem znr (u:Adr) (r:Bs) (st:Nat) (er:Int) (h:z0h (z1i u.scheme r)=false) (t:Bs) (ht:z1v hostTell (z1i u.scheme r)=some t):z1U hostTell ⟨u,r,st,er⟩=⟨z1r u t,z23 u.scheme r,5,er⟩:=by unfold z1U;simp only;rw[if_neg (by simp[h]),ht];rfl
theorem zns (u:Adr) (r:Bs) (st:Nat) (er:Int) (h:z0h (z1i u.scheme r)=false) (ht:z1v hostTell (z1i u.scheme r)=none):(z1U hostTell ⟨u,r,st,er⟩).err=4:=by unfold z1U;simp only;rw[if_neg (by simp[h]),ht]
theorem zbd {B R k j:Nat} {bv:Value} {s:ByteArray} {w0:World} {u:Adr} {pv:Value} (a:Nat) {w:World} {base:Option Adr} (hm:Mem B R k j bv s w0 u pv (a:Nat) 10 0 w) (hb:z6s B w0 bv base) (hho:u.auth.host=[]) (ha:a≤s.size) (hs:s.size≤2000):CQ 183 #[.pointer (some ⟨k,0,none⟩)] w (.tuple #[]) (z6B B R k j bv s w0 (z1U hostTell ⟨u,s.data.toList.drop a,10,0⟩)):=by
 have y0:=hm.y0;have y1:=hm.y1;have y3:=hm.y3;have y4:=hm.y4;have c3:=hm.v3;have d3:=hm.g 3;have hkj:=hm.ne;have hjk:j≠k:=fun e=>hm.ne e.symm;have HM0:Hid _:=hm.uset (u':=z2g u) 3 (.bool true) rfl rfl;have HSL:Hid _:=z4i a HM0 (by omega);have hfb:=zcK hm hb;obtain⟨p,hp⟩:=z09 (z1i u.scheme (s.data.toList.drop a));have hpl:p.length≤2000:=by
  have h1:(z1i u.scheme (s.data.toList.drop a)).length≤(s.data.toList.drop a).length:=(List.takeWhile_sublist _).length_le;have h2:(s.data.toList.drop a).length≤s.size:=by rw[List.length_drop,Array.length_toList];exact Nat.sub_le _ _
  rw[←hp] at h1;omega
 have HUN:Hid (∀W,Mem B R k j bv s w0 (z2g u) pv (a:Nat) 10 0 W→Calls prog 220 #[.pointer (some ⟨k,0,none⟩)] W fun e w'=>∃b:Nat,b≤s.size∧e=.returned (.string ⟨p.toArray⟩)∧z23 u.scheme (s.data.toList.drop a)=s.data.toList.drop b∧Mem B R k j bv s w0 (z2g u) pv (b:Nat) 10 0 w'):=by intro W hW;refine(zcj a hW ha (by omega)).mono ?_;rintro e w' ⟨b,_,h2,h3,h4,h5⟩;exact⟨b,h2,by rw[h3,hp];rfl,h4,h5⟩
 have HDR:Hid (∀W,C0 223 #[.string ⟨p.toArray⟩] W (.bool (z0h p))):=fun W=>z7E _ W;have HHO:Hid (∀W,CP 67 #[.string ⟨p.toArray⟩,.bool true] W (z2k (hostTell p true))):=fun W=>zcE ⟨p.toArray⟩ true W (by rw[z07];exact hpl);have HED:Hid _:=zlG u (s.data.toList.drop a) 10 0;have HES:Hid _:=znr u (s.data.toList.drop a) 10 0;have HEN:Hid _:=zns u (s.data.toList.drop a) 10 0;rw[←hp] at HED HES HEN;have HWN:Hid _:=zfB u hho;have HFH:Hid (z1v hostTell p=if p=[] then some [] else match hostTell p true with|none=>none|some h=>if h=[108,111,99,97,108,104,111,115,116] then some [] else some h):=rfl;have hpe:((⟨p.toArray⟩:ByteArray).toList.isEmpty)=p.isEmpty:=by rw[Lib.toList_data]
 obtain⟨pb,hpb⟩:=z09 (⟨p.toArray⟩:ByteArray);rw[←hpb] at HUN HDR HHO hpe;clear hm hb hp hpb hho;generalize z0o (z06 (z2g u).scheme) (s.data.toList.drop a)=sl at*;rcases hfb with⟨rfl,_⟩|⟨bj,b0,bpv,rfl,_,hf,_,n1,n2,hub⟩|⟨bj,b0,bpv,rfl,_,hf,_,_,n1,n2,hub⟩;case' inr.inl=>have b00:w.cell? ⟨bj,0,none⟩=some (.string ⟨b0.scheme.toArray⟩):=z00 hub 0;have e1:((⟨b0.scheme.toArray⟩:ByteArray).toList==[102,105,108,101])=false:=z38 b0.scheme _ hf;generalize(⟨b0.scheme.toArray⟩:ByteArray)=bcb at*;clear hub hf
 case' inr.inr=>have b00:w.cell? ⟨bj,0,none⟩=some (.string ⟨b0.scheme.toArray⟩):=z00 hub 0;have e1:((⟨b0.scheme.toArray⟩:ByteArray).toList==[102,105,108,101])=true:=z4t b0.scheme _ hf;generalize(⟨b0.scheme.toArray⟩:ByteArray)=bcb at*;clear hub hf
 all_goals
  cases hd:z0h p with
  |true=>have HE:Hid _:=HED hd;rw[hd] at HDR;clear HED HES HEN HHO HFH HWN hd hpe;go_enter func183,ntmps183;go_wp2_with fail;refine Calls.mono HSL ?_;rintro e w1 ⟨rfl,n,rfl⟩;go_wp2_with fail;refine Calls.mono (HUN _ (HM0.out.drewN n)) ?_;rintro e w2 ⟨b,hbs,rfl,hbe,hm2⟩;have HBE:Hid _:=hbe;have HM2:Hid _:=hm2;have t0:=hm2.y0;have t3:=hm2.y3;have t4:=hm2.y4;have g3:=hm2.f 3;have g4:=hm2.f 4;clear hbe hm2;go_wp2_with fail;refine Calls.mono (HDR _) ?_;rintro e w3 ⟨rfl,hw3⟩;obtain rfl:=hw3.symm;go_wp2;exact bodyPost_ret (v:=.tuple #[]) (z05 rfl _ _ _) rfl ⟨rfl,by rw[HE.out];exact z4g (z1S (a:=a) ((HM2.out.set_a _).set_st 6) ha _ rfl) rfl⟩
  |false=>
   rw[hd] at HDR;by_cases hpn:p=[]
   ·have HE:Hid _:=HES hd [] (by rw[HFH.out,if_pos hpn])
    rw[HWN.out] at HE;have hpe2:pb.toList.isEmpty=true:=(by rw[hpe,hpn];rfl);clear HED HES HEN HHO HFH HWN hd hpn hpe;go_enter func183,ntmps183;go_wp2_with fail;refine Calls.mono HSL ?_;rintro e w1 ⟨rfl,n,rfl⟩;go_wp2_with fail;refine Calls.mono (HUN _ (HM0.out.drewN n)) ?_;rintro e w2 ⟨b,hbs,rfl,hbe,hm2⟩;have HBE:Hid _:=hbe;have HM2:Hid _:=hm2;have t0:=hm2.y0;have t3:=hm2.y3;have t4:=hm2.y4;have g3:=hm2.f 3;have g4:=hm2.f 4;clear hbe hm2;go_wp2_with fail;refine Calls.mono (HDR _) ?_;rintro e w3 ⟨rfl,hw3⟩;obtain rfl:=hw3.symm;go_wp2;exact bodyPost_end (v:=.tuple #[]) (z05 rfl _ _ _) rfl ⟨rfl,by rw[HE.out];exact z4g (z1S (a:=b) (HM2.out.set_st 5) hbs _ HBE.out.symm) rfl⟩
   ·have hpe2:pb.toList.isEmpty=false:=by
     rw[hpe];cases p with
     |nil=>exact absurd rfl hpn
     |cons x y=>rfl
    cases hho:hostTell p true with
    |none=>have HE:Hid _:=HEN hd (by rw[HFH.out,if_neg hpn,hho]);rw[hho] at HHO;clear HED HES HEN HFH HWN hd hpn hpe hho;go_enter func183,ntmps183;go_wp2_with fail;refine Calls.mono HSL ?_;rintro e w1 ⟨rfl,n,rfl⟩;go_wp2_with fail;refine Calls.mono (HUN _ (HM0.out.drewN n)) ?_;rintro e w2 ⟨b,hbs,rfl,hbe,hm2⟩;have HBE:Hid _:=hbe;have HM2:Hid _:=hm2;have t0:=hm2.y0;have t3:=hm2.y3;have t4:=hm2.y4;have g3:=hm2.f 3;have g4:=hm2.f 4;clear hbe hm2;go_wp2_with fail;refine Calls.mono (HDR _) ?_;rintro e w3 ⟨rfl,hw3⟩;obtain rfl:=hw3.symm;go_wp2_with fail;refine Calls.mono (HHO _) ?_;rintro e w4 ⟨hres,hb4⟩;have hm4:=HM2.out.off hb4;have HM4:Hid _:=hm4;have v0:=hm4.y0;have v4:=hm4.y4;have v5:=hm4.y5;have x4:=hm4.f 4;have x5:=hm4.f 5;have j4:=hm4.v4;have xj4:=hm4.g 4;clear hm4 hb4;obtain⟨xh,rfl⟩:=hres;go_wp2;exact bodyPost_ret (v:=.tuple #[]) (z05 rfl _ _ _) rfl ⟨rfl,z3s (HM4.out.set_er 4) _ HE (by decide)⟩
    |some t=>
     rw[hho] at HHO;by_cases hlo:t=[108,111,99,97,108,104,111,115,116]
     ·have HE:Hid _:=HES hd [] (by rw[HFH.out,if_neg hpn,hho];simp only;rw[if_pos hlo])
      rw[HWN.out] at HE;have e2:=z4t t _ hlo;generalize htb:(⟨t.toArray⟩:ByteArray)=tb at*;have HTB:=hI htb;clear HED HES HEN HFH HWN hd hpn hpe hho hlo htb;go_enter func183,ntmps183;go_wp2_with fail;refine Calls.mono HSL ?_;rintro e w1 ⟨rfl,n,rfl⟩;go_wp2_with fail;refine Calls.mono (HUN _ (HM0.out.drewN n)) ?_;rintro e w2 ⟨b,hbs,rfl,hbe,hm2⟩;have HBE:Hid _:=hbe;have HM2:Hid _:=hm2;have t0:=hm2.y0;have t3:=hm2.y3;have t4:=hm2.y4;have g3:=hm2.f 3;have g4:=hm2.f 4;clear hbe hm2;go_wp2_with fail;refine Calls.mono (HDR _) ?_;rintro e w3 ⟨rfl,hw3⟩;obtain rfl:=hw3.symm;go_wp2_with fail;refine Calls.mono (HHO _) ?_;rintro e w4 ⟨hres,hb4⟩;have hm4:=HM2.out.off hb4;have HM4:Hid _:=hm4;have v0:=hm4.y0;have v4:=hm4.y4;have v5:=hm4.y5;have x4:=hm4.f 4;have x5:=hm4.f 5;have j4:=hm4.v4;have xj4:=hm4.g 4;clear hm4 hb4;have hres:e=.returned (.tuple #[.string ⟨t.toArray⟩,.bool true]):=hres;rw[HTB.out] at hres;subst hres;go_wp2;exact bodyPost_end (v:=.tuple #[]) (z05 rfl _ _ _) rfl ⟨rfl,by rw[HE.out];exact z4g (z1S (a:=b) (HM4.out.set_st 5) hbs _ HBE.out.symm) rfl⟩
     ·have HE:Hid _:=HES hd t (by rw[HFH.out,if_neg hpn,hho];simp only;rw[if_neg hlo])
      have e2:=z38 t _ hlo;generalize htb:(⟨t.toArray⟩:ByteArray)=tb at*;have HTB:=hI htb;clear HED HES HEN HFH HWN hd hpn hpe hho hlo htb;go_enter func183,ntmps183;go_wp2_with fail;refine Calls.mono HSL ?_;rintro e w1 ⟨rfl,n,rfl⟩;go_wp2_with fail;refine Calls.mono (HUN _ (HM0.out.drewN n)) ?_;rintro e w2 ⟨b,hbs,rfl,hbe,hm2⟩;have HBE:Hid _:=hbe;have HM2:Hid _:=hm2;have t0:=hm2.y0;have t3:=hm2.y3;have t4:=hm2.y4;have g3:=hm2.f 3;have g4:=hm2.f 4;clear hbe hm2;go_wp2_with fail;refine Calls.mono (HDR _) ?_;rintro e w3 ⟨rfl,hw3⟩;obtain rfl:=hw3.symm;go_wp2_with fail;refine Calls.mono (HHO _) ?_;rintro e w4 ⟨hres,hb4⟩;have hm4:=HM2.out.off hb4;have HM4:Hid _:=hm4;have v0:=hm4.y0;have v4:=hm4.y4;have v5:=hm4.y5;have x4:=hm4.f 4;have x5:=hm4.f 5;have j4:=hm4.v4;have xj4:=hm4.g 4;clear hm4 hb4;have hres:e=.returned (.tuple #[.string ⟨t.toArray⟩,.bool true]):=hres;rw[HTB.out] at hres;subst hres;have h5:=HM4.out.uset (u':=z1r u t) 4 (.string ⟨t.toArray⟩) rfl rfl;rw[HTB.out] at h5;have HM5:Hid _:=h5;clear h5;go_wp2;exact bodyPost_end (v:=.tuple #[]) (z05 rfl _ _ _) rfl ⟨rfl,by rw[HE.out];exact z4g (z1S (a:=b) (HM5.out.set_st 5) hbs _ HBE.out.symm) rfl⟩
end Go.Proofs
