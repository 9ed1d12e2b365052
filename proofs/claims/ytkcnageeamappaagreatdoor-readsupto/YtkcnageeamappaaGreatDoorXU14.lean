import Derived.Test.YtkcnageeamappaaGreatDoorXU9
import Derived.Test.YtkcnageeamappaaGreatDoorXU10
set_option maxHeartbeats 32000000
set_option maxRecDepth 8000
namespace Go.Proofs
open Go.RowKit Go.Moor Go.Proofs.Tryz
theorem zcK {B R k j:Nat} {bv:Value} {s:ByteArray} {w0 w:World} {u:Adr} {pv:Value} {a st er:Int} {base:Option Adr} (hm:Mem B R k j bv s w0 u pv a st er w) (hb:z6s B w0 bv base):(bv=.pointer none∧z1B base=none)∨(∃bj b bpv,bv=.pointer (some ⟨bj,0,none⟩)∧UBase B w0 b bj bpv∧¬b.scheme=sFile∧z1B base=none∧bj≠j∧bj≠k∧w.heap[bj]?=some (.cells (z1w b bpv) 116 (0,0)))∨(∃bj b bpv,bv=.pointer (some ⟨bj,0,none⟩)∧UBase B w0 b bj bpv∧b.scheme=sFile∧z1B base=some b∧base=some b∧bj≠j∧bj≠k∧w.heap[bj]?=some (.cells (z1w b bpv) 116 (0,0))):=by
 cases base with
 |none=>exact Or.inl ⟨hb,rfl⟩
 |some b=>
  obtain⟨bj,bpv,h1,h2⟩:=hb;have hub:=(hm.below.block bj h2.lt).trans h2.url;have n1:bj≠j:=by have:=h2.lt;have:=hm.bj;omega
  have n2:bj≠k:=by have:=h2.lt;have:=hm.bk;omega
  by_cases hf:b.scheme=sFile
  ·exact Or.inr (Or.inr ⟨bj,b,bpv,h1,h2,hf,by unfold z1B;simp[hf],rfl,n1,n2,hub⟩)
  ·exact Or.inr (Or.inl ⟨bj,b,bpv,h1,h2,hf,by unfold z1B;simp[hf],n1,n2,hub⟩)
def z2g (u:Adr):Adr:={u with auth:={u.auth with has:=true}}
theorem zih (base:Option Adr) (u:Adr) (r:Bs) (st:Nat) (er:Int) (h:z0o (z06 u.scheme) r=true):z2b base ⟨u,r,st,er⟩=⟨z2g u,r.drop 1,9,er⟩:=by unfold z2b;simp only;rw[if_pos h];rfl
theorem zc7 (base:Option Adr) (u:Adr) (r:Bs) (st:Nat) (er:Int) (h:z0o (z06 u.scheme) r=false) (hb:z1B base=none):z2b base ⟨u,r,st,er⟩=⟨z2g u,r,6,er⟩:=by unfold z2b;simp only;rw[if_neg (by simp[h]),hb];rfl
def z1r (u:Adr) (h:Bs):Adr:={u with auth:={u.auth with has:=true,host:=h}}
theorem zii (base:Option Adr) (b u:Adr) (r:Bs) (st:Nat) (er:Int) (h:z0o (z06 u.scheme) r=false) (hb:z1B base=some b) (hk:z2n r=false) (hd:z1T r=true):z2b base ⟨u,r,st,er⟩=⟨z1r u b.auth.host,r,6,er⟩:=by unfold z2b;simp only;rw[if_neg (by simp[h]),hb];simp only;rw[if_pos ⟨fun h2=>Bool.noConfusion (hk.symm.trans ((z6O r).2 h2)),hd⟩];rfl
theorem zij (base:Option Adr) (b u:Adr) (r:Bs) (st:Nat) (er:Int) (h:z0o (z06 u.scheme) r=false) (hb:z1B base=some b) (hk:z2n r=true∨z1T r=false):z2b base ⟨u,r,st,er⟩=z1y b ⟨z1r u b.auth.host,r,st,er⟩:=by
 unfold z2b;simp only;rw[if_neg (by simp[h]),hb];simp only;rw[if_neg]
 ·rfl
 ·rintro⟨h1,h2⟩
  rcases hk with hk|hk
  ·exact h1 ((z6O r).1 hk)
  ·rw[hk] at h2;cases h2
theorem zc8 {B R k j:Nat} {bv:Value} {s:ByteArray} {w0:World} {u:Adr} {pv:Value} (a:Nat) {w:World} {base:Option Adr} (hm:Mem B R k j bv s w0 u pv (a:Nat) 8 0 w) (hb:z6s B w0 bv base) (hbo:∀b,base=some b→z0b b.scheme=true→b.way.opaq=false) (ho:u.way.opaq=false) (ha:a≤s.size) (hs:s.size≤1000000) (hn:u.way.segs.length+z3n base≤1000000):CQ 183 #[.pointer (some ⟨k,0,none⟩)] w (.tuple #[]) (z3u B R k j bv s w0 (z2b base ⟨u,s.data.toList.drop a,8,0⟩)):=by
 have y0:=hm.y0;have y1:=hm.y1;have y3:=hm.y3;have y4:=hm.y4;have f3:=hm.f 3;have f4:=hm.f 4;have c3:=hm.v3;have c4:=hm.v4;have d3:=hm.g 3;have d4:=hm.g 4;have hkj:=hm.ne;have hjk:j≠k:=fun e=>hm.ne e.symm;have HM0:Hid _:=hm.uset (u':=z2g u) 3 (.bool true) rfl rfl;have HSL:Hid _:=z4i a HM0 (by omega);have hfb:=zcK hm hb;clear hm hb;cases hh:z0o (z06 u.scheme) (s.data.toList.drop a) with
 |true=>
  have hlt:=z4h _ s a hh;have HE:Hid (z2b base ⟨u,s.data.toList.drop a,8,0⟩=⟨z2g u,s.data.toList.drop (a+1),9,0⟩):=by show _=_;rw[zih base u _ 8 0 hh,List.drop_drop]
  have HSL2:Hid (CN 178 #[.pointer (some ⟨k,0,none⟩)] (w.setCell ⟨j,3,none⟩ (.bool true)) (.bool true)):=by have:=HSL;rw[show z0o (z06 (z2g u).scheme) (s.data.toList.drop a)=_ from hh] at this;exact this
  clear HSL hh c4 d4 hbo;rcases hfb with⟨rfl,_⟩|⟨bj,b,bpv,rfl,_,hf,_,n1,n2,hub⟩|⟨bj,b,bpv,rfl,_,hf,_,_,n1,n2,hub⟩
  ·go_enter func183,ntmps183
   go_wp2_with fail;refine Calls.mono HSL2 ?_;rintro e w1 ⟨rfl,n,rfl⟩;go_wp2;exact bodyPost_end (v:=.tuple #[]) (z05 rfl _ _ _) rfl ⟨rfl,by rw[HE.out];exact z1S (a:=a+1) (((HM0.out.drewN n).set_a _).set_st _) hlt _ rfl⟩
  ·have b0:w.cell? ⟨bj,0,none⟩=some (.string ⟨b.scheme.toArray⟩):=z00 hub 0
   have e1:((⟨b.scheme.toArray⟩:ByteArray).toList==[102,105,108,101])=false:=z38 b.scheme _ hf;generalize(⟨b.scheme.toArray⟩:ByteArray)=bcb at*;clear hub hf;go_enter func183,ntmps183;go_wp2_with fail;refine Calls.mono HSL2 ?_;rintro e w1 ⟨rfl,n,rfl⟩;go_wp2;exact bodyPost_end (v:=.tuple #[]) (z05 rfl _ _ _) rfl ⟨rfl,by rw[HE.out];exact z1S (a:=a+1) (((HM0.out.drewN n).set_a _).set_st _) hlt _ rfl⟩
  ·have b0:w.cell? ⟨bj,0,none⟩=some (.string ⟨b.scheme.toArray⟩):=z00 hub 0
   have e1:((⟨b.scheme.toArray⟩:ByteArray).toList==[102,105,108,101])=true:=z4t b.scheme _ hf;generalize(⟨b.scheme.toArray⟩:ByteArray)=bcb at*;clear hub hf;go_enter func183,ntmps183;go_wp2_with fail;refine Calls.mono HSL2 ?_;rintro e w1 ⟨rfl,n,rfl⟩;go_wp2;exact bodyPost_end (v:=.tuple #[]) (z05 rfl _ _ _) rfl ⟨rfl,by rw[HE.out];exact z1S (a:=a+1) (((HM0.out.drewN n).set_a _).set_st _) hlt _ rfl⟩
 |false=>
  have HSL2:Hid (CN 178 #[.pointer (some ⟨k,0,none⟩)] (w.setCell ⟨j,3,none⟩ (.bool true)) (.bool false)):=by have:=HSL;rw[show z0o (z06 (z2g u).scheme) (s.data.toList.drop a)=_ from hh] at this;exact this
  clear HSL;rcases hfb with⟨rfl,hfn⟩|⟨bj,b,bpv,rfl,_,hf,hfn,n1,n2,hub⟩|⟨bj,b,bpv,rfl,hbu,hf,hfn,hbase,n1,n2,hub⟩
  ·have HE:Hid _:=zc7 base u (s.data.toList.drop a) 8 0 hh hfn
   clear hh hfn c4 d4 hbo y3 f3;go_enter func183,ntmps183;go_wp2_with fail;refine Calls.mono HSL2 ?_;rintro e w1 ⟨rfl,n,rfl⟩;go_wp2;exact bodyPost_end (v:=.tuple #[]) (z05 rfl _ _ _) rfl ⟨rfl,by rw[HE.out];exact z1S (a:=a) ((HM0.out.drewN n).set_st _) ha _ rfl⟩
  ·have HE:Hid _:=zc7 base u (s.data.toList.drop a) 8 0 hh hfn
   have b0:w.cell? ⟨bj,0,none⟩=some (.string ⟨b.scheme.toArray⟩):=z00 hub 0;have e1:((⟨b.scheme.toArray⟩:ByteArray).toList==[102,105,108,101])=false:=z38 b.scheme _ hf;generalize(⟨b.scheme.toArray⟩:ByteArray)=bcb at*;clear hh hfn c4 d4 hbo hub hf y3 f3;go_enter func183,ntmps183;go_wp2_with fail;refine Calls.mono HSL2 ?_;rintro e w1 ⟨rfl,n,rfl⟩;go_wp2;exact bodyPost_end (v:=.tuple #[]) (z05 rfl _ _ _) rfl ⟨rfl,by rw[HE.out];exact z1S (a:=a) ((HM0.out.drewN n).set_st _) ha _ rfl⟩
  ·have hob:=hbo b hbase (by rw[hf];decide)
   have b0:w.cell? ⟨bj,0,none⟩=some (.string ⟨b.scheme.toArray⟩):=z00 hub 0;have b4:w.cell? ⟨bj,4,none⟩=some (.string ⟨b.auth.host.toArray⟩):=z00 hub 4;have e1:((⟨b.scheme.toArray⟩:ByteArray).toList==[102,105,108,101])=true:=z4t b.scheme _ hf;have hnb:u.way.segs.length+b.way.segs.length≤1000000:=(by rw[hbase] at hn;exact hn);have HM1:Hid (∀n,Mem B R k j (.pointer (some ⟨bj,0,none⟩)) s w0 (z1r u b.auth.host) pv (a:Nat) 8 0 ((((w.setCell ⟨j,3,none⟩ (.bool true)).drewN n).drew).setCell ⟨j,4,none⟩ (.string ⟨b.auth.host.toArray⟩))):=fun n=>(HM0.out.drewN n).drew.uset (u':=z1r u b.auth.host) 4 _ rfl rfl;have HMK:Hid (∀W,Mem B R k j (.pointer (some ⟨bj,0,none⟩)) s w0 (z1r u b.auth.host) pv (a:Nat) 8 0 W→CQ 221 #[.pointer (some ⟨k,0,none⟩)] W (.bool (z2n (s.data.toList.drop a))) (Mem B R k j (.pointer (some ⟨bj,0,none⟩)) s w0 (z1r u b.auth.host) pv (a:Nat) 8 0)):=(by intro W hW;refine(zo5 a hW (by omega)).mono ?_;rintro e w' ⟨he,n,rfl⟩;exact⟨he,hW.drewN n⟩);have HDV:Hid (∀W,Mem B R k j (.pointer (some ⟨bj,0,none⟩)) s w0 (z1r u b.auth.host) pv (a:Nat) 8 0 W→CQ 225 #[.pointer (some ⟨k,0,none⟩)] W (.bool (z1T (s.data.toList.drop a))) (Mem B R k j (.pointer (some ⟨bj,0,none⟩)) s w0 (z1r u b.auth.host) pv (a:Nat) 8 0)):=(by intro W hW;refine(z7p k a s W (z00 hW.mach 2) (z00 hW.mach 3) ha (by omega)).mono ?_;rintro e w' ⟨he,n,rfl⟩;exact⟨he,hW.drewN n⟩);have HTK:Hid (∀W,Mem B R k j (.pointer (some ⟨bj,0,none⟩)) s w0 (z1r u b.auth.host) pv (a:Nat) 8 0 W→CQ 219 #[.pointer (some ⟨k,0,none⟩)] W (.tuple #[]) (z3u B R k j (.pointer (some ⟨bj,0,none⟩)) s w0 (z1y b ⟨z1r u b.auth.host,s.data.toList.drop a,8,0⟩))):=fun W hW=>zmr a 8 hW hbu ho hob ha (by omega) hnb;have HD:Hid _:=zii base b u (s.data.toList.drop a) 8 0 hh hfn;have HT:Hid _:=zij base b u (s.data.toList.drop a) 8 0 hh hfn;generalize(⟨b.scheme.toArray⟩:ByteArray)=bcb at*;clear hh hfn hbo hub hf hbu hob hnb hn ho y3 f3 HM0;cases hk:z2n (s.data.toList.drop a) with
   |true=>have HE:Hid _:=HT (Or.inl hk);rw[hk] at HMK;generalize z1T (s.data.toList.drop a)=dv at*;clear HD HT hk;go_enter func183,ntmps183;go_wp2_with fail;refine Calls.mono HSL2 ?_;rintro e w1 ⟨rfl,n,rfl⟩;go_wp2;go_region;go_wp2_with fail;refine Calls.mono (HMK _ (HM1 n)) ?_;rintro e w2 ⟨rfl,hm2⟩;have HM2:Hid _:=hm2;clear hm2;go_wp2_with fail;refine Calls.mono (HDV _ HM2) ?_;rintro e w3 ⟨rfl,hm3⟩;have HM3:Hid _:=hm3;have t4:=hm3.y4;have t5:=hm3.f 4;clear hm3 HM2;go_wp2_with fail;refine Calls.mono (HTK _ HM3) ?_;rintro e w4 ⟨rfl,hf4⟩;have HF4:Hid _:=hf4;clear hf4;go_wp2;exact bodyPost_end (v:=.tuple #[]) (z05 rfl _ _ _) rfl ⟨rfl,by rw[HE.out];exact HF4⟩
   |false=>
    rw[hk] at HMK;cases hd:z1T (s.data.toList.drop a) with
    |true=>have HE:Hid _:=HD hk hd;rw[hd] at HDV;clear HD HT hk hd HTK;go_enter func183,ntmps183;go_wp2_with fail;refine Calls.mono HSL2 ?_;rintro e w1 ⟨rfl,n,rfl⟩;go_wp2;go_region;go_wp2_with fail;refine Calls.mono (HMK _ (HM1 n)) ?_;rintro e w2 ⟨rfl,hm2⟩;have HM2:Hid _:=hm2;clear hm2;go_wp2_with fail;refine Calls.mono (HDV _ HM2) ?_;rintro e w3 ⟨rfl,hm3⟩;have HM3:Hid _:=hm3;have t4:=hm3.y4;have t5:=hm3.f 4;clear hm3 HM2;go_wp2;exact bodyPost_end (v:=.tuple #[]) (z05 rfl _ _ _) rfl ⟨rfl,by rw[HE.out];exact z1S (a:=a) (HM3.out.set_st 6) ha _ rfl⟩
    |false=>have HE:Hid _:=HT (Or.inr hd);rw[hd] at HDV;clear HD HT hk hd;go_enter func183,ntmps183;go_wp2_with fail;refine Calls.mono HSL2 ?_;rintro e w1 ⟨rfl,n,rfl⟩;go_wp2;go_region;go_wp2_with fail;refine Calls.mono (HMK _ (HM1 n)) ?_;rintro e w2 ⟨rfl,hm2⟩;have HM2:Hid _:=hm2;clear hm2;go_wp2_with fail;refine Calls.mono (HDV _ HM2) ?_;rintro e w3 ⟨rfl,hm3⟩;have HM3:Hid _:=hm3;have t4:=hm3.y4;have t5:=hm3.f 4;clear hm3 HM2;go_wp2_with fail;refine Calls.mono (HTK _ HM3) ?_;rintro e w4 ⟨rfl,hf4⟩;have HF4:Hid _:=hf4;clear hf4;go_wp2;exact bodyPost_end (v:=.tuple #[]) (z05 rfl _ _ _) rfl ⟨rfl,by rw[HE.out];exact HF4⟩
end Go.Proofs
