import Derived.Test.YtkcnageeamappaaGreatDoorXQ13
set_option maxHeartbeats 32000000
set_option maxRecDepth 8000
namespace Go.Proofs
open Go.RowKit Go.Moor Go.Proofs.Tryz
theorem zh1 {α:Type} (ls:List α) (h:ls≠[]) (d:α):ls[ls.length- 1]?=some (ls.getLastD d):=by
 rw[←List.getLast?_eq_getElem?,List.getLastD_eq_getLast?];cases hl:ls.getLast? with
 |none=>exact absurd (List.getLast?_eq_none_iff.1 hl) h
 |some x=>rfl
theorem zjs (s:ByteArray) (w:World) (hs:s.size≤2000) (hpf:Lib.hasPrefix s.data.toList [91]=false):CP 67 #[.string s,.bool true] w (z2k (z14 (z0t s.data.toList))):=by
 have HUN:=hI (zjw s w (by omega));have HFO:=hI fun c w1=>zn1 c w1;have hul:(z0t s.data.toList).length≤2000:=by have:=z5o s.data.toList.length s.data.toList (Nat.le_refl _);rw[Array.length_toList] at this;exact Nat.le_trans this hs
 have hbr:=zbP s hpf;clear hpf;generalize z0t s.data.toList=u at*;obtain⟨ub,hub⟩:=z09 (⟨u.toArray⟩:ByteArray);rw[←hub] at HUN;have hus:ub.size≤2000:=by rw[hub,z07];exact hul
 have HUD:Hid (ub.data.toList=u):=by show _=_;rw[hub]
 clear hub;obtain⟨L,hL⟩:=z09 (Lib.toLowerA u);have hLl:L.length≤2000:=by rw[hL,lower_len];exact hul
 obtain⟨lb,hlb⟩:=z09 (⟨L.toArray⟩:ByteArray);have HSM:Hid (∀w1,CB 118 #[.string ub] w1 (.string lb)):=by intro w1;have:=zm8 ub w1 (by omega);rw[HUD.out,←hL,←hlb] at this;exact this
 have hlz:lb.size≤2000:=by rw[hlb,z07];exact hLl
 have HLD:Hid (lb.data.toList=L):=by show _=_;rw[hlb]
 have HSP:Hid (∀w1,Calls prog 78 #[.string lb,.int .u8 46] w1 fun e w'=>(∃v,e=.returned v∧w'.ownsRow w1.heap.size 9 1 v (z0a 46 L).length (z1J (z0a 46 L)))∧Below w1.heap.size w1 w'):=by intro w1;have:=zm9 lb 46 w1 (by omega);rw[HLD.out] at this;exact this
 have HLE:Hid (lb.toList.isEmpty=L.isEmpty):=by show _=_;rw[hlb,Lib.toList_data]
 have HLB:=hI hlb;have HLU:=hI hL;have HLL:=hI hLl;clear hL hlb hul hLl;suffices key:∀res:Option Bs,Hid (res=z14 u)→Calls prog 67 #[.string s,.bool true] w fun e w'=>z2k res e∧Below w.heap.size w w' from key _ rfl
 intro res HRES;obtain⟨br,hbrk⟩:=z09 (false:Bool);go_enter func67,ntmps67;go_upto_region 1 with fail;go_cut [22] from 15 to 22 (fun b wx=>b=.bool br∧wx=w)
 case first=>
  rcases hbr with h0|⟨h0,h1,h2⟩;all_goals
   go_wp2;go_meet;exact⟨by rw[hbrk],rfl⟩
 case rest=>
 obtain⟨rfl,hwc⟩:=hcut;obtain rfl:=hwc.symm;subst hbrk;clear hbr;go_wp2_with fail;refine Calls.mono HUN.out ?_;rintro e V ⟨rfl,b1⟩;have HB:=hI b1;have hbz:=b1.size;clear b1 HUN;go_wp2_with fail;go_loopw [11] (fun i wr=>∃k:Nat,k≤ub.size∧i=.int .i64 (k:Nat)∧(∀(j:Nat) (hj:j<ub.size),j<k→z2p ub[j]=false)∧wr=V) (fun i _=>ub.size-(intOf i).toNat)
 case atStart=>exact⟨0,Nat.zero_le _,rfl,fun j hj h=>by omega,rfl⟩
 case round=>
  obtain⟨k,hk,rfl,hno,hwr⟩:=hrel;obtain rfl:=hwr.symm;have HNO:=hI hno;clear hno;by_cases hlt:k<ub.size
  ·have HF:Hid _:=HFO.out ub[k] V
   cases hb:z2p ub[k] with
   |true=>
    have HN:Hid (res=none):=(by show _=_;rw[HRES.out];have:=zl7 ub k hlt hb;rw[HUD.out] at this;unfold z14;rw[this];simp);rcases zjr _ hb with h1|⟨h1,h2⟩|⟨h1,h2,h3⟩|⟨h1,h2,h3,h4⟩;all_goals
     rw[h1] at HF;clear hb;go_wp2_with fail;refine Calls.mono HF.out ?_;rintro e W0 ⟨rfl,hw0⟩;obtain rfl:=hw0.symm;go_wp2;go_ret2;rw[HN.out];exact⟨⟨_,rfl⟩,HB.out⟩
   |false=>
    have HNX:Hid (∀(j:Nat) (hj:j<ub.size),j<k+1→z2p ub[j]=false):=by
     intro j hj h;by_cases e:j=k
     ·subst e;exact hb
     ·exact HNO.out j hj (by omega)
    obtain⟨h1,h2,h3,h4⟩:=zhU _ hb;rw[h1] at HF;clear hb;go_wp2_with fail;refine Calls.mono HF.out ?_;rintro e W0 ⟨rfl,hw0⟩;obtain rfl:=hw0.symm;go_wp2;go_roundw
    case rel=>exact⟨k+1,by omega,by go_num,HNX.out,trivial⟩
    case measure=>(simp[intOf];try omega)
  ·have HGS:Hid (u.any z2p=false):=by
    have:=zjq ub (fun j hj=>HNO.out j hj (by omega));rw[HUD.out] at this;exact this
   clear HNO HFO;go_wp2_with fail;refine Calls.mono (HSM.out V) ?_;rintro e V1 ⟨rfl,b1⟩;have HB1:=hI (HB.out.trans (b1.mono hbz));clear b1 HSM;go_wp2_with fail;refine Calls.mono (HSP.out V1) ?_;rintro e V2 ⟨⟨v,rfl,ho⟩,b2⟩;have HB2:=hI (HB1.out.trans (b2.mono HB1.out.size));obtain⟨ls,hls⟩:=z09 (z0a 46 L);rw[←hls] at ho;have hne:ls≠[]:=(by rw[hls];exact z26 46 L);have hpos:=List.length_pos_iff.2 hne;obtain⟨spv,cap,rfl,hnc,hcm,hrow⟩:=z1t ho;obtain⟨g,hg,hcl⟩:=hrow hpos;subst hg;have hgl:=(ho.lt g rfl).2;have hlc:ls.length≤2001:=by rw[hls];have:=z4A 46 L;have:=HLL.out;omega
   have HCL:Hid (∀(j:Nat) x,ls[j]?=some x→V2.cell? ⟨g,j,none⟩=some (.string ⟨x.toArray⟩)):=fun j x hj=>hcl j _ (by unfold z1J;rw[List.getElem?_map,hj];rfl);have HLS:=hI hls;have HLM:Hid (∀x∈ls,x.length≤4000):=(by intro x hx;rw[HLS.out] at hx;have:=z2L 46 L x hx;have:=HLL.out;omega);have HGT:=hI hgl;have HNE:=hI hne;clear b2 ho hcl hls hrow hgl HSP;obtain⟨z,hz⟩:=z09 (ls.getLastD []);have HLA:Hid (ls[ls.length- 1]?=some z):=(by show _=_;rw[hz];exact zh1 ls hne []);obtain⟨n,hn⟩:∃n,ls.length=n+1:=⟨ls.length- 1,by omega⟩;have cz:V2.cell? ⟨g,n,none⟩=some (.string ⟨z.toArray⟩):=(by have h:=HLA.out;rw[show ls.length- 1=n by omega] at h;exact HCL.out n z h);have hLG:ls.getLast? =some z:=(by have:=HLA.out;rw[←List.getLast?_eq_getElem?] at this;exact this);obtain⟨dr,hdr⟩:=z09 ((decide (1<ls.length)&&z.isEmpty):Bool);have HLAB:Hid (z1h L=if dr then ls.dropLast else ls):=by
    show _=_;unfold z1h;rw[←HLS.out,hLG];have e:(1<ls.length∧some z=some ([]:List UInt8))↔dr=true:=by rw[hdr,Bool.and_eq_true,decide_eq_true_eq,List.isEmpty_iff];simp
    by_cases hd:dr=true
    ·rw[if_pos (e.2 hd),if_pos hd]
    ·rw[if_neg (fun h=>hd (e.1 h)),if_neg hd]
   have hze:(⟨z.toArray⟩:ByteArray).toList.isEmpty=z.isEmpty:=(by rw[Lib.toList_data]);obtain⟨zb,hzb⟩:=z09 (⟨z.toArray⟩:ByteArray);rw[←hzb] at cz hze;have HDRH:=hI hdr;have HZE:=hI hze;have hli:(ls.length:Int)- 1=(n:Int):=(by omega);have hnl:n<ls.length:=(by omega);have HNN:=hI hn;clear hLG hdr hze hzb hz hne hn HLA;go_upto_region 28 with fail;go_cut [109] from 98 to 130 (fun b wx=>b=.bool dr∧wx=V2)
   case first=>
    by_cases h1:1<ls.length
    ·have h1i:(1:Int)<(ls.length:Int):=by omega
     have HD:Hid (dr=z.isEmpty):=(by show _=_;rw[HDRH.out,decide_eq_true h1];rfl);cases hzz:z.isEmpty;all_goals
      have hz2:=HZE.out;rw[hzz] at hz2 HD;go_wp2;go_meet;exact⟨by rw[HD.out],rfl⟩
    ·have h1i:¬(1:Int)<(ls.length:Int):=by omega
     have HD:Hid (dr=false):=(by show _=_;rw[HDRH.out,decide_eq_false h1];rfl);go_wp2;go_meet;exact⟨by rw[HD.out],rfl⟩
   case rest=>
   obtain⟨rfl,hwc⟩:=hcut;obtain rfl:=hwc.symm;go_upto_if 109 with fail
   go_cut [13] from 98 to 130 (fun a wx=>∃cap2,a=.slice (some ⟨g,0,none⟩) (z1h L).length cap2∧(z1h L).length≤cap2∧wx=V2)
   case first=>
    cases dr with
    |true=>have HLN:Hid ((z1h L).length=n):=(by show _=_;rw[HLAB.out,if_pos rfl,List.length_dropLast,HNN.out];rfl);have hn0:(0:Int)≤(n:Int):=(by omega);have hnc2:(n:Int)≤(cap:Int):=(by omega);go_wp2;go_meet;exact⟨cap,by rw[HLN.out],by rw[HLN.out];omega,rfl⟩
    |false=>have HLN:Hid ((z1h L).length=ls.length):=(by show _=_;rw[HLAB.out,if_neg (by simp)]);go_wp2;go_meet;exact⟨cap,by rw[HLN.out],by rw[HLN.out];omega,rfl⟩
   case rest=>
   obtain⟨cap2,rfl,hcap2,hwc⟩:=hcut;obtain rfl:=hwc.symm;have HCB:Hid (∀(j:Nat) x,(z1h L)[j]?=some x→V2.cell? ⟨g,j,none⟩=some (.string ⟨x.toArray⟩)):=by
    intro j x hj;rw[HLAB.out] at hj;split at hj
    ·refine HCL.out j x ?_
     rw[List.getElem?_dropLast] at hj;split at hj
     ·exact hj
     ·cases hj
    ·exact HCL.out j x hj
   have HLBM:Hid (∀x∈z1h L,x.length≤4000):=(by intro x hx;have:=z8w L x hx;have:=HLL.out;omega);have hbl:(z1h L).length≤2001:=by
    rw[HLAB.out];split
    ·rw[List.length_dropLast];omega
    ·exact hlc
   have hbne:=z6y L;have HBNE:=hI hbne;have hbpos:=List.length_pos_iff.2 hbne;have HSPEC:Hid (u≠[]→res=if z1R ((z1h L).getLastD []) then(ip4 (z1h L)).map (fun a=>z2U a.toNat) else some L):=(by intro hu;rw[HRES.out];unfold z14;rw[if_neg hu,HGS.out,if_neg (by simp),←HLU.out]);have HNIL:Hid (u=[]→res=none∧z1R ((z1h L).getLastD [])=false∧L=[]):=by
    intro hu;have hL0:L=[]:=(by rw[HLU.out,hu];rfl);refine⟨?_,?_,hL0⟩
    ·rw[HRES.out];unfold z14;rw[if_pos hu]
    ·rw[hL0,zhV];decide
   have HLNIL:Hid (L=[]→u=[]):=(by intro h;have h2:=HLU.out;rw[h] at h2;have h3:=congrArg List.length h2;rw[lower_len] at h3;exact List.length_eq_zero_iff.1 h3.symm);generalize z1h L=bs at*;clear hbne HLAB HDRH HNE HCL HLM HZE cz hli hnl HNN HLS hnc hcm hlc;obtain⟨z2,hz2⟩:=z09 (bs.getLastD []);obtain⟨n2,hn2⟩:∃n2,bs.length=n2+1:=⟨bs.length- 1,by omega⟩;have hla2:=zh1 bs HBNE.out ([]:List UInt8);rw[←hz2,show bs.length- 1=n2 by omega] at hla2;have cz2:=HCB.out n2 z2 hla2;have hz2m:=HLBM.out z2 (List.mem_of_getElem? hla2);obtain⟨zb2,hzb2⟩:=z09 (⟨z2.toArray⟩:ByteArray);rw[←hzb2] at cz2;rw[←hz2] at HSPEC HNIL;have HNU:Hid (C0 119 #[.string zb2] V2 (.bool (z1R z2))):=(by have:=zko zb2 V2 (by rw[hzb2,z07];omega);rw[hzb2] at this⊢;exact this);have HFR:=hI (zmS bs _ cap2 V2 HBNE.out (by omega) HLBM.out ⟨g,rfl,HGT.out,HCB.out⟩);have hli2:(bs.length:Int)- 1=(n2:Int):=(by omega);have hnl2:n2<bs.length:=(by omega);clear hz2 hn2 hla2 hz2m hzb2 HCB HLBM;go_wp2_with fail;refine Calls.mono HNU.out ?_;rintro e W0 ⟨rfl,hw0⟩;obtain rfl:=hw0.symm;cases hnum:z1R z2 with
   |false=>
    rw[hnum] at HSPEC;have HLE2:Hid _:=HLE.out;by_cases hL0:L=[]
    ·have HN:=hI ((HNIL.out (HLNIL.out hL0)).1)
     have hle:lb.toList.isEmpty=true:=(by rw[HLE.out,hL0];rfl);clear hL0 hnum;go_wp2;go_ret2;rw[HN.out];exact⟨⟨_,rfl⟩,HB2.out⟩
    ·have HN:Hid (res=some L):=by
      show _=_;rw[HSPEC.out (fun h=>hL0 (HNIL.out h).2.2)];rfl
     have hle:lb.toList.isEmpty=false:=by
      rw[HLE.out];cases L with
      |nil=>exact absurd rfl hL0
      |cons=>rfl
     clear hL0 hnum;go_wp2;go_ret2;rw[HN.out];refine⟨?_,HB2.out⟩;show _=Ending.returned (.tuple #[.string ⟨L.toArray⟩,.bool true]);rw[←HLB.out];rfl
   |true=>
    have hu:u≠[]:=fun h=>by
     have:=(HNIL.out h).2.1;rw[hnum] at this;cases this
    have HN:Hid (res=(ip4 bs).map (fun a=>z2U a.toNat)):=(by show _=_;rw[HSPEC.out hu,hnum];rfl);clear hnum hu;go_wp2_with fail;refine Calls.mono HFR.out ?_;rintro e V3 ⟨hf,b3⟩;have HB3:=hI (HB2.out.trans (b3.mono HB2.out.size));clear b3;cases ho:ip4 bs with
    |none=>rw[ho] at hf HN;have hf:e=_:=hf;subst hf;clear ho;go_wp2;go_ret2;rw[HN.out];exact⟨⟨_,rfl⟩,HB3.out⟩
    |some a=>rw[ho] at hf HN;have hf:e=_:=hf;subst hf;clear ho;go_wp2;go_ret2;rw[HN.out];exact⟨rfl,HB3.out⟩
theorem zcE (s:ByteArray) (sp:Bool) (w:World) (hs:s.size≤2000):CP 67 #[.string s,.bool sp] w (z2k (hostTell s.data.toList sp)):=by
 unfold hostTell;by_cases hp:Lib.hasPrefix s.data.toList [91]=true
 ·rw[if_pos hp]
  exact zn0 s sp w hs hp
 ·have hp2:Lib.hasPrefix s.data.toList [91]=false:=by simpa using hp
  rw[if_neg hp];cases sp with
  |true=>exact zjs s w hs hp2
  |false=>exact zl6 s w hs hp2
end Go.Proofs
