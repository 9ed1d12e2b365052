import Derived.Test.YtkcnageeamappaaGreatDoorXLabels
set_option maxHeartbeats 32000000
set_option maxRecDepth 8000
namespace Go.Proofs
open Go.RowKit Go.Moor Go.Proofs.Tryz
theorem zhG (xs:List ByteArray) (q:Nat) (x:ByteArray) (a:Int) (hq:q<xs.length- 1) (hx:xs[q]?=some x):z3c a (((xs.map (·.data.toList)).dropLast).drop q)=(match z0I 255 x.data.toList with|some n=>z3c (a*256+n) (((xs.map (·.data.toList)).dropLast).drop (q+1))|none=>none):=by
 have h1:((xs.map (·.data.toList)).dropLast)[q]?=some x.data.toList:=by rw[List.getElem?_dropLast,if_pos (by simpa using hq),List.getElem?_map,hx];rfl
 obtain⟨hlt,he⟩:=List.getElem?_eq_some_iff.1 h1;rw[List.drop_eq_getElem_cons hlt,he];rfl
theorem zkR (s:ByteArray) (w:World) (hs:s.size<4294967281) (henv:Env w):CP 145 #[.string s] w (z2M (ip4 (z1h s.data.toList))):=by
 obtain⟨m,hm⟩:=henv.maxLen;have HM:=hI hm;have HV:=hI henv;clear hm henv;go_enter func145,ntmps145;go_wp2_with fail;refine(zhH s m _ hs HM.out).mono ?_;rintro e w1 ⟨⟨v,rfl,xs,cap,hxs,hc1,hc2,rfl,hcl,hz1⟩,hb1⟩;have HV1:=hI (HV.out.below hb1);have HX:=hI hxs;have HC:=hI hcl;have hne:1≤xs.length:=by
  have:=z6y s.data.toList;rw[←hxs] at this;cases xs with
  |nil=>simp at this
  |cons a l=>simp
 have HS:Hid (∀x∈xs,x.size≤maxLen):=by intro x hx;have:=z8w s.data.toList x.data.toList (by rw[←hxs];exact List.mem_map.2 ⟨x,hx,rfl⟩);simp at this;unfold maxLen;omega
 clear hcl hxs;by_cases h4:4<xs.length
 ·obtain⟨te,ve,hce⟩:=HV1.out.eCount
  go_wp2;go_quiet (fail);go_wp2;go_ret2;refine⟨?_,Go.below_drewN hb1 _⟩;rw[←HX.out];unfold ip4;rw[if_pos (by simpa using h4)];exact⟨_,_,rfl⟩
 ·obtain⟨L,hL⟩:∃L,xs.length=L+1:=⟨xs.length- 1,by omega⟩
  have HLL:=hI hL;have hL3:L≤3:=by omega
  generalize hgo:z3c 0 ((xs.map (·.data.toList)).dropLast)=goal;have HG:=hI hgo;have HX4:Hid (¬4<(z1h s.data.toList).length):=by show¬_;rw[←HX.out];simpa using h4
  clear hgo h4 hne;go_wp2_with fail;go_loopw [6,27] (fun t i wr=>∃(q nd:Nat) (a:Int),q≤L∧i=.int .i64 q∧t=.int .u64 a∧0≤a∧a<256^q∧z3c a (((xs.map (·.data.toList)).dropLast).drop q)=goal∧wr=w1.drewN nd) (fun _ i _=>L-(intOf i).toNat)
  case atStart=>exact⟨0,0,0,Nat.zero_le _,rfl,rfl,by omega,by omega,HG.out,rfl⟩
  case round=>
   obtain⟨q,nd,a,hq,rfl,rfl,ha0,ha1,hfr,rfl⟩:=hrel;have HF:=hI hfr;have HA1:=hI ha1;have ha2:a<16777216:=Int.lt_of_lt_of_le ha1 (by
    have:q=0∨q=1∨q=2∨q=3:=by omega
    rcases this with rfl|rfl|rfl|rfl<;>decide)
   clear hfr ha1;by_cases hlt:q<L
   ·obtain⟨x,hx⟩:∃x,xs[q]?=some x:=⟨xs[q]'(by omega),by simp⟩
    have hc:=HC.out q x hx;have hxm:=HS.out x (List.mem_of_getElem? hx);have HST:=hI (zhG xs q x a (by omega) hx);clear hx;cases ho:z0I 255 x.data.toList with
    |none=>have HO:=hI ho;clear ho;go_wp2_with fail;refine(ziM x 255 _ hxm (by omega) (by omega) (HV1.out.drew nd).eGreat (HV1.out.drew nd).eEmpty).mono ?_;rw[HO.out];rintro e w2 ⟨⟨te,ve,rfl⟩,nd2,rfl⟩;go_wp2;go_ret2;refine⟨?_,Go.below_drewN hb1 _⟩;have h1:=HF.out;rw[HST.out,HO.out] at h1;have h2:=HG.out;rw[←h1] at h2;unfold ip4;rw[if_neg HX4.out,←HX.out,h2];exact⟨_,_,rfl⟩
    |some n=>
     have HO:=hI ho;have hnr:=z2y 255 (by omega) _ n ho;clear ho;have HJ:Hid (bits .or .u64 (a*256) n=a*256+n):=z6R a n 8 256 rfl (by omega) ha0 ha2 hnr.1 (by omega);go_wp2_with fail;refine(ziM x 255 _ hxm (by omega) (by omega) (HV1.out.drew nd).eGreat (HV1.out.drew nd).eEmpty).mono ?_;rw[HO.out];rintro e w2 ⟨rfl,nd2,rfl⟩;go_wp2;go_roundw
     case rel=>
      refine⟨q+1,nd+nd2,a*256+n,by omega,by go_num,by rw[HJ.out],by omega,?_,?_,rfl⟩
      ·have h1:=HA1.out
       rw[Int.pow_succ];generalize(256:Int)^q=P at h1⊢;omega
      ·have h1:=HF.out
       rw[HST.out,HO.out] at h1;exact h1
     case measure=>simp[intOf];omega
   ·have hqL:q=L:=by omega
    subst hqL;have HF2:Hid (goal=some a):=by show _=_;have h1:=HF.out;rw[List.drop_eq_nil_of_le (by rw[List.length_dropLast,List.length_map];have:=HLL.out;omega)] at h1;exact h1.symm
    clear hlt hq;obtain⟨x,hx⟩:∃x,xs[q]?=some x:=⟨xs[q]'(by have:=HLL.out;omega),by simp⟩;have hc:=HC.out q x hx;have hxm:=HS.out x (List.mem_of_getElem? hx);have HLA:Hid ((z1h s.data.toList).getLastD []=x.data.toList):=by show _=_;rw[←HX.out,List.getLastD_eq_getLast?,List.getLast?_map,List.getLast?_eq_getElem?,show xs.length- 1=q by have:=HLL.out;omega,hx];rfl
    have HLN:Hid ((z1h s.data.toList).length=q+1):=(by show _=_;rw[←HX.out,List.length_map];exact HLL.out);clear hx;have hq4:q=0∨q=1∨q=2∨q=3:=(by omega);rcases hq4 with rfl|rfl|rfl|rfl
    ·have hw:IntKind.u64.wrap (IntKind.u64.wrap 4294967296- 1)=4294967295:=by decide
     cases ho:z0I 4294967295 x.data.toList with
     |none=>
      have HO:=hI ho;clear ho;go_wp2_with fail;have HCT:Hid (Calls prog 202 #[.string x,.int .u64 4294967295] (w1.drewN (nd+1)) fun e w'=>(∃t v,e=.returned (.tuple #[.int .u64 0,.iface t v]))∧∃n,w'=(w1.drewN (nd+1)).drewN n):=(by have:=ziM x 4294967295 (w1.drewN (nd+1)) hxm (by omega) (by omega) (HV1.out.drew _).eGreat (HV1.out.drew _).eEmpty;rw[HO.out] at this;exact this);go_region_with (go_at_call 202;refine HCT.out.mono ?_;rintro e w2 ⟨⟨te,ve,rfl⟩,nd2,rfl⟩);all_goals
       go_wp2;go_ret2;refine⟨?_,Go.below_drewN hb1 _⟩;have h2:=HG.out;rw[HF2.out] at h2;have h3:z0I (2^(8*(5-(0+1)))- 1) x.data.toList=none:=HO.out;unfold ip4;rw[if_neg HX4.out,HLN.out,HLA.out,←HX.out,h2];simp only[h3];exact⟨_,_,rfl⟩
     |some n=>
      have HO:=hI ho;have hnr:=z2y 4294967295 (by omega) _ n ho;clear ho;have HJ:Hid (bits .or .u64 (a*4294967296) n=a*4294967296+n):=z6R a n 32 4294967296 (by decide) (by omega) ha0 ha2 hnr.1 (by omega);go_wp2_with fail;have HCT:Hid (CN 202 #[.string x,.int .u64 4294967295] (w1.drewN (nd+1)) (.tuple #[.int .u64 n,.nilIface])):=(by have:=ziM x 4294967295 (w1.drewN (nd+1)) hxm (by omega) (by omega) (HV1.out.drew _).eGreat (HV1.out.drew _).eEmpty;rw[HO.out] at this;exact this);go_region_with (go_at_call 202;refine HCT.out.mono ?_;rintro e w2 ⟨rfl,nd2,rfl⟩);all_goals
       go_wp2;go_ret2;refine⟨?_,Go.below_drewN hb1 _⟩;have h2:=HG.out;rw[HF2.out] at h2;have h3:z0I (2^(8*(5-(0+1)))- 1) x.data.toList=some n:=HO.out;unfold ip4;rw[if_neg HX4.out,HLN.out,HLA.out,←HX.out,h2];simp only[h3];have h4:(2:Int)^(8*(5-(0+1)))=4294967296:=(by decide);rw[h4];show z2M (some (a*4294967296+n)) (.returned (.tuple #[.int .u64 (bits .or .u64 (a*4294967296) n),.nilIface]));rw[HJ.out];rfl
    ·have hw:IntKind.u64.wrap (IntKind.u64.wrap 16777216- 1)=16777215:=by decide
     cases ho:z0I 16777215 x.data.toList with
     |none=>
      have HO:=hI ho;clear ho;go_wp2_with fail;have HCT:Hid (Calls prog 202 #[.string x,.int .u64 16777215] (w1.drewN (nd+1)) fun e w'=>(∃t v,e=.returned (.tuple #[.int .u64 0,.iface t v]))∧∃n,w'=(w1.drewN (nd+1)).drewN n):=(by have:=ziM x 16777215 (w1.drewN (nd+1)) hxm (by omega) (by omega) (HV1.out.drew _).eGreat (HV1.out.drew _).eEmpty;rw[HO.out] at this;exact this);go_region_with (go_at_call 202;refine HCT.out.mono ?_;rintro e w2 ⟨⟨te,ve,rfl⟩,nd2,rfl⟩);all_goals
       go_wp2;go_ret2;refine⟨?_,Go.below_drewN hb1 _⟩;have h2:=HG.out;rw[HF2.out] at h2;have h3:z0I (2^(8*(5-(1+1)))- 1) x.data.toList=none:=HO.out;unfold ip4;rw[if_neg HX4.out,HLN.out,HLA.out,←HX.out,h2];simp only[h3];exact⟨_,_,rfl⟩
     |some n=>
      have HO:=hI ho;have hnr:=z2y 16777215 (by omega) _ n ho;clear ho;have HJ:Hid (bits .or .u64 (a*16777216) n=a*16777216+n):=z6R a n 24 16777216 (by decide) (by omega) ha0 ha2 hnr.1 (by omega);go_wp2_with fail;have HCT:Hid (CN 202 #[.string x,.int .u64 16777215] (w1.drewN (nd+1)) (.tuple #[.int .u64 n,.nilIface])):=(by have:=ziM x 16777215 (w1.drewN (nd+1)) hxm (by omega) (by omega) (HV1.out.drew _).eGreat (HV1.out.drew _).eEmpty;rw[HO.out] at this;exact this);go_region_with (go_at_call 202;refine HCT.out.mono ?_;rintro e w2 ⟨rfl,nd2,rfl⟩);all_goals
       go_wp2;go_ret2;refine⟨?_,Go.below_drewN hb1 _⟩;have h2:=HG.out;rw[HF2.out] at h2;have h3:z0I (2^(8*(5-(1+1)))- 1) x.data.toList=some n:=HO.out;unfold ip4;rw[if_neg HX4.out,HLN.out,HLA.out,←HX.out,h2];simp only[h3];have h4:(2:Int)^(8*(5-(1+1)))=16777216:=(by decide);rw[h4];show z2M (some (a*16777216+n)) (.returned (.tuple #[.int .u64 (bits .or .u64 (a*16777216) n),.nilIface]));rw[HJ.out];rfl
    ·have hw:IntKind.u64.wrap (IntKind.u64.wrap 65536- 1)=65535:=by decide
     cases ho:z0I 65535 x.data.toList with
     |none=>
      have HO:=hI ho;clear ho;go_wp2_with fail;have HCT:Hid (Calls prog 202 #[.string x,.int .u64 65535] (w1.drewN (nd+1)) fun e w'=>(∃t v,e=.returned (.tuple #[.int .u64 0,.iface t v]))∧∃n,w'=(w1.drewN (nd+1)).drewN n):=(by have:=ziM x 65535 (w1.drewN (nd+1)) hxm (by omega) (by omega) (HV1.out.drew _).eGreat (HV1.out.drew _).eEmpty;rw[HO.out] at this;exact this);go_region_with (go_at_call 202;refine HCT.out.mono ?_;rintro e w2 ⟨⟨te,ve,rfl⟩,nd2,rfl⟩);all_goals
       go_wp2;go_ret2;refine⟨?_,Go.below_drewN hb1 _⟩;have h2:=HG.out;rw[HF2.out] at h2;have h3:z0I (2^(8*(5-(2+1)))- 1) x.data.toList=none:=HO.out;unfold ip4;rw[if_neg HX4.out,HLN.out,HLA.out,←HX.out,h2];simp only[h3];exact⟨_,_,rfl⟩
     |some n=>
      have HO:=hI ho;have hnr:=z2y 65535 (by omega) _ n ho;clear ho;have HJ:Hid (bits .or .u64 (a*65536) n=a*65536+n):=z6R a n 16 65536 (by decide) (by omega) ha0 ha2 hnr.1 (by omega);go_wp2_with fail;have HCT:Hid (CN 202 #[.string x,.int .u64 65535] (w1.drewN (nd+1)) (.tuple #[.int .u64 n,.nilIface])):=(by have:=ziM x 65535 (w1.drewN (nd+1)) hxm (by omega) (by omega) (HV1.out.drew _).eGreat (HV1.out.drew _).eEmpty;rw[HO.out] at this;exact this);go_region_with (go_at_call 202;refine HCT.out.mono ?_;rintro e w2 ⟨rfl,nd2,rfl⟩);all_goals
       go_wp2;go_ret2;refine⟨?_,Go.below_drewN hb1 _⟩;have h2:=HG.out;rw[HF2.out] at h2;have h3:z0I (2^(8*(5-(2+1)))- 1) x.data.toList=some n:=HO.out;unfold ip4;rw[if_neg HX4.out,HLN.out,HLA.out,←HX.out,h2];simp only[h3];have h4:(2:Int)^(8*(5-(2+1)))=65536:=(by decide);rw[h4];show z2M (some (a*65536+n)) (.returned (.tuple #[.int .u64 (bits .or .u64 (a*65536) n),.nilIface]));rw[HJ.out];rfl
    ·have hw:IntKind.u64.wrap (IntKind.u64.wrap 256- 1)=255:=by decide
     cases ho:z0I 255 x.data.toList with
     |none=>
      have HO:=hI ho;clear ho;go_wp2_with fail;have HCT:Hid (Calls prog 202 #[.string x,.int .u64 255] (w1.drewN (nd+1)) fun e w'=>(∃t v,e=.returned (.tuple #[.int .u64 0,.iface t v]))∧∃n,w'=(w1.drewN (nd+1)).drewN n):=(by have:=ziM x 255 (w1.drewN (nd+1)) hxm (by omega) (by omega) (HV1.out.drew _).eGreat (HV1.out.drew _).eEmpty;rw[HO.out] at this;exact this);go_region_with (go_at_call 202;refine HCT.out.mono ?_;rintro e w2 ⟨⟨te,ve,rfl⟩,nd2,rfl⟩);all_goals
       go_wp2;go_ret2;refine⟨?_,Go.below_drewN hb1 _⟩;have h2:=HG.out;rw[HF2.out] at h2;have h3:z0I (2^(8*(5-(3+1)))- 1) x.data.toList=none:=HO.out;unfold ip4;rw[if_neg HX4.out,HLN.out,HLA.out,←HX.out,h2];simp only[h3];exact⟨_,_,rfl⟩
     |some n=>
      have HO:=hI ho;have hnr:=z2y 255 (by omega) _ n ho;clear ho;have HJ:Hid (bits .or .u64 (a*256) n=a*256+n):=z6R a n 8 256 (by decide) (by omega) ha0 ha2 hnr.1 (by omega);go_wp2_with fail;have HCT:Hid (CN 202 #[.string x,.int .u64 255] (w1.drewN (nd+1)) (.tuple #[.int .u64 n,.nilIface])):=(by have:=ziM x 255 (w1.drewN (nd+1)) hxm (by omega) (by omega) (HV1.out.drew _).eGreat (HV1.out.drew _).eEmpty;rw[HO.out] at this;exact this);go_region_with (go_at_call 202;refine HCT.out.mono ?_;rintro e w2 ⟨rfl,nd2,rfl⟩);all_goals
       go_wp2;go_ret2;refine⟨?_,Go.below_drewN hb1 _⟩;have h2:=HG.out;rw[HF2.out] at h2;have h3:z0I (2^(8*(5-(3+1)))- 1) x.data.toList=some n:=HO.out;unfold ip4;rw[if_neg HX4.out,HLN.out,HLA.out,←HX.out,h2];simp only[h3];have h4:(2:Int)^(8*(5-(3+1)))=256:=(by decide);rw[h4];show z2M (some (a*256+n)) (.returned (.tuple #[.int .u64 (bits .or .u64 (a*256) n),.nilIface]));rw[HJ.out];rfl
end Go.Proofs
