import Derived.Test.YtkcnageeamappaaGreatDoorXASegs
set_option maxHeartbeats 32000000
set_option maxRecDepth 8000
namespace Go.Proofs
open Go.RowKit Go.Moor Go.Proofs.Tryz
theorem zcu {sp:Option Go.Addr} {n m c:Nat} {o:Option Nat} (h:(Value.slice sp n c).ownBlock≠o):(Value.slice sp m c).ownBlock≠o:=by
 cases sp with
 |none=>exact h
 |some a=>exact h
theorem zar (g j:Nat):(⟨g,0,none⟩:Go.Addr).add j=⟨g,j,none⟩:=by
 unfold Go.Addr.add;split
 ·rename_i h;rw[h]
 ·simp
theorem z86 (sc t:Bs) (sp:Option Go.Addr) (cap:Nat) (begun:List Bs) (w:World) (ht:t.length≤100000) (hbl:begun.length≤1000000) (hbx:∀x∈begun,x.length≤1000000) (hform:begun≠[]→∃g,sp=some ⟨g,0,none⟩∧∀(j:Nat) x,begun[j]?=some x→w.cell? ⟨g,j,none⟩=some (.string ⟨x.toArray⟩)) (henv:Env2 w):Calls prog 212 #[.string ⟨sc.toArray⟩,.slice sp begun.length cap,.string ⟨t.toArray⟩] w fun e w'=>(∃v,e=.returned v∧w'.ownsRow w.heap.size 9 1 v (z0z sc begun t).length (z1J (z0z sc begun t)))∧Below w.heap.size w w':=by
 have HV:=hI henv;have HCL:=hI (zmD sp cap begun w (by omega) hform);have HSP:=hI fun W=>z9l ⟨sc.toArray⟩ W;obtain⟨i0,hi,hz0,hz1,hz2⟩:=info_parts zox;clear henv hform;by_cases hnone:t=[]∧z0b sc=false
 ·obtain⟨rfl,hsf⟩:=hnone
  have HE:Hid (z0z sc begun []=begun):=by show _=_;unfold z0z;rw[if_pos ⟨rfl,hsf⟩]
  have e1:=z3B;rw[hsf] at HSP;clear hsf;go_enter func212,ntmps212;go_wp2_with fail;refine HCL.out.mono ?_;rintro e w1 ⟨⟨v,rfl,ho⟩,b1⟩;have HO:=hI ho;clear ho;go_wp2_with fail;refine(HSP.out w1).mono ?_;rintro e w2 ⟨rfl,hw0⟩;obtain rfl:=hw0.symm;go_wp2;go_ret;rw[HE.out];exact⟨⟨_,rfl,HO.out⟩,b1⟩
 ·have HE:Hid (z0z sc begun t=z0R sc begun (z0a 47 (z0v t))):=by show _=_;unfold z0z;rw[if_neg hnone]
  generalize z0z sc begun t=goal at*;have HTP:Hid (∀W,C0 165 #[.string ⟨t.toArray⟩,.string ⟨#[47]⟩] W (.string ⟨(z0v t).toArray⟩)):=by
   intro W;refine(strings_TrimPrefix ⟨t.toArray⟩ ⟨#[47]⟩ W).mono ?_;rintro e w' ⟨rfl,rfl⟩;refine⟨?_,rfl⟩;have:Lib.trimPrefix (⟨t.toArray⟩:ByteArray).data.toList (⟨#[47]⟩:ByteArray).data.toList=z0v t:=by
    show Lib.trimPrefix t [47]=_;unfold Lib.trimPrefix Lib.hasPrefix z0v;cases t with
    |nil=>rfl
    |cons c r=>
     by_cases h:c=47
     ·subst h;simp[List.isPrefixOf]
     ·have h2:¬(47:UInt8)=c:=fun e=>h e.symm
      simp[List.isPrefixOf,h,h2]
   rw[this]
  have htl:(z0v t).length≤t.length:=by unfold z0v;split<;>simp
  have HSPL:Hid (∀W,Env W→Calls prog 132 #[.string ⟨(z0v t).toArray⟩,.string ⟨#[47]⟩] W fun e w'=>e=.returned (.slice (some ⟨W.heap.size,0,none⟩) (z0a 47 (z0v t)).length (z0a 47 (z0v t)).length)∧Below W.heap.size W w'∧W.heap.size<w'.heap.size∧∀(j:Nat) x,(z0a 47 (z0v t))[j]?=some x→w'.cell? ⟨W.heap.size,j,none⟩=some (.string ⟨x.toArray⟩)):=by intro W hv;obtain⟨m,hm⟩:=hv.maxLen;refine(zmO ⟨(z0v t).toArray⟩ 47 m W (by rw[z07];omega) hm).mono ?_;rintro e w' ⟨xs,hxs,rfl,rfl⟩;have hxs':=hxs;have hl:xs.length=(z0a 47 (z0v t)).length:=(by rw[←hxs',List.length_map]);refine⟨by rw[hl],(Below.refl _ _).alloc (Nat.le_refl _) _,by simp,?_⟩;intro j x hx;rw[←hxs',List.getElem?_map,Option.map_eq_some_iff] at hx;obtain⟨y,hy,rfl⟩:=hx;rw[World.cell?_alloc_new];simp only[List.getElem?_toArray,List.getElem?_map,hy,Option.map_some]
  have HPL:Hid (∀x∈z0a 47 (z0v t),x.length≤100000):=fun x hx=>by
   have:=z2L 47 _ x hx;omega
  have hpn:(z0a 47 (z0v t)).length≤100001:=by have:=z4A 47 (z0v t);omega
  generalize z0a 47 (z0v t)=parts at*;generalize z0v t=tt at*;clear htl;by_cases hte:t=[];case' pos=>
   have hsf:z0b sc=true:=by
    cases h:z0b sc with
    |true=>rfl
    |false=>exact absurd ⟨hte,h⟩ hnone
   subst hte;have e0:=z3B;rw[hsf] at HSP;clear hsf hnone;go_enter func212,ntmps212;go_wp2_with fail;refine HCL.out.mono ?_;rintro e w1 ⟨⟨v,rfl,ho⟩,b1⟩;have HO:=hI ho;have HV1:=hI (HV.out.below b1);clear ho;go_wp2_with fail;refine(HSP.out w1).mono ?_;rintro e w2 ⟨rfl,hw0⟩;obtain rfl:=hw0.symm
  case' neg=>have e0:=z3Z t hte;obtain⟨s,hsd⟩:=z09 (⟨t.toArray⟩:ByteArray);rw[←hsd] at e0 HTP⊢;clear hsd hnone hte HSP;go_enter func212,ntmps212;go_wp2_with fail;refine HCL.out.mono ?_;rintro e w1 ⟨⟨v,rfl,ho⟩,b1⟩;have HO:=hI ho;have HV1:=hI (HV.out.below b1);clear ho
  all_goals
   go_wp2_with fail;refine(HTP.out w1).mono ?_;rintro e w2 ⟨rfl,hw0⟩;obtain rfl:=hw0.symm;go_wp2_with fail;refine(HSPL.out w1 HV1.out.env).mono ?_;rintro e w2 ⟨rfl,b2,hzp,hcp⟩;have HO2:=hI (z5t HO.out b2);have HPB:Hid (v.ownBlock≠some w1.heap.size):=fun h=>by
    have:=zez HO.out _ h;omega
   have HCP:=hI hcp;have HB2:=hI (b1.trans (b2.mono b1.size));have hw1z:=b1.size;clear hcp b1 b2 HO;go_wp2_with fail;go_loopw [7,27] (fun s i wr=>∃(q:Nat) (segs:List Bs),q≤parts.length∧i=.int .i64 q∧wr.ownsRow w.heap.size 9 1 s segs.length (z1J segs)∧s.ownBlock≠some w1.heap.size∧(∀(j:Nat) x,parts[j]?=some x→wr.cell? ⟨w1.heap.size,j,none⟩=some (.string ⟨x.toArray⟩))∧z0R sc segs (parts.drop q)=goal∧segs.length≤1000000+q∧(∀x∈segs,x.length≤1000000)∧Below w.heap.size w wr∧w1.heap.size<wr.heap.size) (fun _ i _=>parts.length-(intOf i).toNat)
   case atStart=>exact⟨0,begun,Nat.zero_le _,rfl,HO2.out,HPB.out,HCP.out,HE.out.symm,by omega,hbx,HB2.out,hzp⟩
   case round=>
    obtain⟨q,segs,hq,rfl,hown,hpb,hcp,hrest,hsl,hsx,hbw,hwz⟩:=hrel;obtain⟨sp2,cap2,hvf,hnc,hcm,hf2⟩:=z1t hown;subst hvf;have HO3:=hI hown;have HP3:=hI hpb;have HC3:=hI hcp;have HR3:=hI hrest;have HX3:=hI hsx;have HB3:=hI hbw;have HV3:=hI (HV.out.below hbw);have hbz:=hbw.size;unfold maxLen at hcm;clear hown hpb hcp hrest hsx hbw hf2;by_cases hlt:q<parts.length
    ·obtain⟨p,hp⟩:∃p,parts[q]?=some p:=⟨parts[q]'hlt,List.getElem?_eq_getElem hlt⟩
     have hcq:=HC3.out q p hp;have hpl:=HPL.out p (List.mem_of_getElem? hp);have HDR:Hid (parts.drop q=p::parts.drop (q+1)):=(by obtain⟨h1,h2⟩:=List.getElem?_eq_some_iff.1 hp;show _=_;rw[List.drop_eq_getElem_cons h1,h2]);have HLE:Hid ((parts.drop (q+1)).isEmpty=decide (q+1=parts.length)):=by
      show _=_;by_cases h:q+1=parts.length
      ·rw[List.drop_eq_nil_of_le (by omega),decide_eq_true h]
       rfl
      ·rw[decide_eq_false h]
       cases hd:parts.drop (q+1) with
       |nil=>have:=congrArg List.length hd;rw[List.length_drop] at this;simp at this;omega
       |cons a b=>rfl
     clear hp;have HDO:=hI (zm1 p wr (by omega) HV3.out.env);have KEEP:Hid (∀w3,Below wr.heap.size wr w3→w3.ownsRow w.heap.size 9 1 (.slice sp2 segs.length cap2) segs.length (z1J segs)∧(∀(j:Nat) x,parts[j]?=some x→w3.cell? ⟨w1.heap.size,j,none⟩=some (.string ⟨x.toArray⟩))∧Below w.heap.size w w3∧w1.heap.size<w3.heap.size∧Env2 w3):=by intro w3 h3;have hb:=HB3.out.trans (h3.mono hbz);refine⟨z5t HO3.out h3,fun j x hx=>?_,hb,Nat.lt_of_lt_of_le hwz h3.size,HV.out.below hb⟩;rw[h3.cell (p:=⟨w1.heap.size,j,none⟩) hwz];exact HC3.out j x hx
     rcases zgS p with hd|hd|hd
     ·have HD:Hid (z4F p=[]):=by show _=_;unfold z4F;rw[if_neg (by omega),if_neg (by omega)]
      have HST:Hid (z0R sc (segs++ [z2G sc p segs.isEmpty]) (parts.drop (q+1))=goal):=(by show _=_;rw[←HR3.out,HDR.out,z9m sc segs p _ hd]);have htsl:=zap sc p segs.isEmpty;have HTS:Hid (∀w3,Below wr.heap.size wr w3→CQ 252 #[.string ⟨sc.toArray⟩,.string ⟨p.toArray⟩,.bool segs.isEmpty] w3 (.string ⟨(z2G sc p segs.isEmpty).toArray⟩) (Below wr.heap.size wr)):=(by intro w3 h3;refine(zhv sc p segs.isEmpty w3 (by omega) (KEEP.out w3 h3).2.2.2.2.env).mono ?_;rintro e w' ⟨rfl,hb⟩;exact⟨rfl,h3.trans (hb.mono h3.size)⟩);have hfb:((segs.length:Int)==0)=segs.isEmpty:=by
       cases segs with
       |nil=>rfl
       |cons a b=>simp;omega
      rw[HD.out] at HDO;generalize z2G sc p segs.isEmpty=ts at*;generalize segs.isEmpty=fl at*;have e1:=z3B;clear hd HD;go_wp2_with fail;refine HDO.out.mono ?_;rintro e w3 ⟨rfl,b3⟩;go_wp2_with fail;refine(HTS.out w3 b3).mono ?_;rintro e w4 ⟨rfl,b4⟩;obtain⟨k1,k2,k3,k4,k5⟩:=KEEP.out w4 b4;have HK2:=hI k2;have HK3:=hI k3;have hk3:=k3.size;have HO4:=k1.alloc (.cells #[.string ⟨ts.toArray⟩] 9);clear k1 k2 k3 k5;go_wp2_with(at_builtin;refine wpList_append_lies _ rfl _ _ 28 rfl w.heap.size 9 i0 (.string ⟨#[]⟩) 1 16 underlying28 hi hz0 hz1 hz2 rfl (by decide) _ _ _ rfl HO4 ⟨w4.heap.size,0,none⟩ 1 1 [.string ⟨ts.toArray⟩] rfl rfl ?c1 ?c2 (by decide) ?c3 ?c4 ?c5 _ rfl ?_)
      case c1=>
       intro j u hj;match j,hj with
       |0,hj=>simp at hj;subst hj;exact World.cell?_alloc_new w4 #[.string ⟨ts.toArray⟩] 9 0
      case c2=>intro u hu;simp at hu;subst hu;rfl
      case c3=>unfold maxLen;omega
      case c4=>omega
      case c5=>simp;omega
      intro g cap3 w5 hown' hgrow hat hglt;have HOW:=hI hown';have HPN:Hid ((Value.slice (some ⟨g,0,none⟩) (segs.length+1) cap3).ownBlock≠some w1.heap.size):=by
       intro h;have hg:g=w1.heap.size:=(by simpa[Value.ownBlock] using h);rcases hat with h1|h1
       ·exact HP3.out (by rw[h1,hg])
       ·first|omega|(simp at h1;omega)
      have HCN:Hid (∀(j:Nat) x,parts[j]?=some x→w5.cell? ⟨w1.heap.size,j,none⟩=some (.string ⟨x.toArray⟩)):=(by intro j x hx;refine hgrow.cell ?_ (fun h=>HP3.out h.symm);rw[World.cell?_alloc_lt _ _ ⟨w1.heap.size,j,none⟩ k4];exact HK2.out j x hx);have HBN:=hI ((HK3.out.alloc hk3 _).grown hgrow (by simp;omega) (fun k hk=>(HO4.lt k hk).1));have hzn:w1.heap.size<w5.heap.size:=(by have:=hgrow.size;simp at this;omega);clear hown' hgrow HO4 hat;go_wp2;go_roundw
      case rel=>
       refine⟨q+1,segs++ [ts],by omega,by go_num,?_,?_,HCN.out,HST.out,by simp;omega,?_,HBN.out,hzn⟩
       ·rw[List.length_append,z4S]
        exact HOW.out
       ·exact HPN.out
       ·intro x hx
        rcases List.mem_append.1 hx with hx|hx
        ·exact HX3.out x hx
        ·simp at hx;subst hx;omega
      case measure=>(simp[intOf];try omega)
     ·have HD:Hid (z4F p=[46]):=by show _=_;unfold z4F;rw[if_pos hd]
      rw[HD.out] at HDO;have HX4:=hI HX3.out;have HP4:=hI HP3.out;by_cases hla:q+1=parts.length
      ·have HST:Hid (z0R sc (segs++ [[]]) (parts.drop (q+1))=goal):=by
        show _=_;rw[←HR3.out,HDR.out,z7K sc segs p _ hd,HLE.out,decide_eq_true hla];rfl
       have hlb:((q:Int)==(parts.length:Int)- 1)=true:=(by rw[beq_iff_eq];omega);clear hd HD HDR HLE;go_wp2_with fail;refine HDO.out.mono ?_;rintro e w4 ⟨rfl,b4⟩;obtain⟨k1,k2,k3,k4,k5⟩:=KEEP.out w4 b4;have HK2:=hI k2;have HK3:=hI k3;have hk3:=k3.size;have HO4:=k1.alloc (.cells #[.string ⟨#[]⟩] 9);clear k1 k2 k3 k5;go_wp2_with(at_builtin;refine wpList_append_lies _ rfl _ _ 28 rfl w.heap.size 9 i0 (.string ⟨#[]⟩) 1 16 underlying28 hi hz0 hz1 hz2 rfl (by decide) _ _ _ rfl HO4 ⟨w4.heap.size,0,none⟩ 1 1 [.string ⟨#[]⟩] rfl rfl ?c1 ?c2 (by decide) ?c3 ?c4 ?c5 _ rfl ?_)
       case c1=>
        intro j u hj;match j,hj with
        |0,hj=>simp at hj;subst hj;exact World.cell?_alloc_new w4 #[.string ⟨#[]⟩] 9 0
       case c2=>intro u hu;simp at hu;subst hu;rfl
       case c3=>unfold maxLen;omega
       case c4=>omega
       case c5=>simp;omega
       intro g cap3 w5 hown' hgrow hat hglt;have HOW:=hI hown';have HPN:Hid ((Value.slice (some ⟨g,0,none⟩) (segs.length+1) cap3).ownBlock≠some w1.heap.size):=by
        intro h;have hg:g=w1.heap.size:=(by simpa[Value.ownBlock] using h);rcases hat with h1|h1
        ·exact HP4.out (by rw[h1,hg])
        ·first|omega|(simp at h1;omega)
       have HCN:Hid (∀(j:Nat) x,parts[j]?=some x→w5.cell? ⟨w1.heap.size,j,none⟩=some (.string ⟨x.toArray⟩)):=(by intro j x hx;refine hgrow.cell ?_ (fun h=>HP4.out h.symm);rw[World.cell?_alloc_lt _ _ ⟨w1.heap.size,j,none⟩ k4];exact HK2.out j x hx);have HBN:=hI ((HK3.out.alloc hk3 _).grown hgrow (by simp;omega) (fun k hk=>(HO4.lt k hk).1));have hzn:w1.heap.size<w5.heap.size:=(by have:=hgrow.size;simp at this;omega);clear hown' hgrow HO4 hat;go_wp2;go_roundw
       case rel=>
        refine⟨q+1,segs++ [[]],by omega,by go_num,?_,?_,HCN.out,HST.out,by simp;omega,?_,HBN.out,hzn⟩
        ·rw[List.length_append,z4S]
         exact HOW.out
        ·exact HPN.out
        ·intro x hx
         rcases List.mem_append.1 hx with hx|hx
         ·exact HX4.out x hx
         ·simp at hx;subst hx;simp
       case measure=>(simp[intOf];try omega)
      ·have HST:Hid (z0R sc segs (parts.drop (q+1))=goal):=by
        show _=_;rw[←HR3.out,HDR.out,z7K sc segs p _ hd,HLE.out,decide_eq_false hla];simp
       have hlb:((q:Int)==(parts.length:Int)- 1)=false:=beq_eq_false_iff_ne.2 (by omega);clear hd HD HDR HLE;go_wp2_with fail;refine HDO.out.mono ?_;rintro e w4 ⟨rfl,b4⟩;obtain⟨k1,k2,k3,k4,k5⟩:=KEEP.out w4 b4;have HK1:=hI k1;have HK2:=hI k2;have HK3:=hI k3;clear k1 k2 k3 k5;go_wp2;go_roundw
       case rel=>exact⟨q+1,segs,by omega,by go_num,HK1.out,HP3.out,HK2.out,HST.out,by omega,HX3.out,HK3.out,k4⟩
       case measure=>(simp[intOf];try omega)
     ·have HD:Hid (z4F p=[46,46]):=by show _=_;unfold z4F;rw[if_neg (by omega),if_pos hd]
      rw[HD.out] at HDO;obtain⟨hwl,hwm⟩:=z5K sc segs;have HWL:Hid (∀w3,Below wr.heap.size wr w3→C0 253 #[.string ⟨sc.toArray⟩,.slice sp2 segs.length cap2] w3 (.slice sp2 (z08 sc segs).length cap2)):=by intro w3 h3;obtain⟨k1,_⟩:=KEEP.out w3 h3;refine z8s sc sp2 cap2 segs w3 hnc hcm (fun x hx=>by have:=HX3.out x hx;omega) ?_;intro j x hx;obtain⟨sp4,cap4,hv4,_,_,hf4⟩:=z1t k1;simp only[Value.slice.injEq] at hv4;obtain⟨rfl,_,rfl⟩:=hv4;obtain⟨g,rfl,hg⟩:=hf4 (by have:=(List.getElem?_eq_some_iff.1 hx).1;omega);refine⟨_,rfl,?_⟩;rw[zar];exact hg j _ (by unfold z1J;rw[List.getElem?_map,hx];rfl)
      have HOL:=hI fun w3 h3=>zeA sc (KEEP.out w3 h3).1;have HX4:=hI fun x hx=>HX3.out x (hwm x hx);have HP4:Hid ((Value.slice sp2 (z08 sc segs).length cap2).ownBlock≠some w1.heap.size):=zcu (HP3.out);have HT2:Hid (z0R sc (z08 sc segs++(if(parts.drop (q+1)).isEmpty then [[]] else [])) (parts.drop (q+1))=goal):=(by show _=_;rw[←HR3.out,HDR.out,zaq sc segs p _ hd]);clear hd HD HDR hwm;generalize z08 sc segs=less at*;by_cases hla:q+1=parts.length
      ·have HST:Hid (z0R sc (less++ [[]]) (parts.drop (q+1))=goal):=by
        have:=HT2.out;rw[HLE.out,decide_eq_true hla] at this;exact this
       have hlb:((q:Int)==(parts.length:Int)- 1)=true:=(by rw[beq_iff_eq];omega);clear HLE HT2;go_wp2_with fail;refine HDO.out.mono ?_;rintro e w4 ⟨rfl,b4⟩;go_wp2_with fail;refine(HWL.out w4 b4).mono ?_;rintro e w6 ⟨rfl,hw6⟩;obtain rfl:=hw6.symm;obtain⟨_,k2,k3,k4,k5⟩:=KEEP.out w4 b4;have k1:=HOL.out w4 b4;have HK2:=hI k2;have HK3:=hI k3;have hk3:=k3.size;have HO4:=k1.alloc (.cells #[.string ⟨#[]⟩] 9);clear k1 k2 k3 k5;go_wp2_with(at_builtin;refine wpList_append_lies _ rfl _ _ 28 rfl w.heap.size 9 i0 (.string ⟨#[]⟩) 1 16 underlying28 hi hz0 hz1 hz2 rfl (by decide) _ _ _ rfl HO4 ⟨w4.heap.size,0,none⟩ 1 1 [.string ⟨#[]⟩] rfl rfl ?c1 ?c2 (by decide) ?c3 ?c4 ?c5 _ rfl ?_)
       case c1=>
        intro j u hj;match j,hj with
        |0,hj=>simp at hj;subst hj;exact World.cell?_alloc_new w4 #[.string ⟨#[]⟩] 9 0
       case c2=>intro u hu;simp at hu;subst hu;rfl
       case c3=>unfold maxLen;omega
       case c4=>omega
       case c5=>simp;omega
       intro g cap3 w5 hown' hgrow hat hglt;have HOW:=hI hown';have HPN:Hid ((Value.slice (some ⟨g,0,none⟩) (less.length+1) cap3).ownBlock≠some w1.heap.size):=by
        intro h;have hg:g=w1.heap.size:=(by simpa[Value.ownBlock] using h);rcases hat with h1|h1
        ·exact HP4.out (by rw[h1,hg])
        ·first|omega|(simp at h1;omega)
       have HCN:Hid (∀(j:Nat) x,parts[j]?=some x→w5.cell? ⟨w1.heap.size,j,none⟩=some (.string ⟨x.toArray⟩)):=(by intro j x hx;refine hgrow.cell ?_ (fun h=>HP4.out h.symm);rw[World.cell?_alloc_lt _ _ ⟨w1.heap.size,j,none⟩ k4];exact HK2.out j x hx);have HBN:=hI ((HK3.out.alloc hk3 _).grown hgrow (by simp;omega) (fun k hk=>(HO4.lt k hk).1));have hzn:w1.heap.size<w5.heap.size:=(by have:=hgrow.size;simp at this;omega);clear hown' hgrow HO4 hat;go_wp2;go_roundw
       case rel=>
        refine⟨q+1,less++ [[]],by omega,by go_num,?_,?_,HCN.out,HST.out,by simp;omega,?_,HBN.out,hzn⟩
        ·rw[List.length_append,z4S]
         exact HOW.out
        ·exact HPN.out
        ·intro x hx
         rcases List.mem_append.1 hx with hx|hx
         ·exact HX4.out x hx
         ·simp at hx;subst hx;simp
       case measure=>(simp[intOf];try omega)
      ·have HST:Hid (z0R sc less (parts.drop (q+1))=goal):=by
        have:=HT2.out;rw[HLE.out,decide_eq_false hla] at this;show _=_;simpa using this
       have hlb:((q:Int)==(parts.length:Int)- 1)=false:=beq_eq_false_iff_ne.2 (by omega);clear HLE HT2;go_wp2_with fail;refine HDO.out.mono ?_;rintro e w4 ⟨rfl,b4⟩;go_wp2_with fail;refine(HWL.out w4 b4).mono ?_;rintro e w6 ⟨rfl,hw6⟩;obtain rfl:=hw6.symm;obtain⟨_,k2,k3,k4,k5⟩:=KEEP.out w4 b4;have HK1:=hI (HOL.out w4 b4);have HK2:=hI k2;have HK3:=hI k3;clear k2 k3 k5;go_wp2;go_roundw
       case rel=>exact⟨q+1,less,by omega,by go_num,HK1.out,HP4.out,HK2.out,HST.out,by omega,HX4.out,HK3.out,k4⟩
       case measure=>(simp[intOf];try omega)
    ·have HG:Hid (segs=goal):=by
      show _=_;rw[←HR3.out,List.drop_eq_nil_of_le (by omega)];rfl
     go_wp2;go_ret;rw[←HG.out];exact⟨⟨_,rfl,HO3.out⟩,HB3.out⟩
structure But (k:Nat) (w w':World):Prop where
 os:w'.os=w.os
 tape:w'.tape=w.tape
 output:w'.output=w.output
 size:w.heap.size≤w'.heap.size
 block:∀j,j<w.heap.size→j≠k→w'.heap[j]?=w.heap[j]?
theorem But.trans {k:Nat} {a b c:World} (h1:But k a b) (h2:But k b c):But k a c:=
 ⟨h2.os.trans h1.os,h2.tape.trans h1.tape,h2.output.trans h1.output,Nat.le_trans h1.size h2.size,fun j hj hn=>(h2.block j (Nat.lt_of_lt_of_le hj h1.size) hn).trans (h1.block j hj hn)⟩
theorem But.of_below {k:Nat} {a b:World} (h:Below a.heap.size a b):But k a b:=⟨h.os,h.tape,h.output,h.size,fun j hj _=>h.block j hj⟩
theorem But.setCell {k:Nat} {a b:World} (h:But k a b) (i:Nat) (v:Value):But k a (b.setCell ⟨k,i,none⟩ v):=
 ⟨h.os,h.tape,h.output,by simpa using h.size,fun j hj hn=>(heap_setCell_other b ⟨k,i,none⟩ j v hn).trans (h.block j hj hn)⟩
theorem But.below {k:Nat} {a b:World} (h:But k a b) (hk:k≤a.heap.size):Below k a b:=⟨h.os,h.tape,h.output,h.size,fun j hj=>h.block j (by omega) (by omega)⟩
theorem z3J {fn:Func} (h:fn.results=#[]) (tmps:Array Value) (P:Program) (w:World):(results fn tmps).run P w=.ok (.tuple #[]) w:=by simp[results,h]
theorem z35 (k:Nat) (sc t:Bs) (c1 c2 c3 c4 c5 c6 c7 c8 c9 c10 c11 c12:Value) (sp:Option Go.Addr) (cap:Nat) (begun:List Bs) (w:World) (ht:t.length≤100000) (hbl:begun.length≤1000000) (hbx:∀x∈begun,x.length≤1000000) (hk:w.heap[k]?=some (.cells #[.string ⟨sc.toArray⟩,c1,c2,c3,c4,c5,c6,c7,c8,c9,c10,c11,c12] 77 (0,0))) (hform:begun≠[]→∃g,sp=some ⟨g,0,none⟩∧∀(j:Nat) x,begun[j]?=some x→w.cell? ⟨g,j,none⟩=some (.string ⟨x.toArray⟩)) (henv:Tryz.Env2 w):Calls Tryz.prog 163 #[.pointer (some ⟨k,0,none⟩),.slice sp begun.length cap,.string ⟨t.toArray⟩] w fun e w'=>e=.returned (.tuple #[])∧But k w w'∧∃v,w'.heap[k]?=some (.cells #[.string ⟨sc.toArray⟩,c1,c2,c3,c4,c5,.bool false,.string ⟨#[]⟩,v,c9,c10,c11,c12] 77 (0,0))∧w'.ownsRow w.heap.size 9 1 v (z0z sc begun t).length (z1J (z0z sc begun t)):=by have HR:=hI (z86 sc t sp cap begun w ht hbl hbx hform henv);have hkz:=(Array.getElem?_eq_some_iff.1 hk).1;have HK:Hid (∀w1,Below w.heap.size w w1→w1.heap[k]?=some (.cells #[.string ⟨sc.toArray⟩,c1,c2,c3,c4,c5,c6,c7,c8,c9,c10,c11,c12] 77 (0,0))):=fun w1 h1=>(h1.block k hkz).trans hk;have h0:w.cell? ⟨k,0,none⟩=some (.string ⟨sc.toArray⟩):=z00 hk 0;generalize z0z sc begun t=segs at*;clear hform henv ht hbl hbx hk;go_enter Tryz.func163,Tryz.ntmps163;go_wp2_with fail;refine HR.out.mono ?_;rintro e w1 ⟨⟨v,rfl,ho⟩,b1⟩;have HO:=hI ho;have HB:=hI b1;have hk1:=HK w1 b1;have HK1:=hI hk1;have d6:w1.cell? ⟨k,6,none⟩=some c6:=z00 hk1 6;have d7:w1.cell? ⟨k,7,none⟩=some c7:=z00 hk1 7;have d8:w1.cell? ⟨k,8,none⟩=some c8:=z00 hk1 8;have f6:=z04 hk1 6;have f7:=z04 hk1 7;have f8:=z04 hk1 8;obtain⟨sp2,cap2,hvf,_⟩:=z1t ho;subst hvf;clear ho b1 hk1;go_wp2;have g6:=heap_setCell_same w1 k 6 _ 77 (.bool false) HK1;have g7:=heap_setCell_same _ k 7 _ 77 (.string ⟨#[]⟩) g6;have g8:=heap_setCell_same _ k 8 _ 77 (.slice sp2 segs.length cap2) g7;have hbut:=(((But.of_below (k:=k) HB).setCell 6 (.bool false)).setCell 7 (.string ⟨#[]⟩)).setCell 8 (.slice sp2 segs.length cap2);have ho2:=ownsRow_setCell_below (ownsRow_setCell_below (ownsRow_setCell_below HO (a:=⟨k,6,none⟩) hkz (.bool false)) (a:=⟨k,7,none⟩) hkz (.string ⟨#[]⟩)) (a:=⟨k,8,none⟩) hkz (.slice sp2 segs.length cap2);exact bodyPost_end (v:=.tuple #[]) (z3J rfl _ _ _) rfl ⟨rfl,hbut,_,g8,ho2⟩
theorem But.mono_own {w:World} {b b':Nat} {e:TypeId} {v:Value} {n:Nat} {xs:List Value} (h:w.ownsRow b e 1 v n xs) (hb:b'≤b):w.ownsRow b' e 1 v n xs:=by
 refine⟨h.1,?_⟩;rcases h.2 with h1|⟨g,cap,cur,h1,h2,h3⟩
 ·exact Or.inl h1
 ·exact Or.inr ⟨g,cap,cur,h1,Nat.le_trans hb h2,h3⟩
theorem But.alloc {k:Nat} {a b:World} (h:But k a b) (o:Obj):But k a (b.alloc o):=by refine⟨h.os,h.tape,h.output,by have:=h.size;simp;omega,fun j hj hn=>?_⟩;rw[←h.block j hj hn];have:=h.size;simp only[World.alloc,Array.getElem?_push];rw[if_neg (by omega)]
theorem z4z (w:World) (o:Obj) (k:Nat) (h:k<w.heap.size):(w.alloc o).heap[k]?=w.heap[k]?:=by simp only[World.alloc,Array.getElem?_push];rw[if_neg (by omega)]
theorem Tryz.Env.same {w w':World} (h:Tryz.Env w) (hz:w.heap.size≤w'.heap.size) (H:∀g,g<29→w'.heap[g]?=w.heap[g]?):Tryz.Env w':=by
 have hc:=fun g i hg=>World.cell?_of_block (a:=⟨g,i,none⟩) (H g hg);have he:∀g,g<29→Tryz.Err g w→Tryz.Err g w':=by rintro g hg ⟨t,v,h1⟩;exact⟨t,v,by rw[hc g 0 hg];exact h1⟩
 obtain⟨m,hm⟩:=h.maxLen;refine⟨Nat.le_trans h.size hz,?_,⟨m,by rw[hc _ 0 (by omega)];exact hm⟩,he _ (by omega) h.eEmpty,he _ (by omega) h.eBracket,he _ (by omega) h.eCount,he _ (by omega) h.eLength,he _ (by omega) h.eNought,he _ (by omega) h.eGreat,?_,by rw[hc _ 0 (by omega)];exact h.errType⟩
 ·intro j hj
  rw[hc _ j (by omega)];exact h.sets j hj
 ·have:=h.pow10
  unfold Lib.TabIs at this⊢;rw[←this];simp only[World.var?,zj3,Option.bind_some,H 20 (by omega)]
theorem Tryz.Env2.same {w w':World} (h:Tryz.Env2 w) (hz:w.heap.size≤w'.heap.size) (H:∀g,g<29→w'.heap[g]?=w.heap[g]?):Tryz.Env2 w':=by
 have hc:=fun g i hg=>World.cell?_of_block (a:=⟨g,i,none⟩) (H g hg);have he:∀g,g<29→Tryz.Err g w→Tryz.Err g w':=by rintro g hg ⟨t,v,h1⟩;exact⟨t,v,by rw[hc g 0 hg];exact h1⟩
 refine⟨h.env.same hz H,?_,⟨fun c hx=>?_,fun i hi=>⟨?_,?_⟩⟩,he _ (by omega) h.eBase,he _ (by omega) h.eOpaque,he _ (by omega) h.eHost,he _ (by omega) h.eSyntax,he _ (by omega) h.eRange⟩
 ·show _=_
  rw[hc _ 15 (by omega)];exact h.tz
 ·rw[hc _ c (by omega)]
  exact h.u8.1 c hx
 ·rw[hc _ (2*i) (by omega)]
  exact(h.u8.2 i hi).1
 ·rw[hc _ (2*i+1) (by omega)]
  exact(h.u8.2 i hi).2
theorem Tryz.Env2.but {k:Nat} {w w':World} (h:Tryz.Env2 w) (hb:But k w w') (hk:29≤k):Tryz.Env2 w':=h.same hb.size fun g hg=>hb.block g (by have:=h.env.size;omega) (by omega)
def z5B (k:Nat) (sc:Bs) (c9 c10 c11 c12:Value) (B:Nat) (o:Except Int (Auth×Moor.Way)) (e:Ending) (w':World):Prop:=
 match o with
 | .error n=>∃x y te ve,e=.returned (.iface 96 (.agg #[.int .i64 n,.string x,.string y,.iface te ve]))
 | .ok (a,y)=>e=.returned .nilIface∧∃v,w'.heap[k]?=some (.cells #[.string ⟨sc.toArray⟩,.string ⟨a.user.toArray⟩,.string ⟨a.pass.toArray⟩,.bool a.has,.string ⟨a.host.toArray⟩,.int .i64 a.port,.bool false,.string ⟨#[]⟩,v,c9,c10,c11,c12] 77 (0,0))∧w'.ownsRow B 9 1 v y.segs.length (z1J y.segs)∧y.opaq=false∧y.text=[]
theorem z6C (k:Nat) (sc t:Bs) (c1 c2 c3 c4 c5 c6 c7 c8 c9 c10 c11 c12:Value) (w:World) (ht:t.length≤100000) (hk:w.heap[k]?=some (.cells #[.string ⟨sc.toArray⟩,c1,c2,c3,c4,c5,c6,c7,c8,c9,c10,c11,c12] 77 (0,0))) (hkg:29≤k) (henv:Tryz.Env2 w):Calls Tryz.prog 246 #[.pointer (some ⟨k,0,none⟩),.string ⟨t.toArray⟩] w fun e w'=>But k w w'∧z5B k sc c9 c10 c11 c12 w.heap.size (z0Q hostTell sc t) e w'∧(∀n,z0Q hostTell sc t=.error n→w'.heap[k]?=w.heap[k]?):=by
 have hkz:=(Array.getElem?_eq_some_iff.1 hk).1;have HCS:Hid (Calls Tryz.prog 281 #[.string ⟨t.toArray⟩] w fun e w'=>e=.returned (.tuple #[.string ⟨(z0l t).1.toArray⟩,.string ⟨(z0l t).2.toArray⟩])∧Below w.heap.size w w'):=by refine(z4J t w).mono ?_;rintro e w' ⟨rfl,n,rfl⟩;exact⟨rfl,z4l _ _ _⟩
 have hl:=cutSlash_len t;have HE:Hid (z0Q hostTell sc t=match z2i hostTell (z0l t).1 sc with| .error e=>.error e| .ok a=>.ok (a,z0M sc [] (z0l t).2)):=rfl;generalize(z0l t).1=ah at*;generalize(z0l t).2=be at*;have HRA:Hid (∀w1,Below w.heap.size w w1→Calls Tryz.prog 282 #[.string ⟨ah.toArray⟩,.string ⟨sc.toArray⟩] w1 fun e w'=>zeo (z2i hostTell ah sc) e∧Below w.heap.size w w'):=by intro w1 h1;refine(z7I ah sc w1 (by omega) (henv.below h1)).mono ?_;rintro e w' ⟨hr,hb⟩;exact⟨hr,h1.trans (hb.mono h1.size)⟩
 have HK:Hid (∀w1,Below w.heap.size w w1→w1.heap[k]?=some (.cells #[.string ⟨sc.toArray⟩,c1,c2,c3,c4,c5,c6,c7,c8,c9,c10,c11,c12] 77 (0,0))):=fun w1 h1=>(h1.block k hkz).trans hk;have HRP:Hid (∀(a:Auth) w1,But k w w1→Tryz.Env2 w1→w1.heap[k]?=some (.cells #[.string ⟨sc.toArray⟩,.string ⟨a.user.toArray⟩,.string ⟨a.pass.toArray⟩,.bool a.has,.string ⟨a.host.toArray⟩,.int .i64 a.port,c6,c7,c8,c9,c10,c11,c12] 77 (0,0))→Calls Tryz.prog 163 #[.pointer (some ⟨k,0,none⟩),.slice none 0 0,.string ⟨be.toArray⟩] w1 fun e w'=>e=.returned (.tuple #[])∧But k w w'∧∃v,w'.heap[k]?=some (.cells #[.string ⟨sc.toArray⟩,.string ⟨a.user.toArray⟩,.string ⟨a.pass.toArray⟩,.bool a.has,.string ⟨a.host.toArray⟩,.int .i64 a.port,.bool false,.string ⟨#[]⟩,v,c9,c10,c11,c12] 77 (0,0))∧w'.ownsRow w.heap.size 9 1 v (z0z sc [] be).length (z1J (z0z sc [] be))):=by intro a w1 h1 hv hh;refine(z35 k sc be _ _ _ _ _ c6 c7 c8 c9 c10 c11 c12 none 0 [] w1 (by omega) (by simp) (by simp) hh (by simp) hv).mono ?_;rintro e w' ⟨rfl,hb,v,h2,h3⟩;exact⟨rfl,h1.trans hb,v,h2,But.mono_own h3 h1.size⟩
 have HV:=hI henv;have h0:∀w1,Below w.heap.size w w1→w1.cell? ⟨k,0,none⟩=some (.string ⟨sc.toArray⟩):=fun w1 h1=>z00 (HK w1 h1) 0;have H0:=hI h0;clear h0 henv hk hl ht;cases hra:z2i hostTell ah sc with
 |error n=>
  have HE2:Hid (z0Q hostTell sc t=.error n):=by show _=_;rw[HE.out,hra]
  rw[hra] at HRA;clear hra HE;go_enter Tryz.func246,Tryz.ntmps246;go_wp2_with fail;refine HCS.out.mono ?_;rintro e w1 ⟨rfl,b1⟩;have d0:=H0 w1 b1;go_wp2_with fail;refine(HRA w1 b1).mono ?_;rintro e w2 ⟨⟨x,y,te,ve,rfl⟩,b2⟩;unfold z22;go_wp2;go_ret;rw[HE2.out];exact⟨(But.of_below b2).alloc _,⟨_,_,_,_,rfl⟩,fun _ _=>(z4z _ _ k (Nat.lt_of_lt_of_le hkz b2.size)).trans (b2.block k hkz)⟩
 |ok a=>
  have HE2:Hid (z0Q hostTell sc t=.ok (a,z0M sc [] be)):=by show _=_;rw[HE.out,hra]
  rw[hra] at HRA;clear hra HE;go_enter Tryz.func246,Tryz.ntmps246;go_wp2_with fail;refine HCS.out.mono ?_;rintro e w1 ⟨rfl,b1⟩;have d0:=H0 w1 b1;go_wp2_with fail;refine(HRA w1 b1).mono ?_;rintro e w2 ⟨he,b2⟩;have he2:e=.returned (.tuple #[.agg #[.string ⟨a.user.toArray⟩,.string ⟨a.pass.toArray⟩,.bool a.has,.string ⟨a.host.toArray⟩,.int .i64 a.port],.nilIface]):=he;subst he2;have hk2:=HK w2 b2;have HK2:=hI hk2;have HB2:=hI b2;have hz2:=Nat.lt_of_lt_of_le hkz b2.size;have e1:w2.cell? ⟨k,1,none⟩=some c1:=z00 hk2 1;have e2:w2.cell? ⟨k,2,none⟩=some c2:=z00 hk2 2;have e3:w2.cell? ⟨k,3,none⟩=some c3:=z00 hk2 3;have e4:w2.cell? ⟨k,4,none⟩=some c4:=z00 hk2 4;have e5:w2.cell? ⟨k,5,none⟩=some c5:=z00 hk2 5;have f1:=z04 hk2 1;have f2:=z04 hk2 2;have f3:=z04 hk2 3;have f4:=z04 hk2 4;have f5:=z04 hk2 5;clear he b1 b2 hk2 d0;have g1:=heap_setCell_same w2 k 1 _ 77 (.string ⟨a.user.toArray⟩) HK2;have g2:=heap_setCell_same _ k 2 _ 77 (.string ⟨a.pass.toArray⟩) g1;have g3:=heap_setCell_same _ k 3 _ 77 (.bool a.has) g2;have g4:=heap_setCell_same _ k 4 _ 77 (.string ⟨a.host.toArray⟩) g3;have g5:=heap_setCell_same _ k 5 _ 77 (.int .i64 a.port) g4;have hbut:=((((((But.of_below (k:=k) HB2).setCell 1 (.string ⟨a.user.toArray⟩)).setCell 2 (.string ⟨a.pass.toArray⟩)).setCell 3 (.bool a.has)).setCell 4 (.string ⟨a.host.toArray⟩)).setCell 5 (.int .i64 a.port)).alloc (.cells #[.string ⟨a.user.toArray⟩,.string ⟨a.pass.toArray⟩,.bool a.has,.string ⟨a.host.toArray⟩,.int .i64 a.port] 71);have HRP2:=HRP a _ hbut (HV.out.but hbut hkg) ((z4z _ _ k (by simpa using hz2)).trans g5);have HRP3:Hid _:=HRP2;clear g1 g2 g3 g4 g5 hbut HRP2;go_wp2_with fail;refine Calls.mono HRP3 ?_;rintro e w3 ⟨rfl,hb3,v,h3,ho3⟩;have HF:Hid (z5B k sc c9 c10 c11 c12 w.heap.size (.ok (a,z0M sc [] be)) (.returned .nilIface) w3):=⟨rfl,v,h3,ho3,rfl,rfl⟩;have HB3:=hI hb3;clear hb3 h3 ho3;go_wp2;go_ret;rw[HE2.out];exact⟨HB3,HF,fun n h=>by cases h⟩
theorem zkB (o:Option Bs) (m:UInt8) (w:World) (hs:(o.getD []).length<4294967281):Calls Tryz.prog 92 #[.agg (z65 o),.string ⟨#[m]⟩] w fun e w'=>e=.returned (.string ⟨(z1b m o).toArray⟩)∧Below w.heap.size w w':=by
 unfold z65;cases o with
 |none=>go_enter Tryz.func92,Tryz.ntmps92;go_wp2;go_ret;exact⟨rfl,(Below.refl _ _).alloc (Nat.le_refl _) _⟩
 |some x=>have hs2:x.length<4294967281:=hs;have HA:Hid ((⟨#[m]⟩:ByteArray)++⟨x.toArray⟩=⟨(m::x).toArray⟩):=z0G [m] x;show Calls Tryz.prog 92 #[.agg #[.bool true,.string ⟨x.toArray⟩],.string ⟨#[m]⟩] w _;go_enter Tryz.func92,Tryz.ntmps92;go_wp2;go_ret;exact⟨congrArg (fun y=>Ending.returned (Value.string y)) HA,(Below.refl _ _).alloc (Nat.le_refl _) _⟩
theorem z9n (a:Auth) (w:World) (hu:a.user.length<4294967281) (hp:a.pass.length<4294967281):Calls Tryz.prog 150 #[.agg (z1G a)] w fun e w'=>e=.returned (.string ⟨(z16 a).toArray⟩)∧Below w.heap.size w w':=by
 obtain⟨us,pa,ha,ho,po⟩:=a;unfold z1G;simp only at hu hp⊢;have HB:Hid (∀o:Obj,Below w.heap.size w (w.alloc o)):=fun o=>(Below.refl _ _).alloc (Nat.le_refl _) o;by_cases hpe:pa=[]
 ·subst hpe
  have e1:=z3B;by_cases hue:us=[]
  ·subst hue
   have HE:Hid (z16 ⟨[],[],ha,ho,po⟩=[]):=rfl;go_enter Tryz.func150,Tryz.ntmps150;go_wp2;go_ret;rw[HE.out];exact⟨rfl,HB _⟩
  ·have e2:=z3Z us hue
   have HE:Hid (z16 ⟨us,[],ha,ho,po⟩=us++ [64]):=(by show _=_;unfold z16;rw[if_neg (by simp),if_pos hue]);have HA:Hid _:=z0G us [64];have hsz:=z07 us;obtain⟨s,hsd⟩:=z09 (⟨us.toArray⟩:ByteArray);rw[←hsd] at e2 HA hsz⊢;clear hsd hue;go_enter Tryz.func150,Tryz.ntmps150;go_wp2;go_ret;rw[HE.out];exact⟨congrArg (fun y=>Ending.returned (Value.string y)) HA,HB _⟩
 ·have e1:=z3Z pa hpe
  have HE:Hid (z16 ⟨us,pa,ha,ho,po⟩=us++58::(pa++ [64])):=by show _=_;unfold z16;rw[if_pos hpe]
  have HA:Hid (((⟨us.toArray⟩:ByteArray)++⟨#[58]⟩)++⟨pa.toArray⟩++⟨#[64]⟩=⟨(us++58::(pa++ [64])).toArray⟩):=by show _=_;have h1:=z0G us [58];rw[h1,z0G (us++ [58]) pa];have h2:(⟨(us++ [58]++pa).toArray⟩:ByteArray)++⟨#[64]⟩=⟨((us++ [58]++pa)++ [64]).toArray⟩:=z0G _ [64];rw[h2];simp
  have hsz:=z07 us;have hsp:=z07 pa;obtain⟨s,hsd⟩:=z09 (⟨us.toArray⟩:ByteArray);obtain⟨r,hrd⟩:=z09 (⟨pa.toArray⟩:ByteArray);rw[←hsd] at HA hsz⊢;rw[←hrd] at e1 HA hsp⊢;clear hsd hrd hpe;go_enter Tryz.func150,Tryz.ntmps150;go_wp2;go_ret;rw[HE.out];exact⟨congrArg (fun y=>Ending.returned (Value.string y)) HA,HB _⟩
theorem below_grow (w:World) (n:Nat) (os:Array Obj):Below w.heap.size w (Go.Sort.grow (w.drewN n) os):=by
 refine⟨rfl,rfl,rfl,?_,fun j hj=>?_⟩
 ·show w.heap.size≤(w.heap++os).size
  rw[Array.size_append];omega
 ·show(w.heap++os)[j]?=w.heap[j]?
  rw[Array.getElem?_append_left hj]
theorem zkC (p:Nat):Lib.itoa (p:Int)=Lib.decDigits p:=by unfold Lib.itoa;rw[if_neg (by omega)];simp
theorem z74 (n:Nat) (h:n≤65535):(Lib.decDigits n).length≤10:=by rw[←z69 9 n (by omega)];exact z4u 10 9 n
theorem z9o (a:Auth) (w:World) (hh:a.host.length<4294967281) (hp:a.port= -1∨(0≤a.port∧a.port≤65535)) (henv:Tryz.Env2 w):Calls Tryz.prog 127 #[.agg (z1G a)] w fun e w'=>e=.returned (.string ⟨(z1m a).toArray⟩)∧Below w.heap.size w w':=by
 obtain⟨us,pa,ha,ho,po⟩:=a;unfold z1G;simp only at hh hp⊢;have HB:Hid (∀o:Obj,Below w.heap.size w (w.alloc o)):=fun o=>(Below.refl _ _).alloc (Nat.le_refl _) o;by_cases hpo:po= -1
 ·subst hpo
  have HE:Hid (z1m ⟨us,pa,ha,ho, -1⟩=ho):=by show _=_;unfold z1m;rw[if_pos rfl]
  go_enter Tryz.func127,Tryz.ntmps127;go_wp2;go_ret;rw[HE.out];exact⟨rfl,HB _⟩
 ·obtain⟨n,rfl⟩:∃n:Nat,po=(n:Int):=⟨po.toNat,by omega⟩
  have hn:n≤65535:=by omega
  have HE:Hid (z1m ⟨us,pa,ha,ho,(n:Int)⟩=ho++58::Lib.decDigits n):=by show _=_;unfold z1m;rw[if_neg hpo];show ho++58::Lib.decDigits ((n:Int).toNat)=_;rw[Int.toNat_natCast]
  have hne:=beq_eq_false_iff_ne.2 hpo;obtain⟨W,hW⟩:=z09 (w.alloc (.cells #[.string ⟨us.toArray⟩,.string ⟨pa.toArray⟩,.bool ha,.string ⟨ho.toArray⟩,.int .i64 (n:Int)] 71));have HBW:Hid (Below w.heap.size w W):=by rw[hW];exact HB _
  have hWz:W.heap.size=w.heap.size+1:=by rw[hW];simp
  have HI:Hid (∀w0,Below W.heap.size W w0→Calls Tryz.prog 106 #[.int .i64 (n:Int)] w0 fun e w'=>e=.returned (.string ⟨(Lib.decDigits n).toArray⟩)∧Below W.heap.size W w'):=by intro w0 h0;have hv:=(henv.below (HBW.out.trans (h0.mono (by omega)))).env;refine(Tryz.strconv_Itoa (n:Int) (by omega) (by omega) w0 hv.pow10).mono ?_;rintro e w' ⟨rfl,k,os,rfl⟩;exact⟨by rw[zkC],h0.trans ((below_grow _ _ _).mono h0.size)⟩
  have HC:Hid (∀w1,Below W.heap.size W w1→w1.cell? ⟨w.heap.size,3,none⟩=some (.string ⟨ho.toArray⟩)∧w1.cell? ⟨w.heap.size,4,none⟩=some (.int .i64 (n:Int))):=by
   intro w1 h1;have k0:w1.heap[w.heap.size]?=some (.cells #[.string ⟨us.toArray⟩,.string ⟨pa.toArray⟩,.bool ha,.string ⟨ho.toArray⟩,.int .i64 (n:Int)] 71 (0,0)):=by rw[h1.block w.heap.size (by omega),hW];exact z0K w _ _
   exact⟨z00 k0 3,z00 k0 4⟩
  have HA:Hid ((⟨ho.toArray⟩:ByteArray)++⟨#[58]⟩++⟨(Lib.decDigits n).toArray⟩=⟨(ho++58::Lib.decDigits n).toArray⟩):=by show _=_;have h1:=z0G ho [58];rw[h1,z0G (ho++ [58]) _];simp
  have hdl:=z74 n hn;generalize Lib.decDigits n=D at*;obtain⟨c3,c4⟩:=HC W (Below.refl _ _);clear henv hp hpo;go_enter Tryz.func127,Tryz.ntmps127;go_wp2_with fail;rw[←hW];clear hW;go_region_with (go_at_call 106;refine Calls.mono (HI _ (by exact z1x rfl rfl rfl rfl)) ?_;rintro e w1 ⟨rfl,b1⟩;obtain⟨d3,d4⟩:=HC w1 b1);all_goals
   go_wp2;go_ret;rw[HE.out];exact⟨congrArg (fun y=>Ending.returned (Value.string y)) HA,HBW.out.trans (b1.mono (by omega))⟩
def zbr:Bs:=[108,111,99,97,108,104,111,115,116]
theorem z80 (t:Bs) (w:World) (hs:t.length<4294967281) (henv:Tryz.Env2 w):Calls Tryz.prog 211 #[.string ⟨t.toArray⟩] w fun e w'=>z9b 4 (z1v hostTell t) e∧Below w.heap.size w w':=by
 have HT:=hI (zdR ⟨t.toArray⟩ true w (by rw[z07];exact hs) henv.env henv.tz);clear henv hs;by_cases ht:t=[]
 ·subst ht
  have HE:Hid (z1v hostTell []=some []):=rfl;have e1:=z3B;go_enter Tryz.func211,Tryz.ntmps211;go_wp2;go_ret2;rw[HE.out];exact⟨rfl,Below.refl _ _⟩
 ·have HE:Hid (z1v hostTell t=match hostTell t true with|none=>none|some h=>if h=zbr then some [] else some h):=by
   show _=_;unfold z1v;rw[if_neg ht];rfl
  have e1:=z3Z t ht;generalize hostTell t true=o at*;obtain⟨s,hsd⟩:=z09 (⟨t.toArray⟩:ByteArray);rw[←hsd] at e1 HT⊢;clear ht hsd;cases o with
  |none=>have HE2:=hI HE;clear HE;go_enter Tryz.func211,Tryz.ntmps211;go_wp2_with fail;refine HT.out.mono ?_;rintro e w1 ⟨⟨t2,v2,rfl⟩,b1⟩;go_wp2;go_ret2;rw[HE2.out];exact⟨⟨_,_,_,_,rfl⟩,b1⟩
  |some h=>
   by_cases hl:h=zbr
   ·have HE2:Hid (z1v hostTell t=some []):=by
     have:=HE;simp only at this;rw[if_pos hl] at this;exact this
    subst hl;clear HE;unfold zbr at HT;go_enter Tryz.func211,Tryz.ntmps211;go_wp2_with fail;refine HT.out.mono ?_;rintro e w1 ⟨he,b1⟩;have he2:e=.returned (.tuple #[.string ⟨#[108,111,99,97,108,104,111,115,116]⟩,.nilIface]):=he;subst he2;go_wp2;go_ret2;rw[HE2.out];exact⟨rfl,b1⟩
   ·have HE2:Hid (z1v hostTell t=some h):=by
     have:=HE;simp only at this;rw[if_neg hl] at this;exact this
    have e2:=z38 h _ hl;unfold zbr at e2;obtain⟨r,hrd⟩:=z09 (⟨h.toArray⟩:ByteArray);rw[←hrd] at e2;have HRD:=hI hrd;clear HE hl hrd;go_enter Tryz.func211,Tryz.ntmps211;go_wp2_with fail;refine HT.out.mono ?_;rintro e w1 ⟨he,b1⟩;have he2:e=.returned (.tuple #[.string r,.nilIface]):=(by rw[HRD.out];exact he);subst he2;clear he;go_wp2;go_ret2;rw[HE2.out,HRD.out];exact⟨rfl,b1⟩
def z5A (k:Nat) (sc:Bs) (c1 c2 c3 c5 c9 c10 c11 c12:Value) (B:Nat) (o:Except Int (Value×List Bs)) (e:Ending) (w':World):Prop:=
 match o with
 | .error n=>∃x y te ve,e=.returned (.iface 96 (.agg #[.int .i64 n,.string x,.string y,.iface te ve]))
 | .ok (h,segs)=>e=.returned .nilIface∧∃v,w'.heap[k]?=some (.cells #[.string ⟨sc.toArray⟩,c1,c2,c3,h,c5,.bool false,.string ⟨#[]⟩,v,c9,c10,c11,c12] 77 (0,0))∧w'.ownsRow B 9 1 v segs.length (z1J segs)
def z40 (sc t:Bs) (c4:Value):Except Int (Value×List Bs):=
 if z0h (z0l t).1=true then .ok (c4,z0z sc [] t)
 else match z1v hostTell (z0l t).1 with
  |none=>.error 4
  |some h=>.ok (.string ⟨h.toArray⟩,z0z sc [] (z0l t).2)
theorem z81 (k:Nat) (sc t:Bs) (c1 c2 c3 c4 c5 c6 c7 c8 c9 c10 c11 c12:Value) (w:World) (ht:t.length≤100000) (hk:w.heap[k]?=some (.cells #[.string ⟨sc.toArray⟩,c1,c2,c3,c4,c5,c6,c7,c8,c9,c10,c11,c12] 77 (0,0))) (hkg:29≤k) (henv:Tryz.Env2 w):Calls Tryz.prog 278 #[.pointer (some ⟨k,0,none⟩),.string ⟨t.toArray⟩] w fun e w'=>But k w w'∧z5A k sc c1 c2 c3 c5 c9 c10 c11 c12 w.heap.size (z40 sc t c4) e w'∧(∀n,z40 sc t c4=.error n→w'.heap[k]?=w.heap[k]?):=by
 have hkz:=(Array.getElem?_eq_some_iff.1 hk).1;have hl:=cutSlash_len t;have HCS:Hid (Calls Tryz.prog 281 #[.string ⟨t.toArray⟩] w fun e w'=>e=.returned (.tuple #[.string ⟨(z0l t).1.toArray⟩,.string ⟨(z0l t).2.toArray⟩])∧Below w.heap.size w w'):=by refine(z4J t w).mono ?_;rintro e w' ⟨rfl,n,rfl⟩;exact⟨rfl,z4l _ _ _⟩
 have HE:Hid (z40 sc t c4=if z0h (z0l t).1=true then .ok (c4,z0z sc [] t) else match z1v hostTell (z0l t).1 with|none=>.error 4|some h=>.ok (.string ⟨h.toArray⟩,z0z sc [] (z0l t).2)):=rfl;generalize(z0l t).1=ah at*;generalize(z0l t).2=be at*;have HID:=hI fun w1=>z4r ah w1 (by omega);have HFH:Hid (∀w1,Below w.heap.size w w1→Calls Tryz.prog 211 #[.string ⟨ah.toArray⟩] w1 fun e w'=>z9b 4 (z1v hostTell ah) e∧Below w.heap.size w w'):=by intro w1 h1;refine(z80 ah w1 (by omega) (henv.below h1)).mono ?_;rintro e w' ⟨hr,hb⟩;exact⟨hr,h1.trans (hb.mono h1.size)⟩
 have HK:Hid (∀w1,Below w.heap.size w w1→w1.heap[k]?=some (.cells #[.string ⟨sc.toArray⟩,c1,c2,c3,c4,c5,c6,c7,c8,c9,c10,c11,c12] 77 (0,0))):=fun w1 h1=>(h1.block k hkz).trans hk;have HRP:Hid (∀(h:Value) (u:Bs) w1,u.length≤100000→But k w w1→w1.heap[k]?=some (.cells #[.string ⟨sc.toArray⟩,c1,c2,c3,h,c5,c6,c7,c8,c9,c10,c11,c12] 77 (0,0))→Calls Tryz.prog 163 #[.pointer (some ⟨k,0,none⟩),.slice none 0 0,.string ⟨u.toArray⟩] w1 fun e w'=>e=.returned (.tuple #[])∧But k w w'∧∃v,w'.heap[k]?=some (.cells #[.string ⟨sc.toArray⟩,c1,c2,c3,h,c5,.bool false,.string ⟨#[]⟩,v,c9,c10,c11,c12] 77 (0,0))∧w'.ownsRow w.heap.size 9 1 v (z0z sc [] u).length (z1J (z0z sc [] u))):=by intro h u w1 hu h1 hh;refine(z35 k sc u _ _ _ _ _ c6 c7 c8 c9 c10 c11 c12 none 0 [] w1 hu (by simp) (by simp) hh (by simp) (henv.but h1 hkg)).mono ?_;rintro e w' ⟨rfl,hb,v,h2,h3⟩;exact⟨rfl,h1.trans hb,v,h2,But.mono_own h3 h1.size⟩
 have hbe:be.length≤100000:=by omega
 clear henv hk hl;cases hd:z0h ah with
 |true=>
  have HE2:Hid (z40 sc t c4=.ok (c4,z0z sc [] t)):=by show _=_;rw[HE.out,if_pos hd]
  rw[hd] at HID;clear hd HE;go_enter Tryz.func278,Tryz.ntmps278;go_wp2_with fail;refine HCS.out.mono ?_;rintro e w1 ⟨rfl,b1⟩;go_wp2_with fail;refine(HID w1).mono ?_;rintro e w2 ⟨rfl,hw0⟩;obtain rfl:=hw0.symm;have HRP2:Hid _:=HRP c4 t w1 ht (But.of_below b1) (HK w1 b1);go_wp2_with fail;refine Calls.mono HRP2 ?_;rintro e w3 ⟨rfl,hb3,v,h3,ho3⟩;have HF:Hid (z5A k sc c1 c2 c3 c5 c9 c10 c11 c12 w.heap.size (.ok (c4,z0z sc [] t)) (.returned .nilIface) w3):=⟨rfl,v,h3,ho3⟩;have HB3:=hI hb3;clear hb3 h3 ho3;go_wp2;go_ret;rw[HE2.out];exact⟨HB3,HF,fun n h=>by cases h⟩
 |false=>
  rw[hd] at HID;cases hf:z1v hostTell ah with
  |none=>have HE2:Hid (z40 sc t c4=.error 4):=(by show _=_;rw[HE.out,if_neg (by simp[hd]),hf]);rw[hf] at HFH;clear hd hf HE;go_enter Tryz.func278,Tryz.ntmps278;go_wp2_with fail;refine HCS.out.mono ?_;rintro e w1 ⟨rfl,b1⟩;go_wp2_with fail;refine(HID w1).mono ?_;rintro e w2 ⟨rfl,hw0⟩;obtain rfl:=hw0.symm;go_wp2_with fail;refine(HFH w1 b1).mono ?_;rintro e w2 ⟨⟨x,y,te,ve,rfl⟩,b2⟩;go_wp2;go_ret;rw[HE2.out];exact⟨But.of_below b2,⟨_,_,_,_,rfl⟩,fun _ _=>b2.block k hkz⟩
  |some h=>have HE2:Hid (z40 sc t c4=.ok (.string ⟨h.toArray⟩,z0z sc [] be)):=(by show _=_;rw[HE.out,if_neg (by simp[hd]),hf]);rw[hf] at HFH;clear hd hf HE;go_enter Tryz.func278,Tryz.ntmps278;go_wp2_with fail;refine HCS.out.mono ?_;rintro e w1 ⟨rfl,b1⟩;go_wp2_with fail;refine(HID w1).mono ?_;rintro e w2 ⟨rfl,hw0⟩;obtain rfl:=hw0.symm;go_wp2_with fail;refine(HFH w1 b1).mono ?_;rintro e w2 ⟨he,b2⟩;have he2:e=.returned (.tuple #[.string ⟨h.toArray⟩,.nilIface]):=he;subst he2;have hk2:=HK w2 b2;have e4:w2.cell? ⟨k,4,none⟩=some c4:=z00 hk2 4;have f4:=z04 hk2 4;have g4:=heap_setCell_same w2 k 4 _ 77 (.string ⟨h.toArray⟩) hk2;have HRP2:Hid _:=HRP (.string ⟨h.toArray⟩) be _ hbe ((But.of_below (k:=k) b2).setCell 4 (.string ⟨h.toArray⟩)) g4;clear he b1 b2 hk2 g4;go_wp2_with fail;refine Calls.mono HRP2 ?_;rintro e w3 ⟨rfl,hb3,v,h3,ho3⟩;have HF:Hid (z5A k sc c1 c2 c3 c5 c9 c10 c11 c12 w.heap.size (.ok (.string ⟨h.toArray⟩,z0z sc [] be)) (.returned .nilIface) w3):=⟨rfl,v,h3,ho3⟩;have HB3:=hI hb3;clear hb3 h3 ho3;go_wp2;go_ret;rw[HE2.out];exact⟨HB3,HF,fun n h=>by cases h⟩
theorem z85 (l:Bs) (w:World) (hs:l.length≤100000) (henv:Tryz.Env w):Calls Tryz.prog 283 #[.string ⟨l.toArray⟩] w fun e w'=>e=.returned (.string ⟨(z0X l).toArray⟩)∧Below w.heap.size w w':=by
 have HT:Hid (Calls Tryz.prog 62 #[.string ⟨l.toArray⟩,.int .i64 0] w fun e w'=>e=.returned (.string ⟨(esc 0 l).toArray⟩)∧Below w.heap.size w w'):=z6G ⟨l.toArray⟩ 0 w (by rw[z07];omega) henv.sets (by have:=henv.size;omega);have hel:=z4T 0 l;have HR:Hid (∀w1,Tryz.Env w1→Calls Tryz.prog 107 #[.string ⟨(esc 0 l).toArray⟩,.string ⟨#[32]⟩,.string ⟨#[37,50,48]⟩] w1 fun e w'=>e=.returned (.string ⟨(z0X l).toArray⟩)∧Below w1.heap.size w1 w'):=by
  intro w1 hv;obtain⟨m,hm⟩:=hv.maxLen;have hcn:=z9h ⟨(esc 0 l).toArray⟩ ⟨#[32]⟩;rw[z07] at hcn;refine(Tryz.strings_ReplaceAll ⟨(esc 0 l).toArray⟩ ⟨#[32]⟩ ⟨#[37,50,48]⟩ m w1 (by rw[z07];omega) hm (by decide) (by rw[z07];show _+_*3≤_;omega)).mono ?_;rintro e w' ⟨rfl,hb⟩;refine⟨?_,hb⟩;have e1:Lib.replaceAll (⟨(esc 0 l).toArray⟩:ByteArray).data.toList (⟨#[32]⟩:ByteArray).data.toList (⟨#[37,50,48]⟩:ByteArray).data.toList=z0X l:=by show Lib.replaceAll (esc 0 l) [32] [37,50,48]=_;rw[z64];rfl
  rw[e1]
 have HV:=hI henv;clear henv hs hel;go_enter Tryz.func283,Tryz.ntmps283;go_wp2_with fail;refine HT.out.mono ?_;rintro e w1 ⟨rfl,b1⟩;go_wp2_with fail;refine(HR w1 (HV.out.below b1)).mono ?_;rintro e w2 ⟨rfl,b2⟩;go_wp2;go_ret;exact⟨rfl,b1.trans (b2.mono b1.size)⟩
theorem zaT (x:Nat) (W:World):Calls Tryz.prog 153 #[.int .i32 (x:Int)] W fun e w'=>e=.returned (.bool (p33 x))∧∃q,w'=W.drewN q:=by
 have HE:Hid (decide ((x:Int)<33)=p33 x):=by
  show _=_;unfold p33;by_cases h:x<33
  ·rw[decide_eq_true h,decide_eq_true (by omega)]
  ·rw[decide_eq_false h,decide_eq_false (by omega)]
 go_enter Tryz.func153,Tryz.ntmps153;go_wp2;go_ret;rw[←HE.out];exact⟨rfl,0,rfl⟩
theorem zcv (l:Bs) (w:World) (hs:l.length<4294967281) (henv:Tryz.Env2 w):Calls Tryz.prog 94 #[.string ⟨l.toArray⟩] w fun e w'=>e=.returned (.string ⟨(z24 l).toArray⟩)∧Below w.heap.size w w':=by
 have HT:Hid (Calls Tryz.prog 152 #[.string ⟨l.toArray⟩,.func (.func 153) #[] #[]] w fun e w'=>e=.returned (.string ⟨(z3N blankB l).toArray⟩)∧Below w.heap.size w w'):=by
  refine(Tryz.strings_TrimFunc 153 #[] (enters_of Tryz.func153 (by kernel_rfl) rfl) p33 ⟨l.toArray⟩ w (by rw[z07];omega) henv.u8 (fun W x _=>zaT x W)).mono ?_;rintro e w' ⟨rfl,hb⟩;refine⟨?_,hb⟩;have h:=zod ⟨l.toArray⟩;have e2:Lib.trimF p33 ⟨l.toArray⟩=⟨(z3N blankB l).toArray⟩:=by apply z4s;rw[h]
  rw[e2]
 have htl:(z3N blankB l).length≤l.length:=by unfold z3N;have h1:∀x:Bs,(x.dropWhile blankB).length≤x.length:=fun x=>(List.dropWhile_sublist _).length_le;have h2:=h1 l;have h3:=h1 (l.dropWhile blankB).reverse;rw[List.length_reverse] at h3⊢;omega
 have HW:Hid (∀w1,Tryz.Env w1→Calls Tryz.prog 61 #[.string ⟨(z3N blankB l).toArray⟩] w1 fun e w'=>e=.returned (.string ⟨(z24 l).toArray⟩)∧Below w1.heap.size w1 w'):=fun w1 hv=>z7J (z3N blankB l) w1 (by omega) hv;have HV:=hI henv;clear henv hs htl;go_enter Tryz.func94,Tryz.ntmps94;go_wp2_with fail;refine HT.out.mono ?_;rintro e w1 ⟨rfl,b1⟩;go_wp2_with fail;refine(HW w1 (HV.out.below b1).env).mono ?_;rintro e w2 ⟨rfl,b2⟩;go_wp2;go_ret;exact⟨rfl,b1.trans (b2.mono b1.size)⟩
def zmx (w:World) (v:Value) (segs:List Bs):Prop:=∃sp cap,v=.slice sp segs.length cap∧segs.length≤cap∧cap≤maxLen∧(segs≠[]→∃g,sp=some ⟨g,0,none⟩∧∀(j:Nat) x,segs[j]?=some x→w.cell? ⟨g,j,none⟩=some (.string ⟨x.toArray⟩))
def z71 (w:World) (v:Value):Prop:=∀g n c,v=.slice (some ⟨g,0,none⟩) n c→∃cur fr,w.heap[g]?=some (.cells cur 9 fr)
def z1f (w:World) (v:Value) (segs:List Bs):Prop:=zmx w v segs∧z71 w v
theorem zmy {w:World} {B:Nat} {v:Value} {n:Nat} {xs:List Value} (h:w.ownsRow B 9 1 v n xs):z71 w v:=by
 intro g n c hv;rcases h.2 with⟨rfl,_⟩|⟨g2,cap,cur,rfl,_,h3,_⟩
 ·cases hv
 ·injection hv with hv _ _
  injection hv with hv;injection hv with hv _;subst hv;exact⟨cur,_,h3⟩
theorem z5n {w:World} {B:Nat} {v:Value} {segs:List Bs} (h:w.ownsRow B 9 1 v segs.length (z1J segs)):z1f w v segs:=by refine⟨?_,zmy h⟩;obtain⟨sp,cap,hv,h1,h2,h3⟩:=z1t h;refine⟨sp,cap,hv,h1,h2,fun hn=>?_⟩;obtain⟨g,hg,hc⟩:=h3 (List.length_pos_iff.2 hn);refine⟨g,hg,fun j x hx=>hc j _ ?_⟩;unfold z1J;rw[List.getElem?_map,hx];rfl
def z6l (k:Nat) (sc:Bs) (c9 c10 c11 c12:Value) (o:Except Int (Auth×Moor.Way)) (e:Ending) (w':World):Prop:=
 match o with
 | .error n=>∃x y te ve,e=.returned (.iface 96 (.agg #[.int .i64 n,.string x,.string y,.iface te ve]))
 | .ok (a,y)=>e=.returned .nilIface∧∃v,w'.heap[k]?=some (.cells #[.string ⟨sc.toArray⟩,.string ⟨a.user.toArray⟩,.string ⟨a.pass.toArray⟩,.bool a.has,.string ⟨a.host.toArray⟩,.int .i64 a.port,.bool y.opaq,.string ⟨y.text.toArray⟩,v,c9,c10,c11,c12] 77 (0,0))∧z1f w' v y.segs
theorem zaP {k:Nat} {sc:Bs} {c9 c10 c11 c12:Value} {B:Nat} {o:Except Int (Auth×Moor.Way)} {e:Ending} {w':World} (h:z5B k sc c9 c10 c11 c12 B o e w'):z6l k sc c9 c10 c11 c12 o e w':=by
 cases o with
 |error n=>exact h
 |ok p=>obtain⟨a,y⟩:=p;obtain⟨he,v,h1,h2,h3,h4⟩:=h;refine⟨he,v,?_,z5n h2⟩;rw[h3,h4];exact h1
theorem zaQ {k:Nat} {sc:Bs} {c9 c10 c11 c12:Value} {B:Nat} {o:Except Int (Auth×Moor.Way)} {e:Ending} {w':World} (h:z5B k sc c9 c10 c11 c12 B o e w'):∃v,e=.returned v:=by
 cases o with
 |error n=>obtain⟨x,y,te,ve,rfl⟩:=h;exact⟨_,rfl⟩
 |ok p=>obtain⟨a,y⟩:=p;obtain⟨rfl,_⟩:=h;exact⟨_,rfl⟩
theorem z50 (m:Bs):Lib.hasPrefix m [47,47]=List.isPrefixOf [47,47] m:=rfl
theorem ziY (k:Nat) (sc m:Bs) (c6 c7 c8 c9 c10 c11 c12:Value) (w:World) (hm:m.length≤100000) (hk:w.heap[k]?=some (.cells #[.string ⟨sc.toArray⟩,.string ⟨#[]⟩,.string ⟨#[]⟩,.bool false,.string ⟨#[]⟩,.int .i64 (-1),c6,c7,c8,c9,c10,c11,c12] 77 (0,0))) (hkg:29≤k) (henv:Tryz.Env2 w):Calls Tryz.prog 248 #[.pointer (some ⟨k,0,none⟩),.string ⟨m.toArray⟩] w fun e w'=>But k w w'∧z6l k sc c9 c10 c11 c12 (z1l hostTell sc m) e w'∧(∀n,z1l hostTell sc m=.error n→w'.heap[k]?=w.heap[k]?):=by
 have hkz:=(Array.getElem?_eq_some_iff.1 hk).1;have HCP:=hI (Tryz.strings_CutPrefix ⟨m.toArray⟩ ⟨#[47,47]⟩ w);cases h2:List.isPrefixOf [47,47] m with
 |true=>
  have HE:Hid (z1l hostTell sc m=z0Q hostTell sc (m.drop 2)):=by show _=_;unfold z1l;rw[if_pos h2]
  have ht:Lib.trimPrefix m [47,47]=m.drop 2:=by unfold Lib.trimPrefix;rw[z50,h2];rfl
  rw[ht,z50,h2] at HCP;have HRF:=hI (z6C k sc (m.drop 2) _ _ _ _ _ c6 c7 c8 c9 c10 c11 c12 w (by rw[List.length_drop];omega) hk hkg henv);clear h2 ht hk henv;go_enter Tryz.func248,Tryz.ntmps248;go_wp2_with fail;refine HCP.out.mono ?_;rintro e w1 ⟨rfl,hw0⟩;obtain rfl:=hw0.symm;go_wp2_with fail;refine HRF.out.mono ?_;rintro e w2 ⟨hb,hr,hx⟩;obtain⟨ev,rfl⟩:=zaQ hr;have HX:=hI hx;have HF:=hI (zaP hr);have HB:=hI hb;clear hr hb hx;go_wp2;go_ret;rw[HE.out];exact⟨HB,HF,HX⟩
 |false=>
  rw[z50,h2] at HCP;have HHP:=hI (Tryz.strings_HasPrefix ⟨m.toArray⟩ ⟨#[47]⟩ w);by_cases h1:m.head? =some 47
  ·have hp1:Lib.hasPrefix m [47]=true:=by
    cases m with
    |nil=>cases h1
    |cons c r=>simp at h1;subst h1;rfl
   have HE:Hid (z1l hostTell sc m=.ok (noAuth,z0M sc [] m)):=(by show _=_;unfold z1l;rw[if_neg (by simp[h2]),if_pos h1]);have HRP:Hid (Calls Tryz.prog 163 #[.pointer (some ⟨k,0,none⟩),.slice none 0 0,.string ⟨m.toArray⟩] w fun e w'=>e=.returned (.tuple #[])∧But k w w'∧∃v,w'.heap[k]?=some (.cells #[.string ⟨sc.toArray⟩,.string ⟨#[]⟩,.string ⟨#[]⟩,.bool false,.string ⟨#[]⟩,.int .i64 (-1),.bool false,.string ⟨#[]⟩,v,c9,c10,c11,c12] 77 (0,0))∧w'.ownsRow w.heap.size 9 1 v (z0z sc [] m).length (z1J (z0z sc [] m))):=z35 k sc m _ _ _ _ _ c6 c7 c8 c9 c10 c11 c12 none 0 [] w hm (by simp) (by simp) hk (by simp) henv;rw[hp1] at HHP;clear h1 h2 hp1 hk henv;go_enter Tryz.func248,Tryz.ntmps248;go_wp2_with fail;refine HCP.out.mono ?_;rintro e w1 ⟨rfl,hw0⟩;obtain rfl:=hw0.symm;go_wp2_with fail;refine HHP.out.mono ?_;rintro e w1 ⟨rfl,hw1⟩;obtain rfl:=hw1.symm;go_wp2_with fail;refine HRP.out.mono ?_;rintro e w3 ⟨rfl,hb3,v,h3,ho3⟩;have HF:Hid (z6l k sc c9 c10 c11 c12 (.ok (noAuth,z0M sc [] m)) (.returned .nilIface) w3):=⟨rfl,v,h3,z5n ho3⟩;have HB3:=hI hb3;clear hb3 h3 ho3;go_wp2;go_ret;rw[HE.out];exact⟨HB3,HF,fun n h=>by cases h⟩
  ·have hp1:Lib.hasPrefix m [47]=false:=by
    cases m with
    |nil=>rfl
    |cons c r=>simp at h1;unfold Lib.hasPrefix;simp[List.isPrefixOf];exact fun h=>h1 h.symm
   have HE:Hid (z1l hostTell sc m=.ok (noAuth,⟨true,z0X m,[]⟩)):=(by show _=_;unfold z1l;rw[if_neg (by simp[h2]),if_neg h1]);have HEO:=hI (z85 m w hm henv.env);have HK:Hid (∀w1,Below w.heap.size w w1→w1.heap[k]?=some (.cells #[.string ⟨sc.toArray⟩,.string ⟨#[]⟩,.string ⟨#[]⟩,.bool false,.string ⟨#[]⟩,.int .i64 (-1),c6,c7,c8,c9,c10,c11,c12] 77 (0,0))):=fun w1 b1=>(b1.block k hkz).trans hk;rw[hp1] at HHP;generalize z0X m=eo at*;clear h1 h2 hp1 hk henv;go_enter Tryz.func248,Tryz.ntmps248;go_wp2_with fail;refine HCP.out.mono ?_;rintro e w1 ⟨rfl,hw0⟩;obtain rfl:=hw0.symm;go_wp2_with fail;refine HHP.out.mono ?_;rintro e w1 ⟨rfl,hw1⟩;obtain rfl:=hw1.symm;go_wp2_with fail;refine HEO.out.mono ?_;rintro e w2 ⟨rfl,b2⟩;have hk2:=HK w2 b2;have d6:w2.cell? ⟨k,6,none⟩=some c6:=z00 hk2 6;have d7:w2.cell? ⟨k,7,none⟩=some c7:=z00 hk2 7;have d8:w2.cell? ⟨k,8,none⟩=some c8:=z00 hk2 8;have f6:=z04 hk2 6;have f7:=z04 hk2 7;have f8:=z04 hk2 8;have g6:=heap_setCell_same w2 k 6 _ 77 (.bool true) hk2;have g7:=heap_setCell_same _ k 7 _ 77 (.string ⟨eo.toArray⟩) g6;have g8:=heap_setCell_same _ k 8 _ 77 (.slice none 0 0) g7;have HBU:Hid _:=(((But.of_below (k:=k) b2).setCell 6 (.bool true)).setCell 7 (.string ⟨eo.toArray⟩)).setCell 8 (.slice none 0 0);have HF:Hid (z6l k sc c9 c10 c11 c12 (.ok (noAuth,⟨true,eo,[]⟩)) (.returned .nilIface) _):=⟨rfl,.slice none 0 0,g8,⟨none,0,rfl,Nat.le_refl _,Nat.zero_le _,fun h=>absurd rfl h⟩,fun g n c h=>by cases h⟩;clear hk2 g6 g7 g8 b2;go_wp2;go_ret;rw[HE.out];exact⟨HBU,HF,fun n h=>by cases h⟩
end Go.Proofs
