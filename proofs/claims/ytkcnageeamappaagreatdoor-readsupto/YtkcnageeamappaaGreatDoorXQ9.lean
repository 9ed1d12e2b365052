import Derived.Test.YtkcnageeamappaaGreatDoorXQ7
set_option maxHeartbeats 32000000
set_option maxRecDepth 8000
namespace Go.Proofs
open Go.RowKit Go.Moor Go.Proofs.Tryz
theorem zaz (x:List UInt8) (hx:z1M x=none):∀(ls:List (List UInt8)) (a:Int),x∈ls→z2w a ls=none
 | [],_,h=>by cases h
 |y::ls,a,h=>by
  unfold z2w;cases hy:z1M y with
  |none=>rfl
  |some n=>
   rcases List.mem_cons.1 h with rfl|h
   ·rw[hx] at hy;cases hy
   ·exact zaz x hx ls _ h
theorem zdZ (v:Int) (l:List UInt8) (k:Nat) (h:k<l.length):z0H 10 255 v (l.drop k)=if z0c l[k].toNat<10 then(if v*10+z0c l[k].toNat≤255 then z0H 10 255 (v*10+z0c l[k].toNat) (l.drop (k+1)) else none) else none:=by rw[List.drop_eq_getElem_cons h];rfl
theorem zn6 (c:UInt8) (h:refDigit c=true):z0c c.toNat=(c.toNat:Int)- 48∧z0c c.toNat<10∧48≤(c.toNat:Int)∧(c.toNat:Int)≤57:=by unfold refDigit at h;rw[decide_eq_true_eq] at h;unfold z0c;rw[if_pos (by omega)];omega
theorem zn7 (c:UInt8) (h:refDigit c=false):¬z0c c.toNat<10:=by have:=zjx c;rw[h] at this;simpa using this
def zcF (o:Option Int) (e:Ending):Prop:=
 match o with
 |some n=>e=.returned (.tuple #[.int .i64 n,.bool true])
 |none=>∃m:Int,e=.returned (.tuple #[.int .i64 m,.bool false])
theorem zn8 (s:ByteArray) (w:World) (hs:s.size≤4000):CP 171 #[.string s] w (zcF (z0J s.data.toList)):=by
 have HSP:Hid (Calls prog 78 #[.string s,.int .u8 46] w fun e w'=>(∃v,e=.returned v∧w'.ownsRow w.heap.size 9 1 v (z0a 46 s.data.toList).length (z1J (z0a 46 s.data.toList)))∧Below w.heap.size w w'):=zm9 s 46 w (by omega);have HDI:=hI fun c w1=>zbK c w1;have HLB:Hid (∀x∈z0a 46 s.data.toList,x.length≤4000):=fun x hx=>by
  have:=z2L 46 s.data.toList x hx;rw[Array.length_toList] at this;exact Nat.le_trans this hs
 have HLC:Hid ((z0a 46 s.data.toList).length≤4001):=by have:=z4A 46 s.data.toList;rw[Array.length_toList] at this;exact Nat.le_trans this (by show s.size+1≤_;omega)
 unfold z0J;generalize z0a 46 s.data.toList=ls at*;have HRN:Hid (∀x∈ls,z1M x=none→(if ls.length=4 then z2w 0 ls else none)=none):=by
  intro x hx h;split
  ·exact zaz x h ls 0 hx
  ·rfl
 suffices key:∀res:Option Int,Hid (∀x∈ls,z1M x=none→res=none)→Hid (¬ls.length=4→res=none)→Hid (ls.length=4→res=z2w 0 ls)→Calls prog 171 #[.string s] w fun e w'=>zcF res e∧Below w.heap.size w w' from key _ HRN.out (fun h=>if_neg h) (fun h=>if_pos h)
 intro res HN1 HN2 HN3;clear HRN;go_enter func171,ntmps171;go_wp2_with fail;refine HSP.out.mono ?_;rintro e w1 ⟨⟨v,rfl,ho⟩,b1⟩;obtain⟨sp,cap,hv,hnc,hcm,hrow⟩:=z1t ho;subst hv;have HB1:=hI b1;have hlc:=HLC.out;have HROW:Hid (∀(j:Nat) x,ls[j]?=some x→∃g,sp=some ⟨g,0,none⟩∧w1.cell? ⟨g,j,none⟩=some (.string ⟨x.toArray⟩)):=by intro j x hj;have hlt:=(List.getElem?_eq_some_iff.1 hj).1;obtain⟨g,hg,hc⟩:=hrow (by omega);exact⟨g,hg,hc j _ (by unfold z1J;rw[List.getElem?_map,hj];rfl)⟩
 clear b1 ho hrow;go_wp2_with fail;go_loopw [5,6] (fun a i wr=>∃(q:Nat) (x:Int),q≤ls.length∧i=.int .i64 q∧a=.int .i64 x∧(q≤4→z2w x (ls.drop q)=z2w 0 ls∧0≤x∧x<256^q)∧wr=w1) (fun _ i _=>ls.length-(intOf i).toNat)
 case atStart=>exact⟨0,0,Nat.zero_le _,rfl,rfl,fun _=>⟨rfl,by omega,by decide⟩,rfl⟩
 case round=>
  obtain⟨q,x,hq,rfl,rfl,hacc,hwr⟩:=hrel;obtain rfl:=hwr.symm;have HACC:=hI hacc;clear hacc;by_cases hlt:q<ls.length
  ·obtain⟨p,hp⟩:∃p,ls[q]?=some p:=⟨ls[q],List.getElem?_eq_getElem hlt⟩
   obtain⟨g,hsp,cp⟩:=HROW.out q p hp;subst hsp;have HPM:=hI (List.mem_of_getElem? hp);have hpl:=HLB.out p HPM.out;have HSTEP:Hid (∀n:Int,z1M p=some n→z2w x (ls.drop q)=z2w (x*256+n) (ls.drop (q+1))):=by intro n hn;obtain⟨h1,h2⟩:=List.getElem?_eq_some_iff.1 hp;rw[List.drop_eq_getElem_cons h1,h2];unfold z2w;rw[hn];cases ls.drop (q+1)<;>rfl
   obtain⟨pb,hpb⟩:=z09 (⟨p.toArray⟩:ByteArray);rw[←hpb] at cp;have hpz:pb.size=p.length:=(by rw[hpb];exact z07 p);have HPG:Hid (∀(k:Nat) (h:k<pb.size) (h2:k<p.length),p[k]=pb[k]):=by intro k h h2;subst hpb;rfl
   have hpe:pb.toList.isEmpty=p.isEmpty:=(by rw[hpb,Lib.toList_data]);clear hp hpb;go_wp2_with fail;go_loopw [7,8] (fun a i wr=>∃(k:Nat) (v:Int),k≤pb.size∧i=.int .i64 k∧a=.int .i64 v∧0≤v∧v≤255∧z0H 10 255 v (p.drop k)=z0H 10 255 0 p∧(2≤k→¬p.head? =some 48)∧wr=w1) (fun _ i _=>pb.size-(intOf i).toNat)
   case atStart=>exact⟨0,0,Nat.zero_le _,rfl,rfl,by omega,by omega,rfl,fun h=>by omega,rfl⟩
   case round=>
    obtain⟨k,v,hk,rfl,rfl,hv0,hv1,hdig,hhead,hwr⟩:=hrel;obtain rfl:=hwr.symm;have HDG:=hI hdig;have HHE:=hI hhead;clear hdig hhead;by_cases hkl:k<pb.size
    ·have h2:k<p.length:=by omega
     have hg:=HPG.out k hkl h2;have HD:Hid _:=HDI.out pb[k] w1;have hst:=zdZ v p k h2;rw[hg] at hst;have HST:Hid _:=hst;have HPD:Hid (z0H 10 255 0 p=none→z1M p=none):=by
      intro h;unfold z1M;split
      ·rfl
      ·split
       ·rfl
       ·exact h
     clear hst hg;cases hd:refDigit pb[k] with
     |false=>have HRES:=hI (HN1.out p HPM.out (HPD.out (by rw[←HDG.out,HST.out,if_neg (zn7 _ hd)])));rw[hd] at HD;clear hd;go_wp2_with fail;refine Calls.mono HD.out ?_;rintro e W0 ⟨rfl,hw0⟩;obtain rfl:=hw0.symm;go_wp2;go_ret2;rw[HRES.out];exact⟨⟨_,rfl⟩,HB1.out⟩
     |true=>
      obtain⟨e1,e2,e3,e4⟩:=zn6 _ hd;rw[hd] at HD;have hsub:IntKind.u8.wrap ((pb[k].toNat:Int)- 48)=(pb[k].toNat:Int)- 48:=by simp only[IntKind.wrap,IntKind.bits,IntKind.signed];simp;omega
      have hk0:(0:Int)≤(k:Int):=(by omega);have HH0:Hid (∀h:0<pb.size,p.head? =some pb[0]):=(by intro h;have h3:0<p.length:=(by omega);have:=HPG.out 0 h h3;rw[List.head?_eq_getElem?,List.getElem?_eq_getElem h3,this]);by_cases hA:k=1∧p.head? =some 48
      ·obtain⟨hk1,hh⟩:=hA
       have HRES:=hI (HN1.out p HPM.out (by
        unfold z1M;split
        ·rfl
        ·rw[if_pos ⟨hh,by omega⟩]))
       have h0:0<pb.size:=(by omega);have hp0:=HH0.out h0;rw[hh] at hp0;have hp00:=(Option.some.inj hp0).symm;have hpb0:((pb[0].toNat:Int)==48)=true:=(by rw[hp00];rfl);subst hk1;clear hd e1 e2 e3 e4 hsub hp0 hp00 hh;go_wp2_with fail;refine Calls.mono HD.out ?_;rintro e W0 ⟨rfl,hw0⟩;obtain rfl:=hw0.symm;go_wp2;go_ret2;rw[HRES.out];exact⟨⟨_,rfl⟩,HB1.out⟩
      ·have hB:((k:Int)==1)=false∨(((k:Int)==1)=true∧∃h0:0<pb.size,((pb[0].toNat:Int)==48)=false):=by
        by_cases h1:k=1
        ·right
         have h0:0<pb.size:=(by omega);refine⟨by rw[h1];rfl,h0,?_⟩;rw[beq_eq_false_iff_ne];intro h;exact hA ⟨h1,by rw[HH0.out h0];exact congrArg some (UInt8.toNat_inj.1 (by show pb[0].toNat=48;omega))⟩
        ·left
         rw[beq_eq_false_iff_ne];omega
       have HHN:Hid (2≤k+1→¬p.head? =some 48):=by
        intro h3 h4;by_cases h1:k=1
        ·exact hA ⟨h1,h4⟩
        ·exact HHE.out (by omega) h4
       have hst:=HST.out;rw[if_pos e2,e1] at hst;obtain⟨n,hn⟩:=z09 ((pb[k].toNat:Int)- 48:Int);rw[←hn] at hst hsub;have hn0:0≤n∧n≤9:=(by omega);obtain⟨hna,hnb⟩:=hn0;have hnn:=hn.symm;have hw1:wrap64 (10*v)=10*v:=(by unfold wrap64;omega);have hw2:wrap64 (10*v+n)=10*v+n:=(by unfold wrap64;omega);clear hd e1 e2 hn HST hA HH0 HHE;by_cases hbig:10*v+n≤255
       ·rw[if_pos (by omega)] at hst
        have HDN:Hid (z0H 10 255 (10*v+n) (p.drop (k+1))=z0H 10 255 0 p):=(by show _=_;rw[←HDG.out,hst,show v*10+n=10*v+n by omega]);clear hst;rcases hB with hB|⟨hB,h0,hB2⟩;all_goals
         go_wp2_with fail;refine Calls.mono HD.out ?_;rintro e W0 ⟨rfl,hw0⟩;obtain rfl:=hw0.symm;go_wp2;go_roundw
         case rel=>exact⟨k+1,10*v+n,by omega,by go_num,by go_num,by omega,by omega,HDN.out,HHN.out,trivial⟩
         case measure=>(simp[intOf];try omega)
       ·rw[if_neg (by omega)] at hst
        have HRES:=hI (HN1.out p HPM.out (HPD.out (by rw[←HDG.out,hst])));clear hst;rcases hB with hB|⟨hB,h0,hB2⟩;all_goals
         go_wp2_with fail;refine Calls.mono HD.out ?_;rintro e W0 ⟨rfl,hw0⟩;obtain rfl:=hw0.symm;go_wp2;go_ret2;rw[HRES.out];exact⟨⟨_,rfl⟩,HB1.out⟩
    ·by_cases hpn:p=[]
     ·have HRES:=hI (HN1.out p HPM.out (by rw[hpn];rfl))
      have hpe2:pb.toList.isEmpty=true:=(by rw[hpe,hpn];rfl);clear hpe hpn;go_wp2;go_ret2;rw[HRES.out];exact⟨⟨_,rfl⟩,HB1.out⟩
     ·have hpe2:pb.toList.isEmpty=false:=by
       rw[hpe];cases p with
       |nil=>exact absurd rfl hpn
       |cons=>rfl
      have HPD:Hid (z1M p=some v):=(by show _=_;have h:=HDG.out;rw[List.drop_eq_nil_of_le (by omega)] at h;unfold z1M;rw[if_neg hpn,if_neg (fun h2=>HHE.out (by omega) h2.1),←h];rfl);clear hpe;go_wp2;go_roundw
      case rel=>
       refine⟨q+1,_,by omega,by go_num,rfl,fun h4=>?_,trivial⟩;obtain⟨a1,a2,a3⟩:=HACC.out (by omega);have a4:x<16777216:=Int.lt_of_lt_of_le a3 (by
        have:(256:Int)^q≤256^3:=by have h5:q=0∨q=1∨q=2∨q=3:=(by omega);rcases h5 with rfl|rfl|rfl|rfl<;>decide
        exact this)
       have e:wrap64 (wrap64 (256*x)+v)=x*256+v:=(by unfold wrap64;omega);rw[e];refine⟨by rw[←a1,HSTEP.out v HPD.out],by omega,?_⟩;rw[Int.pow_succ];omega
      case measure=>(simp[intOf];try omega)
  ·have hqe:q=ls.length:=by omega
   subst hqe;by_cases h4:ls.length=4
   ·obtain⟨a1,a2,a3⟩:=HACC.out (by omega)
    have HRES:Hid (res=some x):=(by show _=_;rw[HN3.out h4,←a1,List.drop_eq_nil_of_le (Nat.le_refl _)];rfl);have hl4:((ls.length:Int)==4)=true:=(by rw[h4];rfl);clear a1 a2 a3;go_wp2;go_ret2;rw[HRES.out];exact⟨by first|rfl|(show _=_;simp[h4]),HB1.out⟩
   ·have HRES:=hI (HN2.out h4)
    have hl4:((ls.length:Int)==4)=false:=(by rw[beq_eq_false_iff_ne];omega);go_wp2;go_ret2;rw[HRES.out];exact⟨⟨x,by first|rfl|simp[h4]⟩,HB1.out⟩
theorem zkm:∀(k n:Nat) (w:World),k≤40→n<16^(k+1)→n<4294967296→CN 172 #[.int .i64 n] w (.string ⟨(z0O 16 k n).toArray⟩)
 |k,n,w,hk40,hn,hn2=>by
  by_cases h:n<16
  ·have HE:Hid _:=zj5 n (by omega)
   have HD:Hid (z0O 16 k n=[z1A n]):=by
    show _=_;cases k with
    |zero=>rfl
    |succ k=>unfold z0O;rw[if_pos h]
   rw[HD.out];clear hn;go_enter func172,ntmps172;go_wp2;go_ret;refine⟨?_,0,rfl⟩;show Ending.returned (.string (zpt.extract n (n+1)))=_;rw[HE.out]
  ·match k,hk40,hn with
   |0,_,hn=>exact absurd (by simpa using hn) h
   |k+1,hk40,hn=>
    have hq:n/16<16^(k+1):=(by rw[Nat.div_lt_iff_lt_mul (by omega)];rwa[Nat.pow_succ] at hn);have IH:=hI fun w=>by
     have:=zkm k (n/16) w (by omega) hq (by omega);rw[show((n/16:Nat):Int)=(n:Int)/16 by omega] at this;exact this
    have HE:Hid _:=zj5 (n%16) (by omega);have HD:Hid (z0O 16 (k+1) n=z0O 16 k (n/16)++ [z1A (n%16)]):=(by show _=_;rw[z0O,if_neg h]);rw[HD.out];have hw1:IntKind.i64.wrap ((n:Int)/16)=(n:Int)/16:=z4v _ (by omega) (by omega);have hw2:(n:Int).tmod 16=(n:Int)%16:=Int.tmod_eq_emod_of_nonneg (by omega);have hw3:IntKind.i64.wrap ((n:Int)%16+1)=(n:Int)%16+1:=z4v _ (by omega) (by omega);have hsl:∀W,(Instr.slice 9 (.string ⟨#[48,49,50,51,52,53,54,55,56,57,97,98,99,100,101,102]⟩) (some (.int .i64 ((n:Int)%16))) (some (.int .i64 ((n:Int)%16+1))) none).run prog W=.ok (.string ⟨#[z1A (n%16)]⟩) W:=fun W=>by
     rw[run_slice_string W 9 _ .i64 .i64 _ _ underlying9 (by omega) (by omega) (show(n:Int)%16+1≤((16:Nat):Int) by omega),show((n:Int)%16).toNat=n%16 by omega,show((n:Int)%16+1).toNat=n%16+1 by omega];exact congrArg (fun x=>Result.ok (Value.string x) W) HE
    have hdl:(z0O 16 k (n/16)).length≤41:=(by have:=z4u 16 k (n/16);omega);clear hn hq;go_enter func172,ntmps172;go_wp2_with fail;go_region_with (go_at_call 172;refine(IH.out _).mono ?_;rintro e w' ⟨rfl,nd,rfl⟩);all_goals
     go_wp2;go_ret;refine⟨?_,_,rfl⟩;show Ending.returned (.string (⟨(z0O 16 k (n/16)).toArray⟩++⟨[z1A (n%16)].toArray⟩))=_;rw[z0G]
theorem z8B {k:Nat} {w w':World} (ho:w'.os=w.os) (ht:w'.tape=w.tape) (hu:w'.output=w.output) (hh:w'.heap=w.heap):Below k w w':=⟨ho,ht,hu,by rw[hh];exact Nat.le_refl _,fun _ _=>by rw[hh]⟩
theorem zma (n:Nat) (h:n<10):((z1A n).toNat:Int)=48+(n:Int):=by
 have:∀k:Fin 10,((z1A k.val).toNat:Int)=48+(k.val:Int):=by decide+kernel
 exact this ⟨n,h⟩
theorem zkn:∀(k n:Nat) (w:World),k≤40→n<10^(k+1)→n<4294967296→CB 128 #[.int .i64 n] w (.string ⟨(z0O 10 k n).toArray⟩)
 |k,n,w,hk40,hn,hn2=>by
  by_cases h:n<10
  ·have hcv:=zo0 (z1A n) (48+(n:Int)) (zma n h) w
   have HD:Hid (z0O 10 k n=[z1A n]):=by
    show _=_;cases k with
    |zero=>rfl
    |succ k=>unfold z0O;rw[if_pos h]
   rw[HD.out];have hi:(n:Int)<10:=(by omega);generalize z1A n=x at*;clear hn;go_enter func128,ntmps128;go_wp2;go_ret;exact⟨rfl,(Below.refl _ _).alloc (Nat.le_refl _) _⟩
  ·match k,hk40,hn with
   |0,_,hn=>exact absurd (by simpa using hn) h
   |k+1,hk40,hn=>
    have hq:n/10<10^(k+1):=(by rw[Nat.div_lt_iff_lt_mul (by omega)];rwa[Nat.pow_succ] at hn);have IH:=hI fun w=>by
     have:=zkn k (n/10) w (by omega) hq (by omega);rw[show((n/10:Nat):Int)=(n:Int)/10 by omega] at this;exact this
    have HD:Hid (z0O 10 (k+1) n=z0O 10 k (n/10)++ [z1A (n%10)]):=(by show _=_;rw[z0O,if_neg h]);rw[HD.out];have hw1:IntKind.i64.wrap ((n:Int)/10)=(n:Int)/10:=z4v _ (by omega) (by omega);have hw2:(n:Int).tmod 10=(n:Int)%10:=Int.tmod_eq_emod_of_nonneg (by omega);have hw3:IntKind.i64.wrap (48+(n:Int)%10)=48+(n:Int)%10:=z4v _ (by omega) (by omega);have hw4:IntKind.u8.wrap (48+(n:Int)%10)=48+(n:Int)%10:=(by simp only[IntKind.wrap,IntKind.bits,IntKind.signed];simp;omega);have hd:=zma (n%10) (by omega);have hd2:((z1A (n%10)).toNat:Int)=48+(n:Int)%10:=(by rw[hd];omega);have hcv:∀(W:World) (g:Nat),W.cell? ⟨g,0,none⟩=some (.int .u8 (48+(n:Int)%10))→(convert 47 9 (.slice (some ⟨g,0,none⟩) 1 1)).run prog W=.ok (.string ⟨#[z1A (n%10)]⟩) W:=by
     intro W g hc;exact run_convert_bytes_back W 47 9 5 ⟨g,0,none⟩ 1 [z1A (n%10)] underlying47 underlying5 underlying9 (fun i hi=>by
      match i,hi with
      |0,_=>
       refine hc.trans ?_;show some (Value.int .u8 (48+(n:Int)%10))=some (Value.int .u8 ((z1A (n%10)).toNat:Int));rw[hd2])
    have hdl:(z0O 10 k (n/10)).length≤41:=(by have:=z4u 10 k (n/10);omega);clear hn hq hd hd2;go_enter func128,ntmps128;go_wp2_with fail;go_region_with (go_at_call 128;refine(IH.out _).mono ?_;rintro e w1 ⟨rfl,b1⟩;first|(have hcc:w1.cell? ⟨w.heap.size,0,none⟩=some (.int .u8 (48+(n:Int)%10)):=(b1.cell (p:=⟨w.heap.size,0,none⟩) (by simp)).trans (World.cell?_alloc_new _ #[.int .u8 (48+(n:Int)%10)] 5 0))|skip);all_goals
     go_wp2;go_ret;refine⟨?_,?_⟩
     ·show Ending.returned (.string (⟨(z0O 10 k (n/10)).toArray⟩++⟨[z1A (n%10)].toArray⟩))=_
      rw[z0G]
     ·first
       |exact((z8B rfl rfl rfl rfl:Below w.heap.size w w.drew).trans b1).alloc b1.size _
       |exact((z8B rfl rfl rfl rfl:Below w.heap.size w w.drew).alloc (Nat.le_refl _) _).trans (b1.mono (by simp))
       |exact((z8B rfl rfl rfl rfl:Below w.heap.size w w.drew).alloc (Nat.le_refl _) _).trans (b1.mono (Nat.le_succ _))
theorem zjy (ps:List Nat) (i:Nat) (h:i<ps.length):z3A (ps.drop i)=if ps[i]=0 then z3A (ps.drop (i+1))+1 else 0:=by rw[List.drop_eq_getElem_cons h];rfl
theorem zcG:∀l:List Nat,z3A l≤l.length
 | []=>Nat.le_refl _
 |p::l=>by
  unfold z3A;split
  ·have:=zcG l;simp;omega
  ·simp
theorem zjz (ps:List Nat) (i:Nat) (h:i<ps.length) (f:Int) (s:Nat):z1F (ps.drop i) i f s=if s<z3A (ps.drop i) then z1F (ps.drop (i+1)) (i+1) i (z3A (ps.drop i)) else z1F (ps.drop (i+1)) (i+1) f s:=by
 conv=>lhs;rw[List.drop_eq_getElem_cons h]
 rw[List.drop_eq_getElem_cons h];rfl
theorem z8C:∀(l:List Nat) (i:Nat) (f:Int) (s:Nat), -1≤f→f+s≤i+l.length→ -1≤(z1F l i f s).1∧(z1F l i f s).1+(z1F l i f s).2≤i+l.length
 | [],i,f,s,h,h2=>⟨h,h2⟩
 |p::l,i,f,s,h,h2=>by
  unfold z1F;have hz:=zcG (p::l);simp only[List.length_cons] at hz h2⊢;split
  ·have:=z8C l (i+1) i (z3A (p::l)) (by omega) (by omega)
   refine⟨this.1,?_⟩;have h3:=this.2;omega
  ·have:=z8C l (i+1) f s h (by omega)
   refine⟨this.1,?_⟩;have h3:=this.2;omega
theorem zb4 (ps:List Nat) (i:Nat) (h:i<ps.length):z0A (ps.take (i+1))=if i=0 then pieceTxt ps[i] else z0A (ps.take i)++58::pieceTxt ps[i]:=by
 have e:ps.take (i+1)=ps.take i++ [ps[i]]:=by rw[List.take_add_one,List.getElem?_eq_getElem h];rfl
 rw[e];unfold z0A;rw[List.map_append];have hl:((ps.take i).map pieceTxt).length=i:=by simp;omega
 generalize(ps.take i).map pieceTxt=l at*;cases l with
 |nil=>simp at hl;rw[if_pos hl.symm];exact Lib.join_one _ _
 |cons x r=>rw[if_neg (by simp at hl;omega)];rw[List.cons_append,Lib.join_cons,Lib.join_cons];unfold Lib.joinTail;simp
def z27 (ps:List Nat) (f s:Nat) (i:Nat):List UInt8:=
 if i≤f then z0A (ps.take i) else if i≤f+s then z0A (ps.take f)++ [58,58] else z0A (ps.take f)++([58,58]++z0A ((ps.drop (f+s)).take (i-(f+s))))
theorem zn9 (ps:List Nat) (f s i:Nat) (h:i<f) (hi:i<ps.length):z27 ps f s (i+1)=if i=0 then pieceTxt ps[i] else z27 ps f s i++58::pieceTxt ps[i]:=by have e1:z27 ps f s (i+1)=z0A (ps.take (i+1)):=if_pos (by omega);have e2:z27 ps f s i=z0A (ps.take i):=if_pos (by omega);rw[e1,e2];exact zb4 ps i hi
theorem zna (ps:List Nat) (f s:Nat) (hs:0<s):z27 ps f s (f+1)=z27 ps f s f++ [58,58]:=by unfold z27;rw[if_neg (by omega),if_pos (by omega),if_pos (by omega)]
theorem znb (ps:List Nat) (f s i:Nat) (h:f<i) (h2:i<f+s):z27 ps f s (i+1)=z27 ps f s i:=by unfold z27;rw[if_neg (by omega),if_pos (by omega),if_neg (by omega),if_pos (by omega)]
theorem zle (ps:List Nat) (f s i:Nat) (hs:0<s) (h:f+s≤i) (hi:i<ps.length):z27 ps f s (i+1)=if i=f+s then z27 ps f s i++pieceTxt ps[i] else z27 ps f s i++58::pieceTxt ps[i]:=by
 have hd:i-(f+s)<(ps.drop (f+s)).length:=by rw[List.length_drop];omega
 have hr:=zb4 (ps.drop (f+s)) (i-(f+s)) hd;have hg:(ps.drop (f+s))[i-(f+s)]=ps[i]:=by rw[List.getElem_drop];congr 1;omega
 rw[hg] at hr;unfold z27;rw[if_neg (by omega),if_neg (by omega),show i+1-(f+s)=i-(f+s)+1 by omega,hr];by_cases he:i=f+s
 ·rw[if_pos (by omega),if_pos he,if_neg (by omega),if_pos (by omega)]
  simp
 ·rw[if_neg (by omega),if_neg he,if_neg (by omega),if_neg (by omega)]
  simp
theorem zjA (ps:List Nat) (f s i:Nat) (h8:ps.length=8):(z27 ps f s i).length≤100:=by
 have h1:=z2f (ps.take i);have h2:=z2f (ps.take f);have h3:=z2f ((ps.drop (f+s)).take (i-(f+s)));rw[List.length_take] at h1 h2 h3;rw[List.length_drop] at h3;unfold z27;split
 ·omega
 ·split
  ·simp;omega
  ·simp;omega
theorem zjB (ps:List Nat) (f s:Nat) (h:f+s≤8) (h8:ps.length=8) (hs:0<s):z27 ps f s 8=z0A (ps.take f)++([58,58]++z0A (ps.drop (f+s))):=by
 unfold z27;rw[if_neg (by omega)];split
 ·have:f+s=8:=by omega
  rw[this,List.drop_eq_nil_of_le (by omega)];rfl
 ·rw[show List.take (8-(f+s)) (List.drop (f+s) ps)=List.drop (f+s) ps from List.take_of_length_le (by rw[List.length_drop];omega)]
theorem znc (ps:List Nat) (h8:ps.length=8) (hp:∀p∈ps,p<65536) (w:World):CB 117 #[.agg (ps.map fun p=>Value.int .i64 (p:Nat)).toArray] w (.string ⟨(z1C ps).toArray⟩):=by
 obtain⟨cs,hcs⟩:=z09 ((ps.map fun p=>Value.int .i64 (p:Nat)).toArray);rw[←hcs];obtain⟨W,hW⟩:=z09 (w.alloc (.cells cs 34));have hBW:Below w.heap.size w W:=by rw[hW];exact(Below.refl _ _).alloc (Nat.le_refl _) _
 have hz:W.heap[w.heap.size]?=some (.cells cs 34 (0,0)):=by rw[hW];exact heap_alloc_new w _
 have hzs:=(Array.getElem?_eq_some_iff.1 hz).1;have HCE:Hid (∀(i:Nat) (h:i<ps.length) w1,Below W.heap.size W w1→w1.cell? ⟨w.heap.size,i,none⟩=some (.int .i64 (ps[i]:Nat))):=by intro i h w1 b;have k:=(b.block w.heap.size hzs).trans hz;unfold World.cell?;simp[k,hcs,h]
 have HBW:Hid (∀w1,Below W.heap.size W w1→Below w.heap.size w w1):=fun w1 b=>hBW.trans (b.mono (Nat.le_of_lt hzs));have HS:Hid (∀(i:Nat) (h:i<ps.length) w1,CN 172 #[.int .i64 (ps[i]:Nat)] w1 (.string ⟨(pieceTxt ps[i]).toArray⟩)):=by intro i h w1;have hpi:=hp ps[i] (List.getElem_mem h);exact zkm 3 ps[i] w1 (by omega) (by omega) (by omega)
 have hbn:=zf9 ps h8;have HBR:Hid (-1≤(z1F ps 0 (-1) 1).1∧(z1F ps 0 (-1) 1).1+(z1F ps 0 (-1) 1).2≤8):=by have:=z8C ps 0 (-1) 1 (by omega) (by omega);refine⟨this.1,?_⟩;have h2:=this.2;omega
 have HBN:Hid _:=hbn;clear hbn hcs hBW hz;go_enter func117,ntmps117;go_upto_region 1 with fail;rw[←hW];clear hW;go_wp2_with fail;go_loopw [3,4,5] (fun a b i wr=>∃(k:Nat) (f:Int) (s:Nat),k≤8∧a=.int .i64 f∧b=.int .i64 (s:Nat)∧i=.int .i64 (k:Nat)∧s≤8∧z1F (ps.drop k) k f s=z1F ps 0 (-1) 1∧wr=W) (fun _ _ i _=>8-(intOf i).toNat)
 case atStart=>exact⟨0, -1,1,Nat.zero_le _,rfl,rfl,rfl,by omega,rfl,rfl⟩
 case round=>
  obtain⟨k,f,s,hk,rfl,rfl,rfl,hs8,hbest,hwr⟩:=hrel;obtain rfl:=hwr.symm;have HBS:=hI hbest;clear hbest;by_cases hlt:k<8
  ·have hk2:k<ps.length:=by omega
   have hst:=zjz ps k hk2 f s;have HST:Hid _:=hst;have hki:(k:Int)<8:=(by omega);have hzk:z3A (ps.drop k)≤8- k:=(by have:=zcG (ps.drop k);rw[List.length_drop] at this;omega);clear hst;go_wp2_with fail;go_loopw [6] (fun n wr=>∃m:Nat,k+m≤8∧n=.int .i64 (m:Nat)∧m+z3A (ps.drop (k+m))=z3A (ps.drop k)∧wr=W) (fun n _=>8-(intOf n).toNat)
   case atStart=>exact⟨0,by omega,rfl,by simp,rfl⟩
   case round=>
    obtain⟨m,hm,rfl,hzr,hwr⟩:=hrel;obtain rfl:=hwr.symm;have HZR:=hI hzr;clear hzr;by_cases hkm:k+m<8
    ·have hkm2:k+m<ps.length:=by omega
     have hkmi:(k:Int)+(m:Int)<8:=(by omega);have cc:=HCE.out (k+m) hkm2 W (Below.refl _ _);have hzs2:=zjy ps (k+m) hkm2;have HZ2:Hid _:=hzs2;clear hzs2;by_cases hp0:ps[k+m]=0
     ·have HZN:Hid (m+1+z3A (ps.drop (k+(m+1)))=z3A (ps.drop k)):=by
       show _=_;have h1:=HZR.out;have h2:=HZ2.out;rw[if_pos hp0] at h2;rw[show k+(m+1)=k+m+1 by omega];omega
      rw[hp0] at cc;clear hp0;go_wp2;go_roundw
      case rel=>exact⟨m+1,by omega,by go_num,HZN.out,trivial⟩
      case measure=>(simp[intOf];try omega)
     ·have HMZ:Hid (m=z3A (ps.drop k)):=by
       show _=_;have h1:=HZR.out;have h2:=HZ2.out;rw[if_neg hp0] at h2;omega
      have hne:(((ps[k+m]:Nat):Int)==0)=false:=(by rw[beq_eq_false_iff_ne];omega);generalize ps[k+m]=pk at*;clear hp0;have hmi:(m:Int)≤8:=(by omega);by_cases hgt:s<m
      ·have hgi:(s:Int)<(m:Int):=by omega
       have HNW:Hid (z1F (ps.drop (k+1)) (k+1) k m=z1F ps 0 (-1) 1):=(by show _=_;have h1:=HST.out;rw[←HMZ.out,if_pos hgt] at h1;rw[←h1];exact HBS.out);go_wp2;go_roundw
       case rel=>exact⟨k+1,k,m,by omega,rfl,rfl,by go_num,by omega,HNW.out,trivial⟩
       case measure=>(simp[intOf];try omega)
      ·have hgi:¬(s:Int)<(m:Int):=by omega
       have HNW:Hid (z1F (ps.drop (k+1)) (k+1) f s=z1F ps 0 (-1) 1):=(by show _=_;have h1:=HST.out;rw[←HMZ.out,if_neg hgt] at h1;rw[←h1];exact HBS.out);go_wp2;go_roundw
       case rel=>exact⟨k+1,f,s,by omega,rfl,rfl,by go_num,hs8,HNW.out,trivial⟩
       case measure=>(simp[intOf];try omega)
    ·have HMZ:Hid (m=z3A (ps.drop k)):=by
      show _=_;have h1:=HZR.out;rw[List.drop_eq_nil_of_le (by omega)] at h1;exact h1
     have hkmi:¬(k:Int)+(m:Int)<8:=(by omega);have hmi:(m:Int)≤8:=(by omega);by_cases hgt:s<m
     ·have hgi:(s:Int)<(m:Int):=by omega
      have HNW:Hid (z1F (ps.drop (k+1)) (k+1) k m=z1F ps 0 (-1) 1):=(by show _=_;have h1:=HST.out;rw[←HMZ.out,if_pos hgt] at h1;rw[←h1];exact HBS.out);go_wp2;go_roundw
      case rel=>exact⟨k+1,k,m,by omega,rfl,rfl,by go_num,by omega,HNW.out,trivial⟩
      case measure=>(simp[intOf];try omega)
     ·have hgi:¬(s:Int)<(m:Int):=by omega
      have HNW:Hid (z1F (ps.drop (k+1)) (k+1) f s=z1F ps 0 (-1) 1):=(by show _=_;have h1:=HST.out;rw[←HMZ.out,if_neg hgt] at h1;rw[←h1];exact HBS.out);go_wp2;go_roundw
      case rel=>exact⟨k+1,f,s,by omega,rfl,rfl,by go_num,hs8,HNW.out,trivial⟩
      case measure=>(simp[intOf];try omega)
  ·have hke:k=8:=by omega
   subst hke;have HFS:Hid ((f,s)=z1F ps 0 (-1) 1):=by show _=_;have h:=HBS.out;rw[List.drop_eq_nil_of_le (by omega)] at h;exact h
   by_cases hno:(z0B ps 0 0 0 0).2<2
   ·have hfs:=HFS.out
    rw[HBN.out,if_pos hno] at hfs;injection hfs with hf hs;subst hf hs;have HT:Hid (z1C ps=z0A ps):=if_pos hno;clear hno HBN HBS HFS HBR;go_wp2_with fail;go_loopw [7,8] (fun o i wr=>∃i0:Nat,i0≤8∧i=.int .i64 (i0:Nat)∧o=.string ⟨(z0A (ps.take i0)).toArray⟩∧Below W.heap.size W wr) (fun _ i _=>8-(intOf i).toNat)
    case atStart=>exact⟨0,Nat.zero_le _,rfl,rfl,Below.refl _ _⟩
    case round=>
     obtain⟨i,hi,rfl,rfl,hb⟩:=hrel;have HB:=hI hb;by_cases hi8:i<8
     ·have hi2:i<ps.length:=by omega
      have hii:(i:Int)<8:=(by omega);have cc:=HCE.out i hi2 wr hb;have hrs:=zb4 ps i hi2;have hl1:=z2f (ps.take i);have hl2:(pieceTxt ps[i]).length≤4:=z4u 16 3 ps[i];have hsz1:(⟨(z0A (ps.take i)).toArray⟩:ByteArray).size≤40:=(by rw[z07];rw[List.length_take] at hl1;omega);have hsz2:(⟨(pieceTxt ps[i]).toArray⟩:ByteArray).size≤4:=(by rw[z07];exact hl2);have hm1:((i:Int)== -1)=false:=(by rw[beq_eq_false_iff_ne];omega);clear hb hl1 hl2;by_cases h0:i=0
      ·subst h0
       rw[if_pos rfl] at hrs;have HA:Hid ((⟨(z0A (ps.take 0)).toArray⟩:ByteArray)++⟨(pieceTxt ps[0]).toArray⟩=⟨(z0A (ps.take (0+1))).toArray⟩):=by show _=_;rw[hrs];exact z0G [] _
       generalize(⟨(z0A (ps.take 0)).toArray⟩:ByteArray)=acc at*;obtain⟨pt,hpt⟩:=z09 (⟨(pieceTxt ps[0]).toArray⟩:ByteArray);have HSI:Hid (CN 172 #[.int .i64 (ps[0]:Nat)] wr (.string pt)):=(by show Calls _ _ _ _ _;rw[hpt];exact HS.out 0 hi2 wr);rw[←hpt] at HA hsz2;have g1:∀W:World,(Op.stringOp .add acc pt).run prog W=.ok (.string (acc++pt)) W:=fun W=>run_string_add_sum W _ _ (by omega);clear hrs hpt hsz1 hsz2;go_wp2_with fail;refine Calls.mono HSI.out ?_;rintro e w2 ⟨rfl,nd,rfl⟩;have HB2:=hI (Go.below_drewN HB.out nd);clear cc;go_wp2;go_roundw
       case rel=>exact⟨1,by omega,by go_num,congrArg Value.string HA.out,HB2.out⟩
       case measure=>(simp[intOf];try omega)
      ·rw[if_neg h0] at hrs
       have hpos:(0:Int)<(i:Int):=(by omega);have hne0:((i:Int)==0)=false:=(by rw[beq_eq_false_iff_ne];omega);have HA:Hid ((⟨(z0A (ps.take i)).toArray⟩:ByteArray)++⟨#[58]⟩++⟨(pieceTxt ps[i]).toArray⟩=⟨(z0A (ps.take (i+1))).toArray⟩):=(by show _=_;have e1:(⟨(z0A (ps.take i)).toArray⟩:ByteArray)++⟨#[58]⟩=⟨(z0A (ps.take i)++ [58]).toArray⟩:=z0G _ [58];rw[e1,z0G,hrs];simp);generalize(⟨(z0A (ps.take i)).toArray⟩:ByteArray)=acc at*;obtain⟨pt,hpt⟩:=z09 (⟨(pieceTxt ps[i]).toArray⟩:ByteArray);have HSI:Hid (CN 172 #[.int .i64 (ps[i]:Nat)] wr (.string pt)):=(by show Calls _ _ _ _ _;rw[hpt];exact HS.out i hi2 wr);rw[←hpt] at HA hsz2;have z58:(⟨#[58]⟩:ByteArray).size=1:=rfl;have g0:∀W:World,(Op.stringOp .add acc ⟨#[58]⟩).run prog W=.ok (.string (acc++⟨#[58]⟩)) W:=fun W=>run_string_add_sum W _ _ (by omega);have g1:∀W:World,(Op.stringOp .add (acc++⟨#[58]⟩) pt).run prog W=.ok (.string (acc++⟨#[58]⟩++pt)) W:=fun W=>run_string_add_sum W _ _ (by simp only[ByteArray.size_append];omega);clear hrs hpt hsz1 hsz2 z58 h0;go_wp2_with fail;refine Calls.mono HSI.out ?_;rintro e w2 ⟨rfl,nd,rfl⟩;have HB2:=hI (Go.below_drewN HB.out nd);clear cc;go_wp2;go_roundw
       case rel=>exact⟨i+1,by omega,by go_num,congrArg Value.string HA.out,HB2.out⟩
       case measure=>(simp[intOf];try omega)
     ·have hie:ps.take i=ps:=List.take_of_length_le (by omega)
      rw[hie];clear hie hb;go_wp2;go_ret;rw[HT.out];exact⟨rfl,HBW.out _ HB.out⟩
   ·have hfs:=HFS.out
    rw[HBN.out,if_neg hno] at hfs;injection hfs with hf hs;have hbr:=HBR.out;rw[HBN.out,if_neg hno] at hbr;have HT:Hid (z1C ps=z0A (ps.take (z0B ps 0 0 0 0).1)++([58,58]++z0A (ps.drop ((z0B ps 0 0 0 0).1+(z0B ps 0 0 0 0).2)))):=if_neg hno;have hS2:2≤(z0B ps 0 0 0 0).2:=(by omega);have hF8:(z0B ps 0 0 0 0).1+(z0B ps 0 0 0 0).2≤8:=(by have:=hbr.2;simp only at this;omega);generalize(z0B ps 0 0 0 0).1=F at*;generalize(z0B ps 0 0 0 0).2=S at*;subst hf hs;clear hno HBN HBS HFS HBR hbr;go_wp2_with fail;go_loopw [7,8] (fun o i wr=>∃i0:Nat,i0≤8∧i=.int .i64 (i0:Nat)∧o=.string ⟨(z27 ps F s i0).toArray⟩∧Below W.heap.size W wr) (fun _ i _=>8-(intOf i).toNat)
    case atStart=>exact⟨0,Nat.zero_le _,rfl,by unfold z27;rw[if_pos (by omega)];rfl,Below.refl _ _⟩
    case round=>
     obtain⟨i,hi,rfl,rfl,hb⟩:=hrel;have HB:=hI hb;by_cases hi8:i<8
     ·have hi2:i<ps.length:=by omega
      have hii:(i:Int)<8:=(by omega);have cc:=HCE.out i hi2 wr hb;have hl1:=zjA ps F s i h8;have hl2:(pieceTxt ps[i]).length≤4:=z4u 16 3 ps[i];obtain⟨acc,hacc⟩:=z09 (⟨(z27 ps F s i).toArray⟩:ByteArray);obtain⟨pt,hpt⟩:=z09 (⟨(pieceTxt ps[i]).toArray⟩:ByteArray);have hsz1:acc.size≤100:=(by rw[hacc,z07];exact hl1);have hsz2:pt.size≤4:=(by rw[hpt,z07];exact hl2);have HSI:Hid (CN 172 #[.int .i64 (ps[i]:Nat)] wr (.string pt)):=(by show Calls _ _ _ _ _;rw[hpt];exact HS.out i hi2 wr);have hF0:(0:Int)≤(F:Int):=(by omega);rw[←hacc];clear hb hl1 hl2;by_cases hA:i<F
      ·have hst:=zn9 ps F s i hA hi2
       have hne1:((i:Int)==(F:Int))=false:=(by rw[beq_eq_false_iff_ne];omega);have hlt1:¬(F:Int)≤(i:Int):=(by omega);by_cases h0:i=0
       ·rw[if_pos h0] at hst
        have hnp:¬(0:Int)<(i:Int):=(by omega);have HA:Hid (acc++pt=⟨(z27 ps F s (i+1)).toArray⟩):=(by show _=_;have e0:z27 ps F s i=[]:=(by rw[h0];unfold z27;rw[if_pos (by omega)];rfl);rw[hacc,hpt,hst,e0];exact z0G [] _);have g1:∀W:World,(Op.stringOp .add acc pt).run prog W=.ok (.string (acc++pt)) W:=fun W=>run_string_add_sum W _ _ (by omega);clear hst hacc hpt hsz1 hsz2 h0;go_wp2_with fail;refine Calls.mono HSI.out ?_;rintro e w2 ⟨rfl,nd,rfl⟩;have HB2:=hI (Go.below_drewN HB.out nd);clear cc;go_wp2;go_roundw
        case rel=>exact⟨i+1,by omega,by go_num,congrArg Value.string HA.out,HB2.out⟩
        case measure=>(simp[intOf];try omega)
       ·rw[if_neg h0] at hst
        have HSTEP:Hid _:=hst;have hpos:(0:Int)<(i:Int):=(by omega);have hne0:((i:Int)==(F:Int)+(s:Int))=false:=(by rw[beq_eq_false_iff_ne];omega);clear hst h0;have HA:Hid (acc++⟨#[58]⟩++pt=⟨(z27 ps F s (i+1)).toArray⟩):=(by show _=_;have e1:(⟨(z27 ps F s i).toArray⟩:ByteArray)++⟨#[58]⟩=⟨(z27 ps F s i++ [58]).toArray⟩:=z0G _ [58];rw[hacc,hpt,HSTEP.out,e1,z0G];simp);have z58:(⟨#[58]⟩:ByteArray).size=1:=rfl;have g0:∀W:World,(Op.stringOp .add acc ⟨#[58]⟩).run prog W=.ok (.string (acc++⟨#[58]⟩)) W:=fun W=>run_string_add_sum W _ _ (by omega);have g1:∀W:World,(Op.stringOp .add (acc++⟨#[58]⟩) pt).run prog W=.ok (.string (acc++⟨#[58]⟩++pt)) W:=fun W=>run_string_add_sum W _ _ (by simp only[ByteArray.size_append];omega);clear z58;clear hacc hpt hsz1 hsz2;go_wp2_with fail;refine Calls.mono HSI.out ?_;rintro e w2 ⟨rfl,nd,rfl⟩;have HB2:=hI (Go.below_drewN HB.out nd);clear cc;go_wp2;go_roundw
        case rel=>exact⟨i+1,by omega,by go_num,congrArg Value.string HA.out,HB2.out⟩
        case measure=>(simp[intOf];try omega)
      ·by_cases hB:i=F
       ·have hst:=zna ps F s (by omega)
        have heq1:((i:Int)==(F:Int))=true:=(by rw[beq_iff_eq];omega);have hge1:(F:Int)≤(i:Int):=(by omega);have hlt2:(i:Int)<(F:Int)+(s:Int):=(by omega);have HA:Hid (acc++⟨#[58,58]⟩=⟨(z27 ps F s (i+1)).toArray⟩):=(by show _=_;rw[hacc,hB,hst];exact z0G _ [58,58]);have z58:(⟨#[58,58]⟩:ByteArray).size=2:=rfl;have g1:∀W:World,(Op.stringOp .add acc ⟨#[58,58]⟩).run prog W=.ok (.string (acc++⟨#[58,58]⟩)) W:=fun W=>run_string_add_sum W _ _ (by omega);clear hst hacc hpt hsz1 hsz2 z58 hB hA HSI;go_wp2;go_roundw
        case rel=>exact⟨i+1,by omega,by go_num,congrArg Value.string HA.out,HB.out⟩
        case measure=>(simp[intOf];try omega)
       ·have hne1:((i:Int)==(F:Int))=false:=by rw[beq_eq_false_iff_ne];omega
        have hge1:(F:Int)≤(i:Int):=(by omega);by_cases hC:i<F+s
        ·have hst:=znb ps F s i (by omega) hC
         have hlt2:(i:Int)<(F:Int)+(s:Int):=(by omega);have HA:Hid (acc=⟨(z27 ps F s (i+1)).toArray⟩):=(by show _=_;rw[hacc,hst]);clear hst hacc hpt hsz1 hsz2 hB hA HSI hC;go_wp2;go_roundw
         case rel=>exact⟨i+1,by omega,by go_num,congrArg Value.string HA.out,HB.out⟩
         case measure=>(simp[intOf];try omega)
        ·have hst:=zle ps F s i (by omega) (by omega) hi2
         have hlt2:¬(i:Int)<(F:Int)+(s:Int):=(by omega);have hpos:(0:Int)<(i:Int):=(by omega);by_cases hD:i=F+s
         ·rw[if_pos hD] at hst
          have heq0:((i:Int)==(F:Int)+(s:Int))=true:=(by rw[beq_iff_eq];omega);have HA:Hid (acc++pt=⟨(z27 ps F s (i+1)).toArray⟩):=(by show _=_;rw[hacc,hpt,hst];exact z0G _ _);have g1:∀W:World,(Op.stringOp .add acc pt).run prog W=.ok (.string (acc++pt)) W:=fun W=>run_string_add_sum W _ _ (by omega);clear hst hacc hpt hsz1 hsz2 hB hA hC hD;go_wp2_with fail;refine Calls.mono HSI.out ?_;rintro e w2 ⟨rfl,nd,rfl⟩;have HB2:=hI (Go.below_drewN HB.out nd);clear cc;go_wp2;go_roundw
          case rel=>exact⟨i+1,by omega,by go_num,congrArg Value.string HA.out,HB2.out⟩
          case measure=>(simp[intOf];try omega)
         ·rw[if_neg hD] at hst
          have HSTEP:Hid _:=hst;have hne0:((i:Int)==(F:Int)+(s:Int))=false:=(by rw[beq_eq_false_iff_ne];omega);clear hst hB hA hC hD;have HA:Hid (acc++⟨#[58]⟩++pt=⟨(z27 ps F s (i+1)).toArray⟩):=(by show _=_;have e1:(⟨(z27 ps F s i).toArray⟩:ByteArray)++⟨#[58]⟩=⟨(z27 ps F s i++ [58]).toArray⟩:=z0G _ [58];rw[hacc,hpt,HSTEP.out,e1,z0G];simp);have z58:(⟨#[58]⟩:ByteArray).size=1:=rfl;have g0:∀W:World,(Op.stringOp .add acc ⟨#[58]⟩).run prog W=.ok (.string (acc++⟨#[58]⟩)) W:=fun W=>run_string_add_sum W _ _ (by omega);have g1:∀W:World,(Op.stringOp .add (acc++⟨#[58]⟩) pt).run prog W=.ok (.string (acc++⟨#[58]⟩++pt)) W:=fun W=>run_string_add_sum W _ _ (by simp only[ByteArray.size_append];omega);clear z58;clear hacc hpt hsz1 hsz2;go_wp2_with fail;refine Calls.mono HSI.out ?_;rintro e w2 ⟨rfl,nd,rfl⟩;have HB2:=hI (Go.below_drewN HB.out nd);clear cc;go_wp2;go_roundw
          case rel=>exact⟨i+1,by omega,by go_num,congrArg Value.string HA.out,HB2.out⟩
          case measure=>(simp[intOf];try omega)
     ·have hie:i=8:=by omega
      subst hie;have HE:Hid _:=zjB ps F s hF8 h8 (by omega);clear hb;go_wp2;go_ret;rw[HT.out,←HE.out];exact⟨rfl,HBW.out _ HB.out⟩
end Go.Proofs
