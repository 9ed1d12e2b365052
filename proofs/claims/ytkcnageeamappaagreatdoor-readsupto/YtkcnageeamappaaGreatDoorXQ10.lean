import Derived.Test.YtkcnageeamappaaGreatDoorXQ9
import Derived.Deep.CutRange
set_option maxHeartbeats 32000000
set_option maxRecDepth 8000
namespace Go.Proofs
open Go.RowKit Go.Moor Go.Proofs.Tryz
theorem zoo:(prog.info? 3).map (fun i=>(i.zero,i.size,i.bytes))=some (some (.int .i64 0),1,8):=by kernel_rfl
def z7f (l:List Nat):List Value:=l.map fun n=>Value.int .i64 (n:Nat)
theorem zf2 (a b:List Nat):z7f (a++b)=z7f a++z7f b:=List.map_append
def zgW (o:Option Int) (e:Ending):Prop:=
 match o with
 |some n=>e=.returned (.tuple #[.string ⟨(z2U n.toNat).toArray⟩,.bool true])
 |none=>e=.returned (.tuple #[.string ⟨#[]⟩,.bool false])
theorem zop (base n d:Int) (hb:2≤base) (hb2:base≤16) (hn:0≤n) (hn2:n≤4294967296) (hd:0≤d) (hd2:d≤15):wrap64 (n*base)=n*base∧wrap64 (n*base+d)=n*base+d∧0≤z2H base n d∧z2H base n d≤4294967296:=by
 have h1:0≤n*base:=Int.mul_nonneg hn (by omega);have h2:=Int.mul_le_mul hn2 hb2 (by omega) (by omega);refine⟨by unfold wrap64;omega,by unfold wrap64;omega,?_,?_⟩
 ·unfold z2H;split<;>omega
 ·unfold z2H;split<;>omega
theorem zmS (ls:List Bs) (sp:Option Addr) (cap:Nat) (w:World) (hne:ls≠[]) (hlc:ls.length≤4001) (hlb:∀x∈ls,x.length≤4000) (hrow:∃g,sp=some ⟨g,0,none⟩∧g<w.heap.size∧∀(j:Nat) x,ls[j]?=some x→w.cell? ⟨g,j,none⟩=some (.string ⟨x.toArray⟩)):CP 120 #[.slice sp ls.length cap] w (zgW (ip4 ls)):=by
 obtain⟨gl,rfl,hgl,hcl⟩:=hrow;obtain⟨i0,hi,hz0,hz1,hz2⟩:=info_parts zoo;have HHX:=hI fun c w1=>zdY c w1;have HDE:Hid (∀(n:Nat) w1,n<256→CB 128 #[.int .i64 n] w1 (.string ⟨(Lib.decDigits n).toArray⟩)):=fun n w1 h=>by
  have:=zkn 31 n w1 (by omega) (by omega) (by omega);rw[z69 31 n (by omega)] at this;exact this
 have HCL:Hid (∀(j:Nat) x w1,Below w.heap.size w w1→ls[j]?=some x→w1.cell? ⟨gl,j,none⟩=some (.string ⟨x.toArray⟩)):=fun j x w1 b h=>(b.cell (by exact hgl)).trans (hcl j x h);have HLB:=hI hlb;clear hcl hlb;suffices key:∀res:Option Int,Hid (res=ip4 ls)→Calls prog 120 #[.slice (some ⟨gl,0,none⟩) ls.length cap] w fun e w'=>zgW res e∧Below w.heap.size w w' from key _ rfl
 intro res HRES;have hl1:=List.length_pos_iff.2 hne;by_cases h4:4<ls.length
 ·have HN:Hid (res=none):=by
   show _=_;rw[HRES.out];exact if_pos h4
  have h4i:(4:Int)<(ls.length:Int):=by omega
  go_enter func120,ntmps120;go_wp2;go_ret2;rw[HN.out];exact⟨rfl,Below.refl _ _⟩
 have h4n:ls.length≤4:=by omega
 clear h4 hlc hne;go_enter func120,ntmps120;go_wp2_with fail;go_loopw [4,5] (fun v i wr=>∃(q:Nat) (bs:List Nat),q≤ls.length∧i=.int .i64 q∧bs.length≤4∧(∀x∈bs,x<256)∧z8f ls q bs∧wr.ownsRow w.heap.size 3 1 v bs.length (z7f bs)∧Below w.heap.size w wr) (fun _ i _=>ls.length-(intOf i).toNat)
 case atStart=>exact⟨0,[],Nat.zero_le _,rfl,Nat.zero_le _,(fun x h=>by cases h),Or.inl ⟨hl1,0,rfl,rfl⟩,World.ownsRow_nil _ _ _ _,Below.refl _ _⟩
 case round=>
  obtain⟨q,bs,hq,rfl,hbl,hbx,hinv,hown,hb⟩:=hrel;obtain⟨spb,capb,rfl,_⟩:=z1t hown;have HBX:=hI hbx;have HINV:=hI hinv;have HO:=hI hown;have HB:=hI hb;have hbz:=hb.size;clear hbx hinv hown hb;by_cases hlt:q<ls.length
  ·obtain⟨x,hx⟩:∃x,ls[q]?=some x:=⟨ls[q],List.getElem?_eq_getElem hlt⟩
   have cx:=HCL.out q x wr HB.out hx;have HXE:Hid (ls[q]=x):=(List.getElem?_eq_some_iff.1 hx).2;have hxl:=HLB.out x (List.mem_of_getElem? hx);obtain⟨V,hV⟩:=z09 wr;subst hV;obtain⟨xb,hxb⟩:=z09 (⟨x.toArray⟩:ByteArray);rw[←hxb] at cx;have HXZ:Hid (xb.size=x.length):=(by show _=_;rw[hxb];exact z07 x);have hxl2:xb.size≤4000:=(by rw[HXZ.out];exact hxl);have HXT:Hid (∀i j:Nat,xb.extract i j=⟨((x.drop i).take (j- i)).toArray⟩):=(by intro i j;rw[hxb];exact z1Z _ i j);have HXG:Hid (∀(k:Nat) (h:k<xb.size) (h2:k<x.length),x[k]=xb[k]):=(by intro k h h2;subst hxb;rfl);have HXM:Hid (xb.toList.isEmpty=x.isEmpty):=(by show _=_;rw[hxb,Lib.toList_data]);have hleft:z3q ls q≤4∧1≤z3q ls q:=(by unfold z3q;split<;>omega);have HNO:Hid (z0I (256^z3q ls q- 1) x=none→res=none):=(by intro h;rw[HRES.out];exact zmT ls q bs hlt HINV.out (by rw[HXE.out];exact h));have HYE:=hI fun m h h2=>zmU ls q bs m hlt h4n HINV.out (by rw[HXE.out];exact h) h2;clear hx hxb hxl;go_upto_region 9 with fail;go_cut [38] from 21 to 111 (fun b wx=>b=.bool (Lib.hasPrefix x [48,120])∧wx=V)
   case first=>
    by_cases h2:xb.size<2
    ·have hi2:¬(2:Int)≤(xb.size:Int):=by omega
     have HPF:Hid (Lib.hasPrefix x [48,120]=false):=by
      show _=_;match x,HXZ.out with
      | [],_=>simp[Lib.hasPrefix]
      | [a],_=>simp[Lib.hasPrefix,List.isPrefixOf]
      |a::b::r,hl=>simp at hl;omega
     go_wp2;go_meet;exact⟨by rw[HPF.out],rfl⟩
    ·have hi3:(2:Int)≤(xb.size:Int):=by omega
     have hpx:((xb.extract 0 2).toList==[48,120])=Lib.hasPrefix x [48,120]:=by
      rw[HXT.out 0 2,Lib.toList_data];show(List.take 2 (List.drop 0 x)==[48,120])=_;match x,HXZ.out with
      | [],hl=>simp only[List.length_nil] at hl;omega
      | [a],hl=>simp only[List.length_cons,List.length_nil] at hl;omega
      |a::b::r,_=>
       simp[Lib.hasPrefix];rw[Bool.eq_iff_iff];simp;constructor
       ·rintro⟨rfl,rfl⟩;exact⟨rfl,rfl⟩
       ·rintro⟨rfl,rfl⟩;exact⟨rfl,rfl⟩
     generalize Lib.hasPrefix x [48,120]=hp at*;cases hp;all_goals
      go_wp2;go_meet;exact⟨rfl,rfl⟩
   case rest=>
   obtain⟨rfl,hwc⟩:=hcut;obtain rfl:=hwc.symm;obtain⟨db,hdb⟩:=z09 (⟨(z21 x).2.toArray⟩:ByteArray);obtain⟨ba,hba⟩:=z09 ((z21 x).1);go_upto_if 38 with fail
   go_cut [6,7] from 21 to 111 (fun a b wx=>a=.string db∧b=.int .i64 ba∧x≠[]∧wx=V)
   case first=>
    by_cases hxe:x=[]
    ·have HN:=hI (HNO.out (by rw[hxe];rfl))
     have hp:Lib.hasPrefix x [48,120]=false:=(by rw[hxe];rfl);have hxe2:xb.toList.isEmpty=true:=(by rw[HXM.out,hxe];rfl);generalize Lib.hasPrefix x [48,120]=hpv at*;subst hp;clear hxe;go_wp2;go_ret2;rw[HN.out];exact⟨rfl,HB.out⟩
    ·have hxe2:xb.toList.isEmpty=false:=by
      rw[HXM.out];cases x with
      |nil=>exact absurd rfl hxe
      |cons=>rfl
     have HXE2:Hid (x≠[]):=hxe;cases hp:Lib.hasPrefix x [48,120] with
     |true=>
      have e:z21 x=(16,x.drop 2):=if_pos hp;rw[e] at hdb hba;have hx2:(2:Int)≤(xb.size:Int):=by
       match x,HXZ.out,hp with
       | [],_,h=>simp[Lib.hasPrefix] at h
       | [a],_,h=>simp[Lib.hasPrefix,List.isPrefixOf] at h
       |a::b::r,hl,_=>simp at hl;omega
      have HX:Hid (xb.extract 2 xb.size=db):=(by show _=_;rw[HXT.out 2 xb.size,hdb,List.take_of_length_le (by have:=HXZ.out;rw[List.length_drop];omega)]);have HBA:Hid (ba=16):=hba;clear e hdb hba hp hxe;go_wp2;go_meet;exact⟨congrArg Value.string HX.out,by rw[HBA.out],HXE2.out,rfl⟩
     |false=>
      by_cases h8:1<x.length∧x.head? =some 48
      ·have e:z21 x=(8,x.drop 1):=by unfold z21;rw[if_neg (by simp[hp]),if_pos h8]
       rw[e] at hdb hba;have hx2:(1:Int)<(xb.size:Int):=(by have:=HXZ.out;omega);have h0:0<xb.size:=(by omega);have h00:0<x.length:=(by have:=HXZ.out;omega);have h48:((xb[0].toNat:Int)==48)=true:=by have h1:=HXG.out 0 h0 h00;have h2:=h8.2;rw[List.head?_eq_getElem?,List.getElem?_eq_getElem h00,h1] at h2;rw[Option.some.inj h2];rfl
       have HX:Hid (xb.extract 1 xb.size=db):=(by show _=_;rw[HXT.out 1 xb.size,hdb,List.take_of_length_le (by have:=HXZ.out;rw[List.length_drop];omega)]);have HBA:Hid (ba=8):=hba;clear e hdb hba hp h8 hxe;go_wp2;go_meet;exact⟨congrArg Value.string HX.out,by rw[HBA.out],HXE2.out,rfl⟩
      ·have e:z21 x=(10,x):=by unfold z21;rw[if_neg (by simp[hp]),if_neg h8]
       rw[e] at hdb hba;have HX:Hid (xb=db):=by show _=_;have:=HXT.out 0 xb.size;rw[List.drop_zero,List.take_of_length_le (by have:=HXZ.out;omega)] at this;rw[hdb,←this];exact(ByteArray.extract_zero_size).symm
       have HBA:Hid (ba=10):=hba;by_cases hx1:1<xb.size
       ·have hx2:(1:Int)<(xb.size:Int):=by omega
        have h0:0<xb.size:=(by omega);have h00:0<x.length:=(by have:=HXZ.out;omega);have h48:((xb[0].toNat:Int)==48)=false:=(by rw[beq_eq_false_iff_ne];intro h;refine h8 ⟨by have:=HXZ.out;omega,?_⟩;rw[List.head?_eq_getElem?,List.getElem?_eq_getElem h00,HXG.out 0 h0 h00];exact congrArg some (UInt8.toNat_inj.1 (by show xb[0].toNat=48;omega)));clear e hdb hba hp h8 hxe;go_wp2;go_meet;exact⟨congrArg Value.string HX.out,by rw[HBA.out],HXE2.out,rfl⟩
       ·have hx2:¬(1:Int)<(xb.size:Int):=by omega
        clear e hdb hba hp h8 hxe;go_wp2;go_meet;exact⟨congrArg Value.string HX.out,by rw[HBA.out],HXE2.out,rfl⟩
   case rest=>
   obtain⟨rfl,rfl,hxe,hwc⟩:=hcut;obtain rfl:=hwc.symm;have HDB:=hI hdb;have HBA:=hI hba;have HXN:=hI hxe;clear hdb hba hxe;obtain⟨lf,hlf⟩:=z09 (z3q ls q);rw[←hlf] at hleft HNO HYE;go_upto_if 57 with fail
   go_cut [8] from 21 to 111 (fun a wx=>a=.int .i64 (lf:Nat)∧wx=V)
   case first=>
    by_cases hl:q+1=ls.length
    ·have HL:Hid ((lf:Int)=5-(ls.length:Int)):=by
      show _=_;have:lf=5- ls.length:=by rw[hlf];exact if_pos hl
      omega
     have hqe:((q:Int)==(ls.length:Int)- 1)=true:=(by rw[beq_iff_eq];omega);clear hlf hl;go_wp2;go_meet;exact⟨by rw[HL.out],rfl⟩
    ·have HL:Hid ((lf:Int)=1):=by
      show _=_;have:lf=1:=by rw[hlf];exact if_neg hl
      omega
     have hqe:((q:Int)==(ls.length:Int)- 1)=false:=(by rw[beq_eq_false_iff_ne];omega);clear hlf hl;go_wp2;go_meet;exact⟨by rw[HL.out],rfl⟩
   case rest=>
   obtain⟨rfl,hwc⟩:=hcut;obtain rfl:=hwc.symm;clear hlf HXT HXG HXM cx HXE HINV HLB;obtain⟨hl4,hl1'⟩:=hleft;obtain⟨dg,hdg⟩:=z09 ((z21 x).2);have hdz:db.size=dg.length:=(by rw[HDB.out,hdg];exact z07 _);have HDG:Hid (∀(k:Nat) (h:k<db.size) (h2:k<dg.length),dg[k]=db[k]):=by intro k h h2;have e:=HDB.out;rw[←hdg] at e;subst e;rfl
   have HBR:=z5S x;rw[←HBA.out] at HBR;have HBRH:=hI HBR;have HSN:Hid (z31 ba 0 dg=none→res=none):=(by intro h;refine HNO.out (zhN x lf hl4 ?_);rw[←HBA.out,←hdg];exact h);have HSS:Hid (∀m:Nat,z31 ba 0 dg=some (m:Int)→z0I (256^lf- 1) x=if m<256^lf then some (m:Int) else none):=(by intro m h;refine zhO x lf hl4 HXN.out m ?_;rw[←HBA.out,←hdg];exact h);have HDZ:=hI hdz;have hdl:db.size≤4000:=by
    have h1:dg.length≤x.length:=by
     rw[hdg];unfold z21;split
     ·simp
     ·split<;>simp
    have:=HXZ.out;omega
   clear hdz HBR hdg HDB HBA HXN HXZ hxl2;go_wp2_with fail;go_loopw [9,10] (fun a i wr=>∃(k:Nat) (m:Int),k≤db.size∧i=.int .i64 (k:Nat)∧a=.int .i64 m∧0≤m∧m≤4294967296∧z31 ba m (dg.drop k)=z31 ba 0 dg∧wr=V) (fun _ i _=>db.size-(intOf i).toNat)
   case atStart=>exact⟨0,0,Nat.zero_le _,rfl,rfl,by omega,by omega,rfl,rfl⟩
   case round=>
    obtain⟨k,m,hk,rfl,rfl,hm0,hm1,hsat,hwr⟩:=hrel;obtain rfl:=hwr.symm;have HSAT:=hI hsat;have HM:Hid (0≤m∧m≤4294967296):=⟨hm0,hm1⟩;clear hsat hm0 hm1;by_cases hkl:k<db.size
    ·have h2:k<dg.length:=by rw[←HDZ.out];exact hkl
     have hg:=HDG.out k hkl h2;have HST:Hid _:=zl1 ba m dg k h2;rw[hg] at HST;have HD:Hid _:=HHX.out db[k] V;have hr16:=z1q (db[k].toNat:Int);clear hg;by_cases hv:z0c db[k].toNat<ba
     ·have hd:=z4n db[k] (by have:=HBRH.out;omega)
      obtain⟨d,hdd⟩:=z09 (z1Y db[k]);rw[←hdd] at HD hd;obtain⟨P,hP⟩:=z09 (m*ba);obtain⟨T,hT⟩:=z09 (P+d);have hsl:=zop ba m d HBRH.out.1 HBRH.out.2 HM.out.1 HM.out.2 hd.2.1 hd.2.2;rw[←hP] at hsl;rw[←hT] at hsl;obtain⟨hw1,hw2,hr0,hr1⟩:=hsl;have HNX:Hid (z31 ba (z2H ba m d) (dg.drop (k+1))=z31 ba 0 dg):=by show _=_;have h1:=HST.out;rw[if_pos hv] at h1;rw[←HSAT.out,h1,hd.1]
      have HRG:Hid (0≤z2H ba m d∧z2H ba m d≤4294967296):=⟨hr0,hr1⟩;have hd0:=hd.2.1;have hdb':d<ba:=(by rw[hd.1];exact hv);have hsn:z2H ba m d=if T>4294967295 then 4294967296 else T:=(by unfold z2H;rw[←hP,←hT]);have HSNX:=hI hsn;have hP2:=hP.symm;have hT2:=hT.symm;clear hv hd hdd HST hsn hr0 hr1 hr16 hP hT HSN HSS;by_cases hgt:(4294967295:Int)<T
      ·have HE:Hid (z2H ba m d=4294967296):=by
        show _=_;rw[HSNX.out,if_pos hgt]
       rw[HE.out] at HNX HRG;go_wp2_with fail;refine Calls.mono HD.out ?_;rintro e W0 ⟨rfl,hw0⟩;obtain rfl:=hw0.symm;go_wp2;go_roundw
       case rel=>exact⟨k+1,_,by omega,by go_num,rfl,HRG.out.1,HRG.out.2,HNX.out,trivial⟩
       case measure=>(simp[intOf];try omega)
      ·have HE:Hid (z2H ba m d=T):=by
        show _=_;rw[HSNX.out,if_neg hgt]
       rw[HE.out] at HNX HRG;go_wp2_with fail;refine Calls.mono HD.out ?_;rintro e W0 ⟨rfl,hw0⟩;obtain rfl:=hw0.symm;go_wp2;go_roundw
       case rel=>exact⟨k+1,T,by omega,by go_num,congrArg (Value.int .i64) hw2,HRG.out.1,HRG.out.2,HNX.out,trivial⟩
       case measure=>(simp[intOf];try omega)
     ·have HRN:=hI (HSN.out (by
       have h1:=HST.out;rw[if_neg hv] at h1;rw[←HSAT.out,h1]))
      have hdd:z1Y db[k]<0∨(0≤z1Y db[k]∧ba≤z1Y db[k]):=by
       unfold z1Y;split
       ·right;omega
       ·left;omega
      generalize z1Y db[k]=d at*;clear hv HST hr16;rcases hdd with hdd|⟨hdd,hdd2⟩;all_goals
       go_wp2_with fail;refine Calls.mono HD.out ?_;rintro e W0 ⟨rfl,hw0⟩;obtain rfl:=hw0.symm;go_wp2;go_ret2;rw[HRN.out];exact⟨rfl,HB.out⟩
    ·have hke:k=db.size:=by omega
     subst hke;have HSE:Hid (z31 ba 0 dg=some m):=by show _=_;rw[←HSAT.out,List.drop_eq_nil_of_le (by rw[←HDZ.out];exact Nat.le_refl _)];rfl
     obtain⟨M,hM⟩:∃M:Nat,m=(M:Int):=⟨m.toNat,by have:=HM.out;omega⟩;subst hM;have HAB:=hI (HSS.out M HSE.out);have HMB:Hid (M≤4294967296):=(by have:=HM.out.2;show M≤_;omega);clear HSE HSS HSN HSAT HM HDG HHX;go_wp2_with fail;go_loopw [9,12,13] (fun a v i wr=>∃k:Nat,k≤lf∧i=.int .i64 (k:Nat)∧a=.int .i64 ((M/256^k:Nat):Int)∧wr.ownsRow V.heap.size 3 1 v k (z7f (leB k M))∧Below V.heap.size V wr) (fun _ _ i _=>lf-(intOf i).toNat)
     case atStart=>exact⟨0,Nat.zero_le _,rfl,by simp,World.ownsRow_nil _ _ _ _,Below.refl _ _⟩
     case round=>
      obtain⟨k2,hk2,rfl,rfl,hown2,hb2⟩:=hrel;have HLN:=hI (z8e k2 M);obtain⟨spo,capo,rfl,_,_,hcello⟩:=z1t hown2;have HB2:=hI hb2;have HO2:=hI hown2;have HCO:=hI hcello;have hbz2:=hb2.size;clear hown2 hb2 hcello;have HNX:=hI (zkZ k2 M);have HLB2:Hid (leB (k2+1) M=leB k2 M++ [M/256^k2%256]):=rfl;have HGR:=zjl k2 M;have HGRH:Hid _:=HGR;have hNle:M/256^k2≤4294967296:=Nat.le_trans (Nat.div_le_self _ _) HMB.out;have HNLE:=hI hNle;obtain⟨N,hN⟩:=z09 (M/256^k2);rw[←hN] at HNX HLB2 HGRH HNLE⊢;clear HGR hNle hN;by_cases hlt2:k2<lf
      ·have HO4:=HO2.out.alloc (.cells #[.int .i64 ((N:Int)%256)] 3)
       have hN0:(0:Int)≤(N:Int):=(by omega);go_wp2_with(at_builtin;refine wpList_append_lies _ rfl _ _ 33 rfl V.heap.size 3 i0 (.int .i64 0) 1 8 underlying33 hi hz0 hz1 hz2 rfl (by decide) _ _ _ rfl HO4 ⟨wr.heap.size,0,none⟩ 1 1 [.int .i64 ((N:Int)%256)] rfl rfl ?c1 ?c2 (by decide) ?c3 ?c4 ?c5 _ rfl ?_)
       case c1=>
        intro j u hj;match j,hj with
        |0,hj=>simp at hj;subst hj;exact World.cell?_alloc_new wr #[.int .i64 ((N:Int)%256)] 3 0
       case c2=>intro u hu;simp at hu;subst hu;rfl
       case c3=>unfold maxLen;omega
       case c4=>omega
       case c5=>simp;omega
       intro g cap3 w5 hown' hgrow hat hglt;have HOW:=hI hown';have HBN:=hI ((HB2.out.alloc hbz2 _).grown hgrow (by simp;omega) (fun k hk=>(HO4.lt k hk).1));clear hown' hgrow HO4 hat;go_wp2;go_roundw
       case rel=>
        refine⟨k2+1,by omega,by go_num,?_,?_,HBN.out⟩
        ·rw[←HNX.out]
         have hn:=HNLE.out;first
          |rfl
          |exact congrArg (Value.int .i64) (by omega)
          |exact congrArg (Value.int .i64) (by unfold wrap64;omega)
        ·rw[HLB2.out,zf2]
         have e:z7f [N%256]=[.int .i64 ((N:Int)%256)]:=(by unfold z7f;simp);rw[e];exact HOW.out
       case measure=>(simp[intOf];try omega)
      ·have hke2:lf=k2:=by omega
       subst hke2;obtain⟨gw,hgo,hco⟩:=HCO.out (by omega);subst hgo;by_cases hpos:0<N
       ·have HRN:=hI (HNO.out (by rw[HAB.out,if_neg (HGRH.out.1 hpos)]))
        have hposi:(0:Int)<(N:Int):=(by omega);have HBE:=hI (HB.out.trans (HB2.out.mono hbz));clear hpos hco;go_wp2;go_ret2;rw[HRN.out];exact⟨rfl,HBE.out⟩
       ·have hMl:=Classical.not_not.1 (fun h=>hpos (HGRH.out.2 h))
        have HFI:=hI (HYE.out M (by rw[HAB.out,if_pos hMl]) hMl);have hN0:N=0:=(by omega);subst hN0;have HBLT:=hI (zbL lf M);obtain⟨ob,hob⟩:=z09 (leB lf M);rw[←hob] at HFI HLN HO2 HBLT;have hgw:=(HO2.out.lt gw rfl).1;have HNE:Hid ((Value.slice spb bs.length capb).ownBlock≠some gw):=(by intro h;have:=(HO.out.lt gw h).2;omega);obtain⟨V2,hV2⟩:=z09 wr;subst hV2;have HOB:=hI (z5t HO.out HB2.out);have HBV:=hI (HB.out.trans (HB2.out.mono hbz));have hlf0:¬(0:Int)<((0:Nat):Int):=(by decide);clear hpos hMl HAB HGRH HNLE HLB2 HNX hob HO HB hco HCO HNO HYE;go_wp2_with fail;go_loopw [4,14] (fun v i wr=>∃k:Nat,k≤lf∧i=.int .i64 ((k:Int)- 1)∧wr.ownsRow w.heap.size 3 1 v (bs++(ob.drop k).reverse).length (z7f (bs++(ob.drop k).reverse))∧v.ownBlock≠some gw∧wr.ownsRow V.heap.size 3 1 (.slice (some ⟨gw,0,none⟩) lf capo) lf (z7f ob)∧V2.heap.size≤wr.heap.size∧Below w.heap.size w wr) (fun _ i _=>(intOf i+1).toNat)
        case atStart=>refine⟨lf,Nat.le_refl _,rfl,?_,HNE.out,HO2.out,Nat.le_refl _,HBV.out⟩;rw[List.drop_eq_nil_of_le (by rw[HLN.out];exact Nat.le_refl _)];simp only[List.reverse_nil,List.append_nil];exact HOB.out
        case round=>
         obtain⟨k3,hk3,rfl,ho3,hne3,hoo3,hs3,hb3⟩:=hrel;have HL3:Hid ((bs++(ob.drop k3).reverse).length=bs.length+(lf- k3)):=by show _=_;rw[List.length_append,List.length_reverse,List.length_drop,HLN.out]
         obtain⟨cs,hcs⟩:=z09 (bs++(ob.drop k3).reverse);rw[←hcs] at ho3 HL3;have HCS:=hI hcs;obtain⟨sp3,cap3,rfl,_⟩:=z1t ho3;have hco3:=hoo3.cells (g:=gw) rfl;have HO3:=hI ho3;have HNE3:=hI hne3;have HOO3:=hI hoo3;have HB3:=hI hb3;have hbz3:=hb3.size;have hgws:=(HO2.out.lt gw rfl).2;clear ho3 hne3 hoo3 hb3 hcs;by_cases hk0:0<k3
         ·obtain⟨k4,hk4⟩:∃k4,k3=k4+1:=⟨k3- 1,by omega⟩
          subst hk4;have h4l:k4<ob.length:=(by rw[HLN.out];omega);obtain⟨y,hy⟩:=z09 (ob[k4]);have hcv:wr.cell? ⟨gw,k4,none⟩=some (.int .i64 (y:Nat)):=by rw[←zar];refine hco3 k4 _ ?_;unfold z7f;rw[List.getElem?_map,List.getElem?_eq_getElem h4l,hy];rfl
          have HDR:Hid (bs++(ob.drop k4).reverse=cs++ [y]):=(by show _=_;rw[List.drop_eq_getElem_cons h4l,List.reverse_cons,HCS.out,List.append_assoc,hy]);have hcast:(((k4+1:Nat):Int)- 1)=(k4:Int):=(by omega);rw[hcast];clear hco3 hcast hy;have hk40:(0:Int)≤(k4:Int):=(by omega);have hcl3:cs.length≤8:=(by rw[HL3.out];omega);have HO4:=HO3.out.alloc (.cells #[.int .i64 (y:Nat)] 3);have HOO4:=HOO3.out.alloc (.cells #[.int .i64 (y:Nat)] 3);go_wp2_with(at_builtin;refine wpList_append_lies _ rfl _ _ 33 rfl w.heap.size 3 i0 (.int .i64 0) 1 8 underlying33 hi hz0 hz1 hz2 rfl (by decide) _ _ _ rfl HO4 ⟨wr.heap.size,0,none⟩ 1 1 [.int .i64 (y:Nat)] rfl rfl ?c1 ?c2 (by decide) ?c3 ?c4 ?c5 _ rfl ?_)
          case c1=>
           intro j u hj;match j,hj with
           |0,hj=>simp at hj;subst hj;exact World.cell?_alloc_new wr #[.int .i64 (y:Nat)] 3 0
          case c2=>intro u hu;simp at hu;subst hu;rfl
          case c3=>unfold maxLen;omega
          case c4=>omega
          case c5=>simp;omega
          intro g cap5 w5 hown' hgrow hat hglt;have HOW:=hI hown';have HBN:=hI ((HB3.out.alloc hbz3 _).grown hgrow (by simp;omega) (fun k hk=>(HO4.lt k hk).1));have HOO5:=hI (HOO4.kept hgrow (Or.inr (fun h=>HNE3.out h.symm)));have HS5:=hI (Nat.le_trans (Nat.le_trans hs3 (by simp)) hgrow.size);have HNE5:Hid ((Value.slice (some ⟨g,0,none⟩) (cs.length+1) cap5).ownBlock≠some gw):=by
           intro h;have hge:g=gw:=Option.some.inj h;rcases hat with hat|hat
           ·exact HNE3.out (by rw[hat,hge])
           ·first
             |omega
             |(rw[hat,World.alloc] at hge;simp at hge;omega)
          clear hown' hgrow HO4 HOO4 hat;go_wp2;go_roundw
          case rel=>refine⟨k4,by omega,by go_num,?_,HNE5.out,HOO5.out,HS5.out,HBN.out⟩;rw[HDR.out,List.length_append,zf2];exact HOW.out
          case measure=>(simp[intOf];try omega)
         ·have hk30:k3=0:=by omega
          subst hk30;rw[List.drop_zero] at HCS;rw[←HCS.out] at HFI;obtain⟨hf1,hf2⟩:=zl0 ls (q+1) cs HFI.out h4n;have HF2:=hI hf2;have hm1:(((0:Nat):Int)- 1)= -1:=(by omega);rw[hm1];clear hf2 hco3 hm1;go_wp2;go_roundw
          case rel=>exact⟨q+1,cs,by omega,by go_num,hf1,HF2.out,HFI.out,HO3.out,HB3.out⟩
          case measure=>(simp[intOf];try omega)
  ·have hqe:q=ls.length:=by omega
   have hinv:∃N:Nat,ip4 ls=some (N:Int)∧bs=(leB 4 N).reverse:=by
    rcases HINV.out with⟨h,_⟩|⟨_,h⟩
    ·omega
    ·exact h
   obtain⟨N,hN,hbs⟩:=hinv;have HTL:Hid (z3j bs=z2U N):=by show _=_;rw[hbs];exact zge N
   have hb4:bs.length=4:=(by rw[hbs,List.length_reverse,z8e]);have HRS:=hI (HRES.out.trans hN);obtain⟨sp',cap',hsp1,_,_,hsp4⟩:=z1t HO.out;injection hsp1 with hsp5 hsp6 hsp7;rw[←hsp5] at hsp4;obtain⟨gb,hgb,hcb⟩:=hsp4 (by omega);clear hsp5 hsp6 hsp7;subst hgb;have HCB:Hid (∀(j:Nat) (h:j<bs.length) w1,Below wr.heap.size wr w1→w1.cell? ⟨gb,j,none⟩=some (.int .i64 (bs[j]:Nat))):=(by intro j h w1 b;have hgl:=(HO.out.lt gb rfl).2;rw[b.cell (by exact hgl)];refine hcb j _ ?_;unfold z7f;rw[List.getElem?_map,List.getElem?_eq_getElem h];rfl);obtain⟨V,hV⟩:=z09 wr;subst hV;have c0:=HCB.out 0 (by omega) V (Below.refl _ _);have HB0:=HBX.out bs[0] (List.getElem_mem (by omega));have HD0:Hid _:=HDE.out bs[0] V HB0;have HONE:=hI (zhM bs (by omega));have HDL:=zbO;have HDLH:Hid (∀k,(z3j (bs.take k)).length≤16):=(by intro k;have:=zbO (bs.take k) (fun x hx=>HBX.out x (List.mem_of_mem_take hx));rw[List.length_take] at this;omega);clear hbs hN HINV HRES hcb HB0 HDL;subst hqe;generalize hb00:bs[0]=b0 at*;clear hb00;go_wp2_with fail;refine Calls.mono HD0.out ?_;rintro e w2 ⟨rfl,bb⟩;have HB2:=hI bb;clear bb HD0 c0;go_wp2_with fail;go_loopw [15,16] (fun o i wr=>∃k:Nat,1≤k∧k≤4∧i=.int .i64 (k:Nat)∧o=.string ⟨(z3j (bs.take k)).toArray⟩∧Below V.heap.size V wr) (fun _ i _=>4-(intOf i).toNat)
   case atStart=>exact⟨1,by omega,by omega,rfl,by rw[HONE.out],HB2.out⟩
   case round=>
    obtain⟨k,hk1,hk,rfl,rfl,hb2⟩:=hrel;have HB3:=hI hb2;by_cases hk4:k<4
    ·have hki:(k:Int)<4:=by omega
     have hk2:k<bs.length:=(by omega);have cc:=HCB.out k hk2 wr hb2;have hrs:=zgd bs k hk2 (by omega);have hb256:=HBX.out bs[k] (List.getElem_mem hk2);have hdl:=z6b bs[k] hb256;have hsz1:(⟨(z3j (bs.take k)).toArray⟩:ByteArray).size≤16:=(by rw[z07];exact HDLH.out k);have hsz2:(⟨(Lib.decDigits bs[k]).toArray⟩:ByteArray).size≤3:=(by rw[z07];exact hdl);have HA:Hid ((⟨(z3j (bs.take k)).toArray⟩:ByteArray)++⟨#[46]⟩++⟨(Lib.decDigits bs[k]).toArray⟩=⟨(z3j (bs.take (k+1))).toArray⟩):=(by show _=_;have e1:(⟨(z3j (bs.take k)).toArray⟩:ByteArray)++⟨#[46]⟩=⟨(z3j (bs.take k)++ [46]).toArray⟩:=z0G _ [46];rw[e1,z0G,hrs];simp);have HDD:Hid _:=HDE.out bs[k] wr hb256;generalize(⟨(z3j (bs.take k)).toArray⟩:ByteArray)=acc at*;generalize(⟨(Lib.decDigits bs[k]).toArray⟩:ByteArray)=pt at*;generalize bs[k]=bk at*;have z46:(⟨#[46]⟩:ByteArray).size=1:=rfl;have g0:∀W:World,(Op.stringOp .add acc ⟨#[46]⟩).run prog W=.ok (.string (acc++⟨#[46]⟩)) W:=fun W=>run_string_add_sum W _ _ (by omega);have g1:∀W:World,(Op.stringOp .add (acc++⟨#[46]⟩) pt).run prog W=.ok (.string (acc++⟨#[46]⟩++pt)) W:=fun W=>run_string_add_sum W _ _ (by simp only[ByteArray.size_append];omega);clear hrs hdl hsz1 hsz2 z46 hb256 hb2;go_wp2_with fail;refine Calls.mono HDD.out ?_;rintro e w3 ⟨rfl,bb⟩;have HB4:=hI (HB3.out.trans (bb.mono HB3.out.size));clear cc bb;go_wp2;go_roundw
     case rel=>exact⟨k+1,by omega,by omega,by go_num,congrArg Value.string HA.out,HB4.out⟩
     case measure=>(simp[intOf];try omega)
    ·have hke:k=4:=by omega
     subst hke;have HTE:Hid (z3j (bs.take 4)=z2U N):=by show _=_;rw[List.take_of_length_le (by omega)];exact HTL.out
     have HBE:=hI (HB.out.trans (HB3.out.mono hbz));clear hb2;go_wp2;go_ret2;rw[HRS.out];refine⟨?_,HBE.out⟩;show _=Ending.returned (.tuple #[.string ⟨(z2U ((N:Int)).toNat).toArray⟩,.bool true]);rw[HTE.out];rfl
end Go.Proofs
