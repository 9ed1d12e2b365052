import Derived.Test.YtkcnageeamappaaGreatDoorXQ9
set_option maxHeartbeats 32000000
set_option maxRecDepth 8000
set_option linter.unusedSimpArgs false
namespace Go.Proofs
open Go.RowKit Go.Moor Go.Proofs.Tryz Go.Moor
theorem Hu:(prog.info? 3).map (λi=>(i.zero,i.size,i.bytes))=some (some (.int .i64 0),1,8):=by kernel_rfl
def fd (l:List Nat):List Value:=l.map λn=>Value.int .i64 (n:Nat)
theorem xK (a b:List Nat):fd (a++b)=fd a++fd b:=kg
def sd (o:Option Int) (e:Ending):Prop:=
 match o with
 |some n=>e=.returned (.tuple #[.string ⟨(gN n.toNat).toArray⟩,.bool true])
 |none=>e=.returned (.tuple #[.string ⟨#[]⟩,.bool false])
theorem Hv (base n d:Int) (e:2<=base) (b:base<=16) (c:0<=n) (a:n<=4294967296) (g:0<=d) (h:d<=15):wrap64 (n*base)=n*base/\wrap64 (n*base+d)=n*base+d/\0<=fv base n d/\fv base n d<=4294967296:=by
 have i:0<=n*base:=ur c (by omega);have f:=Int.mul_le_mul a b (by omega) (by omega);refine⟨by unfold wrap64;omega,by grind[wrap64],?_,?_⟩
 .grind[fv]
 .grind[fv]
theorem Hw (ls:List Bs) (sp:Option Addr) (cap:Nat) (w:World) (hne:ls≠[]) (hlc:ls.length<=4001) (hlb:∀x∈ls,x.length<=4000) (hrow:∃g,sp=some ⟨g,0,none⟩/\g<w.heap.size/\∀(j:Nat) x,ls[j]?=some x->Ce w g j (.string ⟨x.toArray⟩)):Calls prog 120 #[.slice sp ls.length cap] w λe w'=>sd (dy ls) e/\Bl w w':=by
 obtain⟨gl,rfl,hgl,hcl⟩:=hrow;obtain⟨i0,hi,hz0,hz1,hz2⟩:=fA Hu;have HHX:Hid (∀(c:UInt8) w1,Calls Tryz.prog 66 #[.int .u8 c.toNat] w1 λe w'=>e=.returned (.int .i64 (cR c))/\w'=w1):=λc w1=>pF c w1;have HDE:Hid (∀(n:Nat) w1,n<256->Calls Tryz.prog 128 #[.int .i64 n] w1 λe w'=>e=.returned (.string ⟨(Lib.decDigits n).toArray⟩)/\Below w1.heap.size w1 w'):=λn w1 h=>by
  have:=sv 31 n w1 (by omega) (by omega) (by omega);rw[nw 31 n (by omega)] at this;exact this
 have HCL:Hid (∀(j:Nat) x w1,Below w.heap.size w w1->ls[j]?=some x->w1.cell? ⟨gl,j,none⟩=some (.string ⟨x.toArray⟩)):=λj x w1 b h=>(b.cell (by exact hgl)).trans (hcl j x h);have HLB:Hid (∀x∈ls,x.length<=4000):=hlb;clear hcl hlb;suffices key:∀res:Option Int,Hid (res=dy ls)->Calls Tryz.prog 120 #[.slice (some ⟨gl,0,none⟩) ls.length cap] w λe w'=>sd res e/\Below w.heap.size w w' from key _ rfl
 intro res HRES;have hl1:0<ls.length:=iK.2 hne;by_cases h4:4<ls.length
 .have HN:Hid (res=none):=by
   show _=_;rw[HRES.out];exact ae h4
  have h4i:(4:Int)<(ls.length:Int):=by omega
  go_enter Tryz.func120,Tryz.ntmps120;go_wp2;go_ret2;rw[HN.out];exact⟨rfl,ai _ _⟩
 have h4n:ls.length<=4:=by omega
 clear h4 hlc hne;go_enter Tryz.func120,Tryz.ntmps120;go_wp2_with fail;go_loopw [4,5] (λv i wr=>∃(q:Nat) (bs:List Nat),q<=ls.length/\i=.int .i64 q/\bs.length<=4/\(∀x∈bs,x<256)/\kw ls q bs/\wr.ownsRow w.heap.size 3 1 v bs.length (fd bs)/\Below w.heap.size w wr) (λ_ i _=>ls.length-(intOf i).toNat)
 case atStart=>exact⟨0,[],aR _,rfl,aR _,(λx h=>by cases h),Or.inl ⟨hl1,0,rfl,rfl⟩,mP _ _ _ _,ai _ _⟩
 case round=>
  obtain⟨q,bs,hq,rfl,hbl,hbx,hinv,hown,hb⟩:=hrel;obtain⟨spb,capb,rfl,_⟩:=dF hown;have HBX:Hid (∀x∈bs,x<256):=hbx;have HINV:Hid (kw ls q bs):=hinv;have HO:Hid (wr.ownsRow w.heap.size 3 1 (.slice spb bs.length capb) bs.length (fd bs)):=hown;have HB:Hid (Below w.heap.size w wr):=hb;have hbz:=hb.size;clear hbx hinv hown hb;by_cases hlt:q<ls.length
  .obtain⟨x,hx⟩:∃x,ls[q]?=some x:=⟨ls[q],bY hlt⟩
   have cx:=HCL.out q x wr HB.out hx;have HXE:Hid (ls[q]=x):=(dN.1 hx).2;have hxl:=HLB.out x (ef hx);obtain⟨V,hV⟩:∃V,V=wr:=⟨_,rfl⟩;subst hV;obtain⟨xb,hxb⟩:∃xb:ByteArray,xb=⟨x.toArray⟩:=⟨_,rfl⟩;rw[<-hxb] at cx;have HXZ:Hid (xb.size=x.length):=(by show _=_;rw[hxb];exact al x);have hxl2:xb.size<=4000:=(by rw[HXZ.out];exact hxl);have HXT:Hid (∀i j:Nat,xb.extract i j=⟨((x.drop i).take (j- i)).toArray⟩):=(by intro i j;rw[hxb];exact fJ _ i j);have HXG:Hid (∀(k:Nat) (h:k<xb.size) (h2:k<x.length),x[k]=xb[k]):=(by intro k h h2;subst hxb;rfl);have HXM:Hid (xb.toList.isEmpty=x.isEmpty):=(by show _=_;rw[hxb,cG]);have hleft:gz ls q<=4/\1<=gz ls q:=(by unfold gz;split<;>omega);have HNO:Hid (cd (256^gz ls q- 1) x=none->res=none):=(by intro h;rw[HRES.out];exact Hz ls q bs hlt HINV.out (by rw[HXE.out];exact h));have HYE:Hid (∀m:Nat,cd (256^gz ls q- 1) x=some (m:Int)->m<256^gz ls q->kw ls (q+1) (bs++(cS (gz ls q) m).reverse)):=λm h h2=>HW ls q bs m hlt h4n HINV.out (by rw[HXE.out];exact h) h2;clear hx hxb hxl;go_upto_region 9 with fail;go_cut [38] from 21 to 111 (λb wx=>b=.bool (Lib.hasPrefix x [48,120])/\wx=V)
   case first=>
    by_cases h2:xb.size<2
    .have hi2:¬(2:Int)<=(xb.size:Int):=by omega
     have HPF:Hid (Lib.hasPrefix x [48,120]=false):=by
      show _=_;match x,HXZ.out with
      | [],_=>simp[Lib.hasPrefix]
      | [a],_=>simp[Lib.hasPrefix,List.isPrefixOf]
      |a::b::r,hl=>simp at hl;omega
     go_wp2;go_meet;exact⟨by rw[HPF.out],rfl⟩
    .have hi3:(2:Int)<=(xb.size:Int):=by omega
     have hpx:((xb.extract 0 2).toList==[48,120])=Lib.hasPrefix x [48,120]:=by
      rw[HXT.out 0 2,cG];show(List.take 2 (List.drop 0 x)==[48,120])=_;match x,HXZ.out with
      | [],hl=>simp only[gK] at hl;omega
      | [a],hl=>simp only[dL,gK] at hl;omega
      |a::b::r,_=>
       simp[Lib.hasPrefix];rw[ki];simp;constructor
       .rintro⟨rfl,rfl⟩;exact⟨rfl,rfl⟩
       .rintro⟨rfl,rfl⟩;exact⟨rfl,rfl⟩
     generalize Lib.hasPrefix x [48,120]=hp at*;cases hp;all_goals
      go_wp2;go_meet;exact⟨rfl,rfl⟩
   case rest=>
   obtain⟨rfl,hwc⟩:=hcut;have hwc:=hwc.symm;subst hwc;obtain⟨db,hdb⟩:∃db:ByteArray,db=⟨(eT x).2.toArray⟩:=⟨_,rfl⟩;obtain⟨ba,hba⟩:∃ba,ba=(eT x).1:=⟨_,rfl⟩;go_upto_if 38 with fail
   go_cut [6,7] from 21 to 111 (λa b wx=>a=.string db/\b=.int .i64 ba/\x≠[]/\wx=V)
   case first=>
    by_cases hxe:x=[]
    .have HN:Hid (res=none):=HNO.out (by rw[hxe];rfl)
     have hp:Lib.hasPrefix x [48,120]=false:=(by rw[hxe];rfl);have hxe2:xb.toList.isEmpty=true:=(by rw[HXM.out,hxe];rfl);generalize Lib.hasPrefix x [48,120]=hpv at*;subst hp;clear hxe;go_wp2;go_ret2;rw[HN.out];exact⟨rfl,HB.out⟩
    .have hxe2:xb.toList.isEmpty=false:=by
      rw[HXM.out];cases x with
      |nil=>exact absurd rfl hxe
      |cons=>rfl
     have HXE2:Hid (x≠[]):=hxe;cases hp:Lib.hasPrefix x [48,120] with
     |true=>
      have e:eT x=(16,x.drop 2):=ae hp;rw[e] at hdb hba;have hx2:(2:Int)<=(xb.size:Int):=by
       match x,HXZ.out,hp with
       | [],_,h=>simp[Lib.hasPrefix] at h
       | [a],_,h=>simp[Lib.hasPrefix,List.isPrefixOf] at h
       |a::b::r,hl,_=>simp at hl;omega
      have HX:Hid (xb.extract 2 xb.size=db):=(by show _=_;rw[HXT.out 2 xb.size,hdb,cg (by have:=HXZ.out;rw[cm];omega)]);have HBA:Hid (ba=16):=hba;clear e hdb hba hp hxe;go_wp2;go_meet;exact⟨aB Value.string HX.out,by rw[HBA.out],HXE2.out,rfl⟩
     |false=>
      by_cases h8:1<x.length/\x.head? =some 48
      .have e:eT x=(8,x.drop 1):=by unfold eT;rw[ab (by simp[hp]),ae h8]
       rw[e] at hdb hba;have hx2:(1:Int)<(xb.size:Int):=(by have:=HXZ.out;omega);have h0:0<xb.size:=(by omega);have h00:0<x.length:=(by have:=HXZ.out;omega);have h48:((xb[0].toNat:Int)==48)=true:=by have h1:=HXG.out 0 h0 h00;have h2:=h8.2;rw[mO,bY h00,h1] at h2;rw[eh h2];rfl
       have HX:Hid (xb.extract 1 xb.size=db):=(by show _=_;rw[HXT.out 1 xb.size,hdb,cg (by have:=HXZ.out;rw[cm];omega)]);have HBA:Hid (ba=8):=hba;clear e hdb hba hp h8 hxe;go_wp2;go_meet;exact⟨aB Value.string HX.out,by rw[HBA.out],HXE2.out,rfl⟩
      .have e:eT x=(10,x):=by unfold eT;rw[ab (by simp[hp]),ab h8]
       rw[e] at hdb hba;have HX:Hid (xb=db):=by show _=_;have:=HXT.out 0 xb.size;rw[mQ,cg (by have:=HXZ.out;omega)] at this;rw[hdb,<-this];exact(ByteArray.extract_zero_size).symm
       have HBA:Hid (ba=10):=hba;by_cases hx1:1<xb.size
       .have hx2:(1:Int)<(xb.size:Int):=by omega
        have h0:0<xb.size:=(by omega);have h00:0<x.length:=(by have:=HXZ.out;omega);have h48:((xb[0].toNat:Int)==48)=false:=(by rw[aL];intro h;refine h8 ⟨by have:=HXZ.out;omega,?_⟩;rw[mO,bY h00,HXG.out 0 h0 h00];exact aB some (cU.1 (by show xb[0].toNat=48;omega)));clear e hdb hba hp h8 hxe;go_wp2;go_meet;exact⟨aB Value.string HX.out,by rw[HBA.out],HXE2.out,rfl⟩
       .have hx2:¬(1:Int)<(xb.size:Int):=by omega
        clear e hdb hba hp h8 hxe;go_wp2;go_meet;exact⟨aB Value.string HX.out,by rw[HBA.out],HXE2.out,rfl⟩
   case rest=>
   obtain⟨rfl,rfl,hxe,hwc⟩:=hcut;have hwc:=hwc.symm;subst hwc;have HDB:Hid (db=⟨(eT x).2.toArray⟩):=hdb;have HBA:Hid (ba=(eT x).1):=hba;have HXN:Hid (x≠[]):=hxe;clear hdb hba hxe;obtain⟨lf,hlf⟩:∃lf,lf=gz ls q:=⟨_,rfl⟩;rw[<-hlf] at hleft HNO HYE;go_upto_if 57 with fail
   go_cut [8] from 21 to 111 (λa wx=>a=.int .i64 (lf:Nat)/\wx=V)
   case first=>
    by_cases hl:q+1=ls.length
    .have HL:Hid ((lf:Int)=5-(ls.length:Int)):=by
      show _=_;have:lf=5- ls.length:=by rw[hlf];exact ae hl
      omega
     have hqe:((q:Int)==(ls.length:Int)- 1)=true:=(by rw[dM];omega);clear hlf hl;go_wp2;go_meet;exact⟨by rw[HL.out],rfl⟩
    .have HL:Hid ((lf:Int)=1):=by
      show _=_;have:lf=1:=by rw[hlf];exact ab hl
      omega
     have hqe:((q:Int)==(ls.length:Int)- 1)=false:=(by rw[aL];omega);clear hlf hl;go_wp2;go_meet;exact⟨by rw[HL.out],rfl⟩
   case rest=>
   obtain⟨rfl,hwc⟩:=hcut;have hwc:=hwc.symm;subst hwc;clear hlf HXT HXG HXM cx HXE HINV HLB;obtain⟨hl4,hl1'⟩:=hleft;obtain⟨dg,hdg⟩:∃dg,dg=(eT x).2:=⟨_,rfl⟩;have hdz:db.size=dg.length:=(by rw[HDB.out,hdg];exact al _);have HDG:Hid (∀(k:Nat) (h:k<db.size) (h2:k<dg.length),dg[k]=db[k]):=by intro k h h2;have e:=HDB.out;rw[<-hdg] at e;subst e;rfl
   have HBR:=sj x;rw[<-HBA.out] at HBR;have HBRH:Hid (2<=ba/\ba<=16):=HBR;have HSN:Hid (eS ba 0 dg=none->res=none):=(by intro h;refine HNO.out (If x lf hl4 ?_);rw[<-HBA.out,<-hdg];exact h);have HSS:Hid (∀m:Nat,eS ba 0 dg=some (m:Int)->cd (256^lf- 1) x=if m<256^lf then some (m:Int) else none):=(by intro m h;refine Ig x lf hl4 HXN.out m ?_;rw[<-HBA.out,<-hdg];exact h);have HDZ:Hid (db.size=dg.length):=hdz;have hdl:db.size<=4000:=by
    have h1:dg.length<=x.length:=by
     rw[hdg];unfold eT;split
     .simp
     .split<;>simp
    have:=HXZ.out;omega
   clear hdz HBR hdg HDB HBA HXN HXZ hxl2;go_wp2_with fail;go_loopw [9,10] (λa i wr=>∃(k:Nat) (m:Int),k<=db.size/\i=.int .i64 (k:Nat)/\a=.int .i64 m/\0<=m/\m<=4294967296/\eS ba m (dg.drop k)=eS ba 0 dg/\wr=V) (λ_ i _=>db.size-(intOf i).toNat)
   case atStart=>exact⟨0,0,aR _,rfl,rfl,by omega,by omega,rfl,rfl⟩
   case round=>
    obtain⟨k,m,hk,rfl,rfl,hm0,hm1,hsat,hwr⟩:=hrel;have hwr:=hwr.symm;subst hwr;have HSAT:Hid (eS ba m (dg.drop k)=eS ba 0 dg):=hsat;have HM:Hid (0<=m/\m<=4294967296):=⟨hm0,hm1⟩;clear hsat hm0 hm1;by_cases hkl:k<db.size
    .have h2:k<dg.length:=by rw[<-HDZ.out];exact hkl
     have hg:=HDG.out k hkl h2;have HST:Hid _:=Ih ba m dg k h2;rw[hg] at HST;have HD:Hid _:=HHX.out db[k] V;have hr16:=gy (db[k].toNat:Int);clear hg;by_cases hv:aw db[k].toNat<ba
     .have hd:=ln db[k] (by have:=HBRH.out;omega)
      obtain⟨d,hdd⟩:∃d,d=cR db[k]:=⟨_,rfl⟩;rw[<-hdd] at HD hd;obtain⟨P,hP⟩:∃P,P=m*ba:=⟨_,rfl⟩;obtain⟨T,hT⟩:∃T,T=P+d:=⟨_,rfl⟩;have hsl:=Hv ba m d HBRH.out.1 HBRH.out.2 HM.out.1 HM.out.2 hd.2.1 hd.2.2;rw[<-hP] at hsl;rw[<-hT] at hsl;obtain⟨hw1,hw2,hr0,hr1⟩:=hsl;have HNX:Hid (eS ba (fv ba m d) (dg.drop (k+1))=eS ba 0 dg):=by show _=_;have h1:=HST.out;rw[ae hv] at h1;rw[<-HSAT.out,h1,hd.1]
      have HRG:Hid (0<=fv ba m d/\fv ba m d<=4294967296):=⟨hr0,hr1⟩;have hd0:0<=d:=hd.2.1;have hdb':d<ba:=(by rw[hd.1];exact hv);have hsn:fv ba m d=if T>4294967295 then 4294967296 else T:=(by unfold fv;rw[<-hP,<-hT]);have HSNX:Hid (fv ba m d=if T>4294967295 then 4294967296 else T):=hsn;have hP2:m*ba=P:=hP.symm;have hT2:P+d=T:=hT.symm;clear hv hd hdd HST hsn hr0 hr1 hr16 hP hT HSN HSS;by_cases hgt:(4294967295:Int)<T
      .have HE:Hid (fv ba m d=4294967296):=by
        show _=_;rw[HSNX.out,ae hgt]
       rw[HE.out] at HNX HRG;go_wp2_with fail;refine af HD.out ?_;rintro e W0 ⟨rfl,hw0⟩;have hw0:=hw0.symm;subst hw0;go_wp2;go_roundw
       case rel=>exact⟨k+1,_,by omega,by go_num,rfl,HRG.out.1,HRG.out.2,HNX.out,trivial⟩
       case measure=>(simp[intOf];try omega)
      .have HE:Hid (fv ba m d=T):=by
        show _=_;rw[HSNX.out,ab hgt]
       rw[HE.out] at HNX HRG;go_wp2_with fail;refine af HD.out ?_;rintro e W0 ⟨rfl,hw0⟩;have hw0:=hw0.symm;subst hw0;go_wp2;go_roundw
       case rel=>exact⟨k+1,T,by omega,by go_num,aB (Value.int .i64) hw2,HRG.out.1,HRG.out.2,HNX.out,trivial⟩
       case measure=>(simp[intOf];try omega)
     .have HRN:Hid (res=none):=HSN.out (by
       have h1:=HST.out;rw[ab hv] at h1;rw[<-HSAT.out,h1])
      have hdd:cR db[k]<0\/(0<=cR db[k]/\ba<=cR db[k]):=by
       unfold cR;split
       .right;omega
       .left;omega
      generalize cR db[k]=d at*;clear hv HST hr16;rcases hdd with hdd|⟨hdd,hdd2⟩;all_goals
       go_wp2_with fail;refine af HD.out ?_;rintro e W0 ⟨rfl,hw0⟩;have hw0:=hw0.symm;subst hw0;go_wp2;go_ret2;rw[HRN.out];exact⟨rfl,HB.out⟩
    .have hke:k=db.size:=by omega
     subst hke;have HSE:Hid (eS ba 0 dg=some m):=by show _=_;rw[<-HSAT.out,eW (by rw[<-HDZ.out];exact aG _)];rfl
     obtain⟨M,hM⟩:∃M:Nat,m=(M:Int):=⟨m.toNat,by have:=HM.out;omega⟩;subst hM;have HAB:Hid (cd (256^lf- 1) x=if M<256^lf then some (M:Int) else none):=HSS.out M HSE.out;have HMB:Hid (M<=4294967296):=(by have:=HM.out.2;show M<=_;omega);clear HSE HSS HSN HSAT HM HDG HHX;go_wp2_with fail;go_loopw [9,12,13] (λa v i wr=>∃k:Nat,k<=lf/\i=.int .i64 (k:Nat)/\a=.int .i64 ((M/256^k:Nat):Int)/\wr.ownsRow V.heap.size 3 1 v k (fd (cS k M))/\Below V.heap.size V wr) (λ_ _ i _=>lf-(intOf i).toNat)
     case atStart=>exact⟨0,aR _,rfl,by simp,mP _ _ _ _,ai _ _⟩
     case round=>
      obtain⟨k2,hk2,rfl,rfl,hown2,hb2⟩:=hrel;have HLN:Hid ((cS k2 M).length=k2):=nJ k2 M;obtain⟨spo,capo,rfl,_,_,hcello⟩:=dF hown2;have HB2:Hid (Below V.heap.size V wr):=hb2;have HO2:Hid (wr.ownsRow V.heap.size 3 1 (.slice spo k2 capo) k2 (fd (cS k2 M))):=hown2;have HCO:Hid (0<k2->∃g,spo=some ⟨g,0,none⟩/\∀j u,(fd (cS k2 M))[j]?=some u->wr.cell? ⟨g,j,none⟩=some u):=hcello;have hbz2:=hb2.size;clear hown2 hb2 hcello;have HNX:Hid (M/256^k2/256=M/256^(k2+1)):=Hx k2 M;have HLB2:Hid (cS (k2+1) M=cS k2 M++ [M/256^k2%256]):=rfl;have HGR:=Hy k2 M;have HGRH:Hid _:=HGR;have hNle:M/256^k2<=4294967296:=bu (Nat.div_le_self _ _) HMB.out;have HNLE:Hid (M/256^k2<=4294967296):=hNle;obtain⟨N,hN⟩:∃N,N=M/256^k2:=⟨_,rfl⟩;rw[<-hN] at HNX HLB2 HGRH HNLE⊢;clear HGR hNle hN;by_cases hlt2:k2<lf
      .have HO4:=HO2.out.alloc (.cells #[.int .i64 ((N:Int)%256)] 3)
       have hN0:(0:Int)<=(N:Int):=(by omega);go_wp2_with(at_builtin;refine kf _ rfl _ _ 33 rfl V.heap.size 3 i0 (.int .i64 0) 1 8 Tryz.underlying33 hi hz0 hz1 hz2 rfl (by decide) _ _ _ rfl HO4 ⟨wr.heap.size,0,none⟩ 1 1 [.int .i64 ((N:Int)%256)] rfl rfl ?c1 ?c2 (by decide) ?c3 ?c4 ?c5 _ rfl ?_)
       case c1=>
        intro j u hj;match j,hj with
        |0,hj=>simp at hj;subst hj;exact ew wr #[.int .i64 ((N:Int)%256)] 3 0
       case c2=>intro u hu;simp at hu;subst hu;rfl
       case c3=>unfold maxLen;omega
       case c4=>omega
       case c5=>simp;omega
       intro g cap3 w5 hown' hgrow hat hglt;have HOW:Hid (w5.ownsRow V.heap.size 3 1 (.slice (some ⟨g,0,none⟩) (k2+1) cap3) (k2+1) (fd (cS k2 M)++ [.int .i64 ((N:Int)%256)])):=hown';have HBN:Hid (Below V.heap.size V w5):=(HB2.out.alloc hbz2 _).grown hgrow (by simp;omega) (λk hk=>(HO4.lt k hk).1);clear hown' hgrow HO4 hat;go_wp2;go_roundw
       case rel=>
        refine⟨k2+1,by omega,by go_num,?_,?_,HBN.out⟩
        .rw[<-HNX.out]
         have hn:=HNLE.out;first
          |rfl
          |exact aB (Value.int .i64) (by omega)
          |exact aB (Value.int .i64) (by unfold wrap64;omega)
        .rw[HLB2.out,xK]
         have e:fd [N%256]=[.int .i64 ((N:Int)%256)]:=(by unfold fd;simp);rw[e];exact HOW.out
       case measure=>(simp[intOf];try omega)
      .have hke2:lf=k2:=by omega
       subst hke2;obtain⟨gw,hgo,hco⟩:=HCO.out (by omega);subst hgo;by_cases hpos:0<N
       .have HRN:Hid (res=none):=HNO.out (by rw[HAB.out,ab (HGRH.out.1 hpos)])
        have hposi:(0:Int)<(N:Int):=(by omega);have HBE:Hid (Below w.heap.size w wr):=HB.out.trans (HB2.out.mono hbz);clear hpos hco;go_wp2;go_ret2;rw[HRN.out];exact⟨rfl,HBE.out⟩
       .have hMl:M<256^lf:=Classical.not_not.1 (λh=>hpos (HGRH.out.2 h))
        have HFI:Hid (kw ls (q+1) (bs++(cS lf M).reverse)):=HYE.out M (by rw[HAB.out,ae hMl]) hMl;have hN0:N=0:=(by omega);subst hN0;have HBLT:Hid (∀y∈cS lf M,y<256):=pG lf M;obtain⟨ob,hob⟩:∃ob,ob=cS lf M:=⟨_,rfl⟩;rw[<-hob] at HFI HLN HO2 HBLT;have hgw:V.heap.size<=gw:=(HO2.out.lt gw rfl).1;have HNE:Hid ((Value.slice spb bs.length capb).ownBlock≠some gw):=(by intro h;have:=(HO.out.lt gw h).2;omega);obtain⟨V2,hV2⟩:∃V2,V2=wr:=⟨_,rfl⟩;subst hV2;have HOB:Hid (V2.ownsRow w.heap.size 3 1 (.slice spb bs.length capb) bs.length (fd bs)):=jU HO.out HB2.out;have HBV:Hid (Below w.heap.size w V2):=HB.out.trans (HB2.out.mono hbz);have hlf0:¬(0:Int)<((0:Nat):Int):=(by decide);clear hpos hMl HAB HGRH HNLE HLB2 HNX hob HO HB hco HCO HNO HYE;go_wp2_with fail;go_loopw [4,14] (λv i wr=>∃k:Nat,k<=lf/\i=.int .i64 ((k:Int)- 1)/\wr.ownsRow w.heap.size 3 1 v (bs++(ob.drop k).reverse).length (fd (bs++(ob.drop k).reverse))/\v.ownBlock≠some gw/\wr.ownsRow V.heap.size 3 1 (.slice (some ⟨gw,0,none⟩) lf capo) lf (fd ob)/\V2.heap.size<=wr.heap.size/\Below w.heap.size w wr) (λ_ i _=>(intOf i+1).toNat)
        case atStart=>refine⟨lf,aG _,rfl,?_,HNE.out,HO2.out,aG _,HBV.out⟩;rw[eW (by rw[HLN.out];exact aG _)];simp only[List.reverse_nil,dl];exact HOB.out
        case round=>
         obtain⟨k3,hk3,rfl,ho3,hne3,hoo3,hs3,hb3⟩:=hrel;have HL3:Hid ((bs++(ob.drop k3).reverse).length=bs.length+(lf- k3)):=by show _=_;rw[cC,qJ,cm,HLN.out]
         obtain⟨cs,hcs⟩:∃cs,cs=bs++(ob.drop k3).reverse:=⟨_,rfl⟩;rw[<-hcs] at ho3 HL3;have HCS:Hid (cs=bs++(ob.drop k3).reverse):=hcs;obtain⟨sp3,cap3,rfl,_⟩:=dF ho3;have hco3:=hoo3.cells (g:=gw) rfl;have HO3:Hid (wr.ownsRow w.heap.size 3 1 (.slice sp3 cs.length cap3) cs.length (fd cs)):=ho3;have HNE3:Hid ((Value.slice sp3 cs.length cap3).ownBlock≠some gw):=hne3;have HOO3:Hid (wr.ownsRow V.heap.size 3 1 (.slice (some ⟨gw,0,none⟩) lf capo) lf (fd ob)):=hoo3;have HB3:Hid (Below w.heap.size w wr):=hb3;have hbz3:=hb3.size;have hgws:gw<V2.heap.size:=(HO2.out.lt gw rfl).2;clear ho3 hne3 hoo3 hb3 hcs;by_cases hk0:0<k3
         .obtain⟨k4,hk4⟩:∃k4,k3=k4+1:=⟨k3- 1,by omega⟩
          subst hk4;have h4l:k4<ob.length:=(by rw[HLN.out];omega);obtain⟨y,hy⟩:∃y,y=ob[k4]:=⟨_,rfl⟩;have hcv:wr.cell? ⟨gw,k4,none⟩=some (.int .i64 (y:Nat)):=by rw[<-ry];refine hco3 k4 _ ?_;unfold fd;rw[fy,bY h4l,hy];rfl
          have HDR:Hid (bs++(ob.drop k4).reverse=cs++ [y]):=(by show _=_;rw[ch h4l,List.reverse_cons,HCS.out,eU,hy]);have hcast:(((k4+1:Nat):Int)- 1)=(k4:Int):=(by omega);rw[hcast];clear hco3 hcast hy;have hk40:(0:Int)<=(k4:Int):=(by omega);have hcl3:cs.length<=8:=(by rw[HL3.out];omega);have HO4:=HO3.out.alloc (.cells #[.int .i64 (y:Nat)] 3);have HOO4:=HOO3.out.alloc (.cells #[.int .i64 (y:Nat)] 3);go_wp2_with(at_builtin;refine kf _ rfl _ _ 33 rfl w.heap.size 3 i0 (.int .i64 0) 1 8 Tryz.underlying33 hi hz0 hz1 hz2 rfl (by decide) _ _ _ rfl HO4 ⟨wr.heap.size,0,none⟩ 1 1 [.int .i64 (y:Nat)] rfl rfl ?c1 ?c2 (by decide) ?c3 ?c4 ?c5 _ rfl ?_)
          case c1=>
           intro j u hj;match j,hj with
           |0,hj=>simp at hj;subst hj;exact ew wr #[.int .i64 (y:Nat)] 3 0
          case c2=>intro u hu;simp at hu;subst hu;rfl
          case c3=>unfold maxLen;omega
          case c4=>omega
          case c5=>simp;omega
          intro g cap5 w5 hown' hgrow hat hglt;have HOW:Hid (w5.ownsRow w.heap.size 3 1 (.slice (some ⟨g,0,none⟩) (cs.length+1) cap5) (cs.length+1) (fd cs++ [.int .i64 (y:Nat)])):=hown';have HBN:Hid (Below w.heap.size w w5):=(HB3.out.alloc hbz3 _).grown hgrow (by simp;omega) (λk hk=>(HO4.lt k hk).1);have HOO5:Hid (w5.ownsRow V.heap.size 3 1 (.slice (some ⟨gw,0,none⟩) lf capo) lf (fd ob)):=HOO4.kept hgrow (Or.inr (λh=>HNE3.out h.symm));have HS5:Hid (V2.heap.size<=w5.heap.size):=bu (bu hs3 (by simp)) hgrow.size;have HNE5:Hid ((Value.slice (some ⟨g,0,none⟩) (cs.length+1) cap5).ownBlock≠some gw):=by
           intro h;have hge:g=gw:=eh h;rcases hat with hat|hat
           .exact HNE3.out (by rw[hat,hge])
           .first
             |omega
             |(rw[hat,World.alloc] at hge;simp at hge;omega)
          clear hown' hgrow HO4 HOO4 hat;go_wp2;go_roundw
          case rel=>refine⟨k4,by omega,by go_num,?_,HNE5.out,HOO5.out,HS5.out,HBN.out⟩;rw[HDR.out,cC,xK];exact HOW.out
          case measure=>(simp[intOf];try omega)
         .have hk30:k3=0:=by omega
          subst hk30;rw[mQ] at HCS;rw[<-HCS.out] at HFI;obtain⟨hf1,hf2⟩:=Ia ls (q+1) cs HFI.out h4n;have HF2:Hid (∀x∈cs,x<256):=hf2;have hm1:(((0:Nat):Int)- 1)= -1:=(by omega);rw[hm1];clear hf2 hco3 hm1;go_wp2;go_roundw
          case rel=>exact⟨q+1,cs,by omega,by go_num,hf1,HF2.out,HFI.out,HO3.out,HB3.out⟩
          case measure=>(simp[intOf];try omega)
  .have hqe:q=ls.length:=by omega
   have hinv:∃N:Nat,dy ls=some (N:Int)/\bs=(cS 4 N).reverse:=by
    rcases HINV.out with⟨h,_⟩|⟨_,h⟩
    .omega
    .exact h
   obtain⟨N,hN,hbs⟩:=hinv;have HTL:Hid (fI bs=gN N):=by show _=_;rw[hbs];exact Ie N
   have hb4:bs.length=4:=(by rw[hbs,qJ,nJ]);have HRS:Hid (res=some (N:Int)):=HRES.out.trans hN;obtain⟨sp',cap',hsp1,_,_,hsp4⟩:=dF HO.out;injection hsp1 with hsp5 hsp6 hsp7;rw[<-hsp5] at hsp4;obtain⟨gb,hgb,hcb⟩:=hsp4 (by omega);clear hsp5 hsp6 hsp7;subst hgb;have HCB:Hid (∀(j:Nat) (h:j<bs.length) w1,Below wr.heap.size wr w1->w1.cell? ⟨gb,j,none⟩=some (.int .i64 (bs[j]:Nat))):=(by intro j h w1 b;have hgl:gb<wr.heap.size:=(HO.out.lt gb rfl).2;rw[b.cell (by exact hgl)];refine hcb j _ ?_;unfold fd;rw[fy,bY h];rfl);obtain⟨V,hV⟩:∃V,V=wr:=⟨_,rfl⟩;subst hV;have c0:=HCB.out 0 (by omega) V (ai _ _);have HB0:=HBX.out bs[0] (mW (by omega));have HD0:Hid _:=HDE.out bs[0] V HB0;have HONE:Hid (fI (bs.take 1)=Lib.decDigits bs[0]):=Ic bs (by omega);have HDL:=xP;have HDLH:Hid (∀k,(fI (bs.take k)).length<=16):=(by intro k;have:=xP (bs.take k) (λx hx=>HBX.out x (uh hx));rw[cL] at this;omega);clear hbs hN HINV HRES hcb HB0 HDL;subst hqe;generalize hb00:bs[0]=b0 at*;clear hb00;go_wp2_with fail;refine af HD0.out ?_;rintro e w2 ⟨rfl,bb⟩;have HB2:Hid (Below V.heap.size V w2):=bb;clear bb HD0 c0;go_wp2_with fail;go_loopw [15,16] (λo i wr=>∃k:Nat,1<=k/\k<=4/\i=.int .i64 (k:Nat)/\o=.string ⟨(fI (bs.take k)).toArray⟩/\Below V.heap.size V wr) (λ_ i _=>4-(intOf i).toNat)
   case atStart=>exact⟨1,by omega,by omega,rfl,by rw[HONE.out],HB2.out⟩
   case round=>
    obtain⟨k,hk1,hk,rfl,rfl,hb2⟩:=hrel;have HB3:Hid (Below V.heap.size V wr):=hb2;by_cases hk4:k<4
    .have hki:(k:Int)<4:=by omega
     have hk2:k<bs.length:=(by omega);have cc:=HCB.out k hk2 wr hb2;have hrs:=Ib bs k hk2 (by omega);have hb256:=HBX.out bs[k] (mW hk2);have hdl:=pj bs[k] hb256;have hsz1:(⟨(fI (bs.take k)).toArray⟩:ByteArray).size<=16:=(by rw[al];exact HDLH.out k);have hsz2:(⟨(Lib.decDigits bs[k]).toArray⟩:ByteArray).size<=3:=(by rw[al];exact hdl);have HA:Hid ((⟨(fI (bs.take k)).toArray⟩:ByteArray)++⟨#[46]⟩++⟨(Lib.decDigits bs[k]).toArray⟩=⟨(fI (bs.take (k+1))).toArray⟩):=(by show _=_;have e1:(⟨(fI (bs.take k)).toArray⟩:ByteArray)++⟨#[46]⟩=⟨(fI (bs.take k)++ [46]).toArray⟩:=aP _ [46];rw[e1,aP,hrs];simp);have HDD:Hid _:=HDE.out bs[k] wr hb256;generalize(⟨(fI (bs.take k)).toArray⟩:ByteArray)=acc at*;generalize(⟨(Lib.decDigits bs[k]).toArray⟩:ByteArray)=pt at*;generalize bs[k]=bk at*;have z46:(⟨#[46]⟩:ByteArray).size=1:=rfl;have g0:∀W:World,(Op.stringOp .add acc ⟨#[46]⟩).run Tryz.prog W=.ok (.string (acc++⟨#[46]⟩)) W:=λW=>bm W _ _ (by omega);have g1:∀W:World,(Op.stringOp .add (acc++⟨#[46]⟩) pt).run Tryz.prog W=.ok (.string (acc++⟨#[46]⟩++pt)) W:=λW=>bm W _ _ (by simp only[qM];omega);clear hrs hdl hsz1 hsz2 z46 hb256 hb2;go_wp2_with fail;refine af HDD.out ?_;rintro e w3 ⟨rfl,bb⟩;have HB4:Hid (Below V.heap.size V w3):=HB3.out.trans (bb.mono HB3.out.size);clear cc bb;go_wp2;go_roundw
     case rel=>exact⟨k+1,by omega,by omega,by go_num,aB Value.string HA.out,HB4.out⟩
     case measure=>(simp[intOf];try omega)
    .have hke:k=4:=by omega
     subst hke;have HTE:Hid (fI (bs.take 4)=gN N):=by show _=_;rw[cg (by omega)];exact HTL.out
     have HBE:Hid (Below w.heap.size w wr):=HB.out.trans (HB3.out.mono hbz);clear hb2;go_wp2;go_ret2;rw[HRS.out];refine⟨?_,HBE.out⟩;show _=Ending.returned (.tuple #[.string ⟨(gN ((N:Int)).toNat).toArray⟩,.bool true]);rw[HTE.out];rfl
end Go.Proofs
