import Derived.Test.YtkcnageeamappaaGreatDoorXU2b
set_option maxHeartbeats 32000000
set_option maxRecDepth 8000
set_option linter.unusedSimpArgs false
namespace Go.Proofs
open Go.RowKit Go.Moor Go.Proofs.Tryz Go.Moor
def jV (u:Adr) (us ps:Bs):Adr:={u with t:={u.t with e:=us,d:=ps}}
theorem LI (u:Adr) (h:u.t.e=[]) (a:u.t.d=[]):jV u [] []=u:=by obtain⟨c,⟨e,g,b,j,i⟩,d,q,f⟩:=u;have h:=h;have a:=a;subst h;subst a;rfl
theorem zO (t:Bs) (q:Nat):(⟨t.toArray⟩:ByteArray).extract q (⟨t.toArray⟩:ByteArray).size=⟨(t.drop q).toArray⟩:=by simp[fJ,al,cg]
theorem tw (t:Bs) (q:Nat):(⟨t.toArray⟩:ByteArray).extract 0 q=⟨(t.take q).toArray⟩:=by simp[fJ]
theorem LJ {B R k j:Nat} {bv:Value} {s:ByteArray} {w0:World} {u:Adr} {pv:Value} (a:Nat) {w:World} (hm:Mem B R k j bv s w0 u pv (a:Nat) 4 0 w) (hu0:u.t.e=[]) (hp0:u.t.d=[]) (ha:a<=s.size) (hs:s.size<=2000):Calls prog 179 #[.pointer (some ⟨k,0,none⟩)] w λe w'=>e=.returned (.tuple #[])/\iD B R k j bv s w0 (gB hostTell ⟨u,s.data.toList.drop a,4,0⟩) w':=by
 obtain⟨t,ht⟩:∃t,t=bV u.s (s.data.toList.drop a):=⟨_,rfl⟩;have htl:t.length<=2000:=by
  have h1:(bV u.s (s.data.toList.drop a)).length<=(s.data.toList.drop a).length:=(uf _).length_le;have h2:(s.data.toList.drop a).length<=s.size:=by rw[cm,bT];exact lK _ _
  rw[<-ht] at h1;omega
 have HUN:Hid (∀W,Tryz.Mem B R k j bv s w0 u pv (a:Nat) 4 0 W->Calls Tryz.prog 220 #[.pointer (some ⟨k,0,none⟩)] W λe w'=>∃b:Nat,b<=s.size/\e=.returned (.string ⟨t.toArray⟩)/\ca u.s (s.data.toList.drop a)=s.data.toList.drop b/\Tryz.Mem B R k j bv s w0 u pv (b:Nat) 4 0 w'):=by intro W hW;refine(kO a hW ha (by omega)).mono ?_;rintro e w' ⟨b,_,h2,h3,h4,h5⟩;exact⟨b,h2,by rw[h3,ht],h4,h5⟩
 have HERR:Hid (∀e,ia hostTell t u.s=.error e->(gB hostTell ⟨u,s.data.toList.drop a,4,0⟩).err=e):=by intro e he;unfold gB;simp only;rw[<-ht,he]
 have HOKA:Hid (∀x (b:Nat),ia hostTell t u.s=.ok x->ca u.s (s.data.toList.drop a)=s.data.toList.drop b->gB hostTell ⟨u,s.data.toList.drop a,4,0⟩=⟨{u with t:=x},s.data.toList.drop b,5,0⟩):=by intro x b he hb;unfold gB;simp only;rw[<-ht,he,hb]
 have HES:Hid (∀(c:UInt8) W,Calls Tryz.prog 40 #[.string ⟨#[c]⟩,.int .i64 5] W λe w'=>e=.returned (.string ⟨(ah 5 [c]).toArray⟩)/\Below W.heap.size W w'):=λc W=>hZ ⟨#[c]⟩ 5 W (by show 1<=_;omega);have HSP:Hid (∀W,Calls Tryz.prog 129 #[.string ⟨u.s.toArray⟩] W λe w'=>e=.returned (.bool (ao u.s))/\w'=W):=λW=>kI ⟨u.s.toArray⟩ W;have HHO:Hid (∀(h:Bs) (sp:Bool) W,h.length<=2000->Calls Tryz.prog 67 #[.string ⟨h.toArray⟩,.bool sp] W λe w'=>fe (hostTell h sp) e/\Below W.heap.size W w'):=λh sp W hl=>pH ⟨h.toArray⟩ sp W (by rw[al];exact hl);have HPO:Hid (∀(p:Bs) W,p.length<=2000->Calls Tryz.prog 130 #[.string ⟨p.toArray⟩,.string ⟨u.s.toArray⟩] W λe w'=>e=.returned (.tuple #[.int .i64 (eM p u.s).1,.int .i64 (eM p u.s).2])/\w'=W):=λp W hl=>As p u.s W (by omega);have HWN:Hid (jV u [] []=u):=LI u hu0 hp0;obtain⟨tb,htb⟩:∃tb:ByteArray,tb=⟨t.toArray⟩:=⟨_,rfl⟩;have hlen:t.length=tb.size:=by rw[htb,al]
 have HG:Hid (∀(q:Nat) (h:q<tb.size) (h2:q<t.length),t[q]=tb[q]):=by intro q h h2;subst htb;rfl
 have HX1:Hid (∀(q:Nat) (h:q<tb.size),tb.extract q (q+1)=⟨#[tb[q]]⟩):=λq h=>ky tb q h;have HXD:Hid (∀q:Nat,tb.extract q tb.size=⟨(t.drop q).toArray⟩):=by intro q;rw[htb];exact zO t q
 have HTB:Hid (tb=⟨t.toArray⟩):=htb;rw[<-htb] at HUN;have HM:Hid _:=hm;clear hm ht htb hu0 hp0;go_enter Tryz.func179,Tryz.ntmps179;go_wp2_with fail;refine af (HUN.out _ HM.out) ?_;rintro e w1 ⟨b,hbs,rfl,hbe,hm1⟩;have HM1:Hid (Tryz.Mem B R k j bv s w0 u pv (b:Nat) 4 0 w1):=hm1;have HBE:Hid (ca u.s (s.data.toList.drop a)=s.data.toList.drop b):=hbe;clear hm1 hbe HM HUN;go_wp2_with fail;go_loopw [3,4] (λx i wr=>∃(n:Nat) (z:Int),n<=tb.size/\i=.int .i64 (n:Nat)/\x=.int .i64 z/\jx t n z/\wr=w1) (λ_ i _=>tb.size-(intOf i).toNat)
 case atStart=>exact⟨0, -1,aR _,rfl,rfl,LY t,rfl⟩
 case round=>
 obtain⟨n,z,hn,rfl,rfl,hla,hwr⟩:=hrel;subst hwr;have HLA:Hid (jx t n z):=hla;clear hla;by_cases hlt:n<tb.size
 .have h2:n<t.length:=by omega
  have hg:=HG.out n hlt h2;by_cases hc:(tb[n].toNat:Int)=64
  .have HN:Hid (jx t (n+1) (n:Int)):=LZ t n h2 (by rw[hg];exact(dt tb[n] 64 (by decide)).2 hc)
   clear HERR HOKA HES HSP HHO HPO HX1 HXD hg HBE HLA HG;go_wp2;go_roundw
   case rel=>exact⟨n+1,n,hlt,rfl,rfl,HN.out,by simp⟩
   case measure=>(simp[intOf];try omega)
  .have hcb:((tb[n].toNat:Int)==64)=false:=by simpa using hc
   have HN:Hid (jx t (n+1) z):=Ma t n z h2 (by rw[hg];exact λe=>hc ((dt tb[n] 64 (by decide)).1 e)) HLA.out;clear HERR HOKA HES HSP HHO HPO HX1 HXD hg HBE HLA hc HG;go_wp2;go_roundw
   case rel=>exact⟨n+1,z,hlt,rfl,rfl,HN.out,by simp⟩
   case measure=>(simp[intOf];try omega)
 have hnt:n=t.length:=by omega
 rw[hnt] at HLA;clear hnt;go_upto_if 29 with fail
 go_cut [2] from 15 to 90 (λa2 wx=>∃y us ps:Bs,a2=.string ⟨y.toArray⟩/\y.length<=2000/\ia hostTell t u.s=jy hostTell us ps y u.s/\Tryz.Mem B R k j bv s w0 (jV u us ps) pv (b:Nat) 4 0 wx)
 case first=>
  by_cases hz:0<=z
  .obtain⟨p,hzp,hp,hcu⟩:=Md t z hz HLA.out
   subst hzp;have HCU:Hid (bB t=(t.take p,t.drop (p+1))):=hcu;clear hcu HLA HSP HHO HPO HOKA HBE;rw[show decide ((0:Int)<=(p:Int))=true from dC hz];go_wp2_with fail;go_loopw [5,6] (λx i wr=>∃(n:Nat) (sec:Bool) (us ps:Bs),n<=p/\x=.bool sec/\i=.int .i64 (n:Nat)/\UpAt (t.take n) sec us ps/\Tryz.Mem B R k j bv s w0 (jV u us ps) pv (b:Nat) 4 0 wr) (λ_ i _=>p-(intOf i).toNat)
   case atStart=>exact⟨0,false,[],[],aR _,rfl,rfl,LO,by rw[HWN.out];exact HM1.out⟩
   case round=>
   clear HM1;obtain⟨n,sec,us,ps,hn,rfl,rfl,hup,hmr⟩:=hrel;have HUP:Hid (UpAt (t.take n) sec us ps):=hup;have HMR:Hid (Tryz.Mem B R k j bv s w0 (jV u us ps) pv (b:Nat) 4 0 wr):=hmr;have hul:us.length+ps.length<=6000:=by have:=LU _ _ _ _ hup (λl=>iT 5 l);rw[cL] at this;omega
   clear hup hmr;by_cases hlt:n<p
   .have h1:n<tb.size:=by omega
    have h2:n<t.length:=(by omega);have hg:=HG.out n h1 h2;have hx1:=HX1.out n h1;have HTK:Hid (t.take (n+1)=t.take n++ [tb[n]]):=(by show _=_;rw[Me t n h2,hg]);have HEC:Hid _:=HES.out tb[n];have he9:(ah 5 [tb[n]]).length<=3:=iT 5 [tb[n]];have q6:IntKind.i64.wrap ((n:Int)+1)=(n:Int)+1:=(by rw[lc];unfold wrap64;omega);have q2:(n:Int)+1<=(tb.size:Int):=(by omega);have q3:((n:Int)+1).toNat=n+1:=(by omega);have q4:(0:Int)<=(n:Int)+1:=(by omega);have q5:(n:Int)<=(n:Int)+1:=(by omega);have q7:(n:Int)<(tb.size:Int):=(by omega);obtain⟨ec,hec⟩:∃ec,ec=ah 5 [tb[n]]:=⟨_,rfl⟩;rw[<-hec] at HEC he9;have HECE:Hid (ec=ah 5 [tb[n]]):=hec;clear hec hg;cases sec with
    |true=>
     have HADD:Hid ((⟨ps.toArray⟩:ByteArray)++⟨ec.toArray⟩=⟨(ps++ec).toArray⟩):=aP ps ec;have hadd:∀V:World,(Op.stringOp .add ⟨ps.toArray⟩ ⟨ec.toArray⟩).run Tryz.prog V=.ok (.string ⟨(ps++ec).toArray⟩) V:=λV=>by
      rw[bm V _ _ (by rw[al,al];omega),HADD.out]
     have HU2:Hid (UpAt (t.take (n+1)) true us (ps++ec)):=(by show UpAt _ _ _ _;rw[HTK.out,HECE.out];exact LR _ _ _ _ HUP.out);have HCL:Hid (∀w5,Below wr.heap.size wr w5->w5.cell? ⟨k,0,none⟩=some (.pointer (some ⟨j,0,none⟩))/\w5.cell? ⟨j,2,none⟩=some (.string ⟨ps.toArray⟩)/\w5.frozen? ⟨j,2,none⟩=false/\Hid (Tryz.Mem B R k j bv s w0 (jV u us (ps++ec)) pv (b:Nat) 4 0 (w5.drew.setCell ⟨j,2,none⟩ (.string ⟨(ps++ec).toArray⟩)))):=(by intro w5 h5;have h6:=HMR.out.off h5;exact⟨aa h6.K 0,aa h6.U 2,aj h6.U 2,(h6.off (ai _ _).drew).uset (u':=jV u us (ps++ec)) 2 _ rfl rfl⟩);have hcs:((tb[n].toNat:Int)==58)=true\/((tb[n].toNat:Int)==58)=false:=(by cases((tb[n].toNat:Int)==58)<;>simp);generalize(⟨(ps++ec).toArray⟩:ByteArray)=p2 at*;generalize(⟨ec.toArray⟩:ByteArray)=eb at*;generalize(⟨ps.toArray⟩:ByteArray)=pb at*;clear HADD HERR HES HX1 HXD HG HCU HUP HTK HECE HMR;rcases hcs with hcs|hcs
     .go_wp2_with fail
      refine af (HEC.out _) ?_;rintro e w5 ⟨rfl,hb5⟩;obtain⟨z0,z2,x2,HM5⟩:=HCL.out w5 hb5;clear hb5 HCL;go_wp2;go_region;go_wp2;go_roundw
      case rel=>exact⟨n+1,true,us,ps++ec,hlt,rfl,rfl,HU2.out,HM5.out⟩
      case measure=>(simp[intOf];try omega)
     .go_wp2_with fail
      refine af (HEC.out _) ?_;rintro e w5 ⟨rfl,hb5⟩;obtain⟨z0,z2,x2,HM5⟩:=HCL.out w5 hb5;clear hb5 HCL;go_wp2;go_region;go_wp2;go_roundw
      case rel=>exact⟨n+1,true,us,ps++ec,hlt,rfl,rfl,HU2.out,HM5.out⟩
      case measure=>(simp[intOf];try omega)
    |false=>
     by_cases hc:(tb[n].toNat:Int)=58
     .have HU2:Hid (UpAt (t.take (n+1)) true us ps):=by
       show UpAt _ _ _ _;rw[HTK.out,show tb[n]=58 from(dt tb[n] 58 (by decide)).2 hc];exact LP _ _ _ HUP.out
      generalize(⟨ec.toArray⟩:ByteArray)=eb at*;clear HERR HES HX1 HXD HG HCU HUP HTK HECE;go_wp2_with fail;refine af (HEC.out _) ?_;rintro e w5 ⟨rfl,hb5⟩;have HM5:Hid _:=HMR.out.off hb5;clear hb5 HMR;go_wp2;go_roundw
      case rel=>exact⟨n+1,true,us,ps,hlt,rfl,rfl,HU2.out,HM5.out⟩
      case measure=>(simp[intOf];try omega)
     .have hcs:((tb[n].toNat:Int)==58)=false:=by simpa using hc
      have HADD:Hid ((⟨us.toArray⟩:ByteArray)++⟨ec.toArray⟩=⟨(us++ec).toArray⟩):=aP us ec;have hadd:∀V:World,(Op.stringOp .add ⟨us.toArray⟩ ⟨ec.toArray⟩).run Tryz.prog V=.ok (.string ⟨(us++ec).toArray⟩) V:=λV=>by
       rw[bm V _ _ (by rw[al,al];omega),HADD.out]
      have HU2:Hid (UpAt (t.take (n+1)) false (us++ec) ps):=(by show UpAt _ _ _ _;rw[HTK.out,HECE.out];exact LQ _ _ _ _ (λe=>hc ((dt tb[n] 58 (by decide)).1 e)) HUP.out);have HCL:Hid (∀w5,Below wr.heap.size wr w5->w5.cell? ⟨k,0,none⟩=some (.pointer (some ⟨j,0,none⟩))/\w5.cell? ⟨j,1,none⟩=some (.string ⟨us.toArray⟩)/\w5.frozen? ⟨j,1,none⟩=false/\Hid (Tryz.Mem B R k j bv s w0 (jV u (us++ec) ps) pv (b:Nat) 4 0 (w5.drew.setCell ⟨j,1,none⟩ (.string ⟨(us++ec).toArray⟩)))):=(by intro w5 h5;have h6:=HMR.out.off h5;exact⟨aa h6.K 0,aa h6.U 1,aj h6.U 1,(h6.off (ai _ _).drew).uset (u':=jV u (us++ec) ps) 1 _ rfl rfl⟩);generalize(⟨(us++ec).toArray⟩:ByteArray)=p2 at*;generalize(⟨ec.toArray⟩:ByteArray)=eb at*;generalize(⟨us.toArray⟩:ByteArray)=pb at*;clear HADD HERR HES HX1 HXD HG HCU HUP HTK HECE HMR hc;go_wp2_with fail;refine af (HEC.out _) ?_;rintro e w5 ⟨rfl,hb5⟩;obtain⟨z0,z1,x1,HM5⟩:=HCL.out w5 hb5;clear hb5 HCL;go_wp2;go_region;go_wp2;go_roundw
      case rel=>exact⟨n+1,false,us++ec,ps,hlt,rfl,rfl,HU2.out,HM5.out⟩
      case measure=>(simp[intOf];try omega)
   .have hnp:n=p:=by omega
    rw[hnp] at HUP;have hx:=HXD.out (p+1);have q6:IntKind.i64.wrap ((p:Int)+1)=(p:Int)+1:=(by rw[lc];unfold wrap64;omega);have q2:(p:Int)+1<=(tb.size:Int):=(by omega);have q3:((p:Int)+1).toNat=p+1:=(by omega);have q4:(0:Int)<=(p:Int)+1:=(by omega);have hye:=ir (t.drop (p+1));have hyl:(t.drop (p+1)).length<=2000:=(by rw[cm];omega);obtain⟨y,hy⟩:∃y,y=t.drop (p+1):=⟨_,rfl⟩;rw[<-hy] at hx hye hyl HCU;have hne:t≠[]:=(by rintro rfl;simp at hp);have HFIN:Hid (y≠[]->ia hostTell t u.s=jy hostTell us ps y u.s):=by intro hyn;have:=zQ hostTell t u.s (by rw[HCU.out];exact λh=>hyn h.2);rw[HCU.out] at this;obtain⟨e1,e2⟩:=LS _ _ _ _ HUP.out;rw[this,<-e1,<-e2]
    have HBAD:Hid (y=[]->(gB hostTell ⟨u,s.data.toList.drop a,4,0⟩).err=4):=λhyn=>HERR.out 4 (Mf hostTell t u.s _ _ HCU.out hne hyn);have hmr:=HMR.out;have v5:wr.cell? ⟨k,5,none⟩=some (.int .i64 0):=aa hmr.K 5;have x5:=aj hmr.K 5;obtain⟨yb,hyb⟩:∃yb:ByteArray,yb=⟨y.toArray⟩:=⟨_,rfl⟩;rw[<-hyb] at hx hye;have HYB:Hid (yb=⟨y.toArray⟩):=hyb;clear hyb hmr hy hne HCU HUP HES HX1 HXD HG HERR;by_cases hyn:y=[]
    .have hy2:yb.toList.isEmpty=true:=by rw[hye,hyn];rfl
     have HB4:Hid _:=HBAD.out hyn;clear hyn hye HBAD HFIN;go_wp2;exact aO (v:=.tuple #[]) (bf rfl _ _ _) rfl ⟨rfl,kJ (HMR.out.set_er 4) _ HB4.out (by decide)⟩
    .have hy2:yb.toList.isEmpty=false:=by
      rw[hye];cases y with
      |nil=>exact absurd rfl hyn
      |cons x y=>rfl
     have HF:Hid _:=HFIN.out hyn;clear hyn hye HBAD HFIN;go_wp2;go_meet
     case rel=>exact⟨y,us,ps,by rw[HYB.out],hyl,HF.out,HMR.out⟩
  .have hz2:z<0:=by omega
   have HCU:Hid (bB t=([],t)):=Mb t z hz2 HLA.out;have HFIN:Hid (ia hostTell t u.s=jy hostTell [] [] t u.s):=(by have:=zQ hostTell t u.s (by rw[HCU.out];exact λh=>h.1 h.2);rw[HCU.out] at this;exact this);clear HLA HSP HHO HPO HOKA HBE HERR HES HX1 HXD HG HCU;go_wp2;go_meet
   case rel=>exact⟨t,[],[],by rw[HTB.out],htl,HFIN.out,by rw[HWN.out];exact HM1.out⟩
 case rest=>
 clear HM1 HLA HES HX1 HXD HG HWN HTB hlt hn hlen htl;obtain⟨y,us,ps,rfl,hyl,hra,hmc⟩:=hcut;have HRA:Hid _:=hra;have HMC:Hid _:=hmc;clear hra hmc;obtain⟨yb,hyb⟩:∃yb:ByteArray,yb=⟨y.toArray⟩:=⟨_,rfl⟩;have hlen:y.length=yb.size:=by rw[hyb,al]
 have HG:Hid (∀(q:Nat) (h:q<yb.size) (h2:q<y.length),y[q]=yb[q]):=by intro q h h2;subst hyb;rfl
 have HXD:Hid (∀q:Nat,yb.extract q yb.size=⟨(y.drop q).toArray⟩):=by intro q;rw[hyb];exact zO y q
 have HXT:Hid (∀q:Nat,yb.extract 0 q=⟨(y.take q).toArray⟩):=by intro q;rw[hyb];exact tw y q
 have HYB:Hid (yb=⟨y.toArray⟩):=hyb;rw[<-hyb];clear hyb;go_upto_block 5 with fail;go_cut [9] from 91 to 120 (λc wx=>∃z:Int,c=.int .i64 z/\((z= -1/\co y=(y,none))\/∃m:Nat,z=(m:Int)/\m<y.length/\co y=(y.take m,some (y.drop (m+1))))/\wx=wc)
 case first=>
  clear HERR HOKA HSP HHO HPO HBE HRA HMC HXD HXT HYB;go_wp2_with fail;go_loopw [8,9,10] (λx c i wr=>∃(n:Nat) (inb:Bool) (z:Int),n<=yb.size/\x=.bool inb/\c=.int .i64 z/\i=.int .i64 (n:Nat)/\((z= -1/\gG y n inb)\/∃m:Nat,z=(m:Int)/\m<y.length/\co y=(y.take m,some (y.drop (m+1))))/\wr=wc) (λ_ _ i _=>yb.size-(intOf i).toNat)
  case atStart=>exact⟨0,false, -1,aR _,rfl,rfl,rfl,Or.inl ⟨rfl,LV y⟩,rfl⟩
  case round=>
  obtain⟨n,inb,z,hn,rfl,rfl,rfl,hz,hwr⟩:=hrel;have hwr:=hwr.symm;subst hwr;rcases hz with⟨rfl,hsc⟩|⟨m,rfl,hml,hsc⟩
  .by_cases hlt:n<yb.size
   .have h2:n<y.length:=by omega
    have hg:=HG.out n hlt h2;have HSC:Hid (gG y n inb):=hsc;clear hsc;have q7:(n:Int)<(yb.size:Int):=(by omega);by_cases h91:(yb[n].toNat:Int)=91
    .have HN:Hid (gG y (n+1) true):=by
      have e:y[n]=91:=(by rw[hg];exact(dt yb[n] 91 (by decide)).2 h91);have:=qh y n inb h2 (by rw[e];exact λh=>absurd h.1 (by decide)) HSC.out;rw[e] at this;exact this
     clear HSC hg HG;go_wp2;go_roundw
     case rel=>exact⟨n+1,true, -1,hlt,rfl,rfl,rfl,Or.inl ⟨rfl,HN.out⟩,by simp⟩
     case measure=>(simp[intOf];try omega)
    .have h91b:((yb[n].toNat:Int)==91)=false:=by simpa using h91
     by_cases h93:(yb[n].toNat:Int)=93
     .have HN:Hid (gG y (n+1) false):=by
       have e:y[n]=93:=(by rw[hg];exact(dt yb[n] 93 (by decide)).2 h93);have:=qh y n inb h2 (by rw[e];exact λh=>absurd h.1 (by decide)) HSC.out;rw[e] at this;exact this
      clear HSC hg HG h91;go_wp2;go_roundw
      case rel=>exact⟨n+1,false, -1,hlt,rfl,rfl,rfl,Or.inl ⟨rfl,HN.out⟩,by simp⟩
      case measure=>(simp[intOf];try omega)
     .have h93b:((yb[n].toNat:Int)==93)=false:=by simpa using h93
      have HIN:Hid (qg y[n] inb=inb):=(by show _=_;unfold qg;rw[hg,ab (λe=>h91 ((dt yb[n] 91 (by decide)).1 e)),ab (λe=>h93 ((dt yb[n] 93 (by decide)).1 e))]);by_cases h58:(yb[n].toNat:Int)=58
      .have e:y[n]=58:=by rw[hg];exact(dt yb[n] 58 (by decide)).2 h58
       cases inb with
       |false=>
        have HN:Hid (co y=(y.take n,some (y.drop (n+1)))):=LW y n h2 e HSC.out;clear HSC hg HG h91 h93 HIN e;go_wp2;go_roundw
        case rel=>exact⟨n+1,false,n,hlt,rfl,rfl,rfl,Or.inr ⟨n,rfl,h2,HN.out⟩,by simp⟩
        case measure=>(simp[intOf];try omega)
       |true=>
        have HN:Hid (gG y (n+1) true):=(by have:=qh y n true h2 (λh=>by cases h.2) HSC.out;rw[HIN.out] at this;exact this);clear HSC hg HG h91 h93 HIN e;go_wp2;go_roundw
        case rel=>exact⟨n+1,true, -1,hlt,rfl,rfl,rfl,Or.inl ⟨rfl,HN.out⟩,by simp⟩
        case measure=>(simp[intOf];try omega)
      .have h58b:((yb[n].toNat:Int)==58)=false:=by simpa using h58
       have HN:Hid (gG y (n+1) inb):=(by have:=qh y n inb h2 (by rw[hg];exact λh=>h58 ((dt yb[n] 58 (by decide)).1 h.1)) HSC.out;rw[HIN.out] at this;exact this);clear HSC hg HG h91 h93 h58 HIN;go_wp2;go_roundw
       case rel=>exact⟨n+1,inb, -1,hlt,rfl,rfl,rfl,Or.inl ⟨rfl,HN.out⟩,by simp⟩
       case measure=>(simp[intOf];try omega)
   .have HN:Hid (co y=(y,none)):=LX y n inb (by omega) hsc
    clear hsc HG;go_wp2;go_meet
    case rel=>exact⟨-1,rfl,Or.inl ⟨rfl,HN.out⟩,rfl⟩
  .have HN:Hid (co y=(y.take m,some (y.drop (m+1)))):=hsc
   clear hsc HG;by_cases hlt:n<yb.size
   .go_wp2
    go_meet
    case rel=>exact⟨m,rfl,Or.inr ⟨m,rfl,hml,HN.out⟩,rfl⟩
   .go_wp2
    go_meet
    case rel=>exact⟨m,rfl,Or.inr ⟨m,rfl,hml,HN.out⟩,rfl⟩
 case rest=>
 obtain⟨z,rfl,hz,hwc⟩:=hcut;have hwc:=hwc.symm;subst hwc;have HZ:Hid _:=hz;clear hz HG;go_upto_if 123 with fail
 go_cut [11,12] from 121 to 130 (λh p wx=>∃hb pb:Bs,h=.string ⟨hb.toArray⟩/\p=.string ⟨pb.toArray⟩/\hb.length<=2000/\pb.length<=2000/\jy hostTell us ps y u.s=jA hostTell us ps hb pb z u.s/\wx=wc)
 case first=>
  clear HERR HOKA HSP HHO HPO HBE HRA HMC;rcases HZ.out with⟨hz1,hsc⟩|⟨m,hz1,hml,hsc⟩
  .subst hz1
   have HN:Hid _:=Mg hostTell us ps y u.s hsc;clear hsc HZ HXD HXT;go_wp2;go_meet
   case rel=>exact⟨y,[],by rw[HYB.out],rfl,hyl,by simp,HN.out,rfl⟩
  .subst hz1
   have HN:Hid _:=Mh hostTell us ps y u.s _ _ m hsc;have q6:IntKind.i64.wrap ((m:Int)+1)=(m:Int)+1:=(by rw[lc];unfold wrap64;omega);have q2:(m:Int)+1<=(yb.size:Int):=(by omega);have q3:((m:Int)+1).toNat=m+1:=(by omega);have q4:(0:Int)<=(m:Int)+1:=(by omega);have q5:(m:Int)<=(yb.size:Int):=(by omega);have hx1:=HXT.out m;have hx2:=HXD.out (m+1);have hl1:(y.take m).length<=2000:=(by rw[cL];omega);have hl2:(y.drop (m+1)).length<=2000:=(by rw[cm];omega);clear hsc HZ HXD HXT HYB;go_wp2;go_meet
   case rel=>exact⟨y.take m,y.drop (m+1),rfl,rfl,hl1,hl2,HN.out,rfl⟩
 case rest=>
 obtain⟨hb,pb,rfl,rfl,hhl,hpl,hin,hwc⟩:=hcut;have hwc:=hwc.symm;subst hwc;have hra:=HRA.out;rw[hin] at hra;have HRB:Hid (ia hostTell t u.s=jA hostTell us ps hb pb z u.s):=hra;clear hra hin HRA HZ HXD HXT HYB hlen;have hmc:=HMC.out;have y0:wc.cell? ⟨k,0,none⟩=some (.pointer (some ⟨j,0,none⟩)):=aa hmc.K 0;have c0:wc.cell? ⟨j,0,none⟩=some (.string ⟨u.s.toArray⟩):=aa hmc.U 0;have v5:wc.cell? ⟨k,5,none⟩=some (.int .i64 0):=aa hmc.K 5;have x5:=aj hmc.K 5;have hhe:=ir hb;have HHB:Hid _:=λsp W=>HHO.out hb sp W hhl;have HPB:Hid _:=λW=>HPO.out pb W hpl;have hoe:(decide (hb≠[]))= !hb.isEmpty:=by cases hb<;>rfl
 have HBH:Hid (kK hb z u.s=(hb.isEmpty&&(decide (0<=z)||ao u.s))):=by show _=_;unfold kK;cases hb<;>rfl
 have HGD:Hid _:=Mj hostTell us ps hb pb z u.s;have HBD:Hid _:=Mi hostTell us ps hb pb z u.s;rw[hoe] at HGD;generalize hbb:(⟨hb.toArray⟩:ByteArray)=hx at*;clear hmc HHO HPO hbb hoe hyl hhl hpl;generalize hb.isEmpty=he at*;go_upto_region 37 with fail;go_cut [146] from 131 to 145 (λv wx=>v=.bool (kK hb z u.s)/\wx=wc)
 case first=>
  clear HERR HOKA HBE HMC HGD HBD HHB HPB HRB v5 x5;cases he with
  |false=>
   go_wp2;go_meet
   case rel=>exact⟨by rw[HBH.out];rfl,rfl⟩
  |true=>
   by_cases hz:0<=z
   .have hzd:decide (0<=z)=true:=dC hz
    go_wp2;go_meet
    case rel=>exact⟨by rw[HBH.out,hzd];rfl,rfl⟩
   .have hzd:decide (0<=z)=false:=ee hz
    go_wp2_with fail;refine af (HSP.out _) ?_;rintro e w2 ⟨rfl,hw2⟩;have hw2:=hw2.symm;subst hw2;go_wp2;go_meet
    case rel=>exact⟨by rw[HBH.out,hzd];rfl,rfl⟩
 case rest=>
 obtain⟨rfl,hwc⟩:=hcut;have hwc:=hwc.symm;subst hwc;clear HBH;cases hbad:kK hb z u.s with
 |true=>have HE:Hid _:=HERR.out 4 (HRB.out.trans (HBD.out hbad));clear HERR HOKA HBE HGD HBD HHB HPB HRB hbad HSP;go_wp2;exact aO (v:=.tuple #[]) (bf rfl _ _ _) rfl ⟨rfl,kJ (HMC.out.set_er 4) _ HE.out (by decide)⟩
 |false=>
  have hg:=HGD.out hbad;rw[<-HRB.out] at hg;have HGE:Hid _:=hg;clear hg HGD HBD HRB hbad v5 x5;go_upto_region 39 with fail;go_cut [13,14] from 150 to 166 (λv1 v2 wx=>fe (hostTell hb (ao u.s&&!he)) (.returned (.tuple #[v1,v2]))/\Below wc.heap.size wc wx)
  case first=>
   clear HERR HOKA HBE HPB HGE HMC;cases hsp:ao u.s with
   |false=>
    rw[hsp] at HSP;have HSE:Hid (ao u.s=false):=hsp;have HHX:Hid _:=HHB.out false;clear HHB hsp;go_wp2_with fail;refine af (HSP.out _) ?_;rintro e w2 ⟨rfl,hw2⟩;have hw2:=hw2.symm;subst hw2;go_wp2_with fail;refine af (HHX.out _) ?_;rintro e w4 ⟨hres,hb4⟩;cases ho:hostTell hb false with
    |none=>
     rw[ho] at hres;obtain⟨xh,rfl⟩:=hres;have HB4:Hid _:=hb4;clear hb4;go_wp2;go_meet
     case rel=>exact⟨by rw[HSE.out,qV,ho];exact⟨xh,rfl⟩,HB4.out⟩
    |some x=>
     rw[ho] at hres;have hres:e=.returned (.tuple #[.string ⟨x.toArray⟩,.bool true]):=hres;subst hres;have HB4:Hid _:=hb4;clear hb4;go_wp2;go_meet
     case rel=>exact⟨by rw[HSE.out,qV,ho];rfl,HB4.out⟩
   |true=>
    rw[hsp] at HSP;have HSE:Hid (ao u.s=true):=hsp;have HHX:Hid _:=HHB.out (!he);clear HHB hsp;cases he with
    |false=>
     go_wp2_with fail;refine af (HSP.out _) ?_;rintro e w2 ⟨rfl,hw2⟩;have hw2:=hw2.symm;subst hw2;go_wp2_with fail;refine af (HHX.out _) ?_;rintro e w4 ⟨hres,hb4⟩;cases ho:hostTell hb true with
     |none=>
      have hres:fe (hostTell hb true) e:=hres;rw[ho] at hres;obtain⟨xh,rfl⟩:=hres;have HB4:Hid _:=hb4;clear hb4;go_wp2;go_meet
      case rel=>exact⟨by rw[HSE.out];show fe (hostTell hb true) _;rw[ho];exact⟨xh,rfl⟩,HB4.out⟩
     |some x=>
      have hres:fe (hostTell hb true) e:=hres;rw[ho] at hres;have hres:e=.returned (.tuple #[.string ⟨x.toArray⟩,.bool true]):=hres;subst hres;have HB4:Hid _:=hb4;clear hb4;go_wp2;go_meet
      case rel=>exact⟨by rw[HSE.out];show fe (hostTell hb true) _;rw[ho];rfl,HB4.out⟩
    |true=>
     go_wp2_with fail;refine af (HSP.out _) ?_;rintro e w2 ⟨rfl,hw2⟩;have hw2:=hw2.symm;subst hw2;go_wp2_with fail;refine af (HHX.out _) ?_;rintro e w4 ⟨hres,hb4⟩;cases ho:hostTell hb false with
     |none=>
      have hres:fe (hostTell hb false) e:=hres;rw[ho] at hres;obtain⟨xh,rfl⟩:=hres;have HB4:Hid _:=hb4;clear hb4;go_wp2;go_meet
      case rel=>exact⟨by rw[HSE.out];show fe (hostTell hb false) _;rw[ho];exact⟨xh,rfl⟩,HB4.out⟩
     |some x=>
      have hres:fe (hostTell hb false) e:=hres;rw[ho] at hres;have hres:e=.returned (.tuple #[.string ⟨x.toArray⟩,.bool true]):=hres;subst hres;have HB4:Hid _:=hb4;clear hb4;go_wp2;go_meet
      case rel=>exact⟨by rw[HSE.out];show fe (hostTell hb false) _;rw[ho];rfl,HB4.out⟩
  case rest=>
  obtain⟨hres,hb4⟩:=hcut;have hm4:=HMC.out.off hb4;clear y0 c0;have HM4:Hid _:=hm4;have z0:wc.cell? ⟨k,0,none⟩=some (.pointer (some ⟨j,0,none⟩)):=aa hm4.K 0;have c0:wc.cell? ⟨j,0,none⟩=some (.string ⟨u.s.toArray⟩):=aa hm4.U 0;have v5:wc.cell? ⟨k,5,none⟩=some (.int .i64 0):=aa hm4.K 5;have x5:=aj hm4.K 5;have v4:wc.cell? ⟨k,4,none⟩=some (.int .i64 4):=aa hm4.K 4;have x4:=aj hm4.K 4;have c3:wc.cell? ⟨j,3,none⟩=some (.bool u.t.has):=aa hm4.U 3;have d3:=aj hm4.U 3;have c4:wc.cell? ⟨j,4,none⟩=some (.string ⟨u.t.h.toArray⟩):=aa hm4.U 4;have d4:=aj hm4.U 4;have c5:wc.cell? ⟨j,5,none⟩=some (.int .i64 u.t.p):=aa hm4.U 5;have d5:=aj hm4.U 5;have hkj:=hm4.ne;have hjk:j≠k:=λe=>hm4.ne e.symm;clear HMC HHB HSP hm4 hb4;cases ho:hostTell hb (ao u.s&&!he) with
  |none=>have HE:Hid _:=HERR.out 4 (by rw[HGE.out,ho]);rw[ho] at hres;obtain⟨xh,hxh⟩:=hres;injection hxh with hxh;injection hxh with hxh;simp at hxh;obtain⟨rfl,rfl⟩:=hxh;clear HERR HOKA HBE HPB HGE ho c0 v4 x4 c3 d3 c4 d4 c5 d5;go_wp2;exact aO (v:=.tuple #[]) (bf rfl _ _ _) rfl ⟨rfl,kJ (HM4.out.set_er 4) _ HE.out (by decide)⟩
  |some x=>
   rw[ho] at hres;change _=Ending.returned (.tuple #[.string ⟨x.toArray⟩,.bool true]) at hres;injection hres with hres;injection hres with hres;simp at hres;obtain⟨rfl,rfl⟩:=hres;have hgx:=HGE.out;rw[ho] at hgx;simp only at hgx;have HM5:Hid (Tryz.Mem B R k j bv s w0 {u with t:=⟨us,ps,true,x,u.t.p⟩} pv (b:Nat) 4 0 ((wc.setCell ⟨j,3,none⟩ (.bool true)).setCell ⟨j,4,none⟩ (.string ⟨x.toArray⟩))):=(HM4.out.uset (u':={u with t:=⟨us,ps,true,u.t.h,u.t.p⟩}) 3 (.bool true) rfl rfl).uset (u':={u with t:=⟨us,ps,true,x,u.t.p⟩}) 4 _ rfl rfl;clear HM4 HGE ho;cases hpt:cV pb u.s with
   |none=>
    have HE:Hid _:=HERR.out 5 (by rw[hgx,hpt]);have hpr:eM pb u.s=(0,5):=(by unfold eM;rw[hpt]);rw[hpr] at HPB;clear HERR HOKA HBE hgx hpt hpr;generalize(⟨x.toArray⟩:ByteArray)=xb at*;go_wp2;go_region_held3 (λw'=>w'.cell? ⟨k,0,none⟩=some (.pointer (some ⟨j,0,none⟩))/\w'.cell? ⟨j,0,none⟩=some (.string ⟨u.s.toArray⟩)) (simp[*,fB]) (first|(go_at_call 130;refine af (HPB.out _) ?_;rintro e w5 ⟨rfl,hw5⟩;have hw5:=hw5.symm;subst hw5))
    all_goals
     go_wp2;exact bS (v:=.tuple #[]) (bf rfl _ _ _) rfl ⟨rfl,by first|exact kJ (((HM5.out.drew.uset (u':={u with t:=⟨us,ps,true,x,0⟩}) 5 _ rfl rfl).set_er 5).set_st 5) _ HE.out (by decide)|exact kJ (((HM5.out.drew.set_er 5).uset (u':={u with t:=⟨us,ps,true,x,0⟩}) 5 _ rfl rfl).set_st 5) _ HE.out (by decide)⟩
   |some q=>
    have HE:Hid _:=HOKA.out ⟨us,ps,true,x,q⟩ b (by rw[hgx,hpt]) HBE.out;have hpr:eM pb u.s=(q,0):=(by unfold eM;rw[hpt]);rw[hpr] at HPB;clear HERR HOKA HBE hgx hpt hpr;generalize(⟨x.toArray⟩:ByteArray)=xb at*;go_wp2;go_region_held3 (λw'=>w'.cell? ⟨k,0,none⟩=some (.pointer (some ⟨j,0,none⟩))/\w'.cell? ⟨j,0,none⟩=some (.string ⟨u.s.toArray⟩)) (simp[*,fB]) (first|(go_at_call 130;refine af (HPB.out _) ?_;rintro e w5 ⟨rfl,hw5⟩;have hw5:=hw5.symm;subst hw5))
    all_goals
     go_wp2;exact bS (v:=.tuple #[]) (bf rfl _ _ _) rfl ⟨rfl,by rw[HE.out];first|exact iZ (bN (a:=b) (((HM5.out.drew.uset (u':={u with t:=⟨us,ps,true,x,q⟩}) 5 _ rfl rfl).set_er 0).set_st 5) hbs _ rfl) rfl|exact iZ (bN (a:=b) (((HM5.out.drew.set_er 0).uset (u':={u with t:=⟨us,ps,true,x,q⟩}) 5 _ rfl rfl).set_st 5) hbs _ rfl) rfl⟩
end Go.Proofs
