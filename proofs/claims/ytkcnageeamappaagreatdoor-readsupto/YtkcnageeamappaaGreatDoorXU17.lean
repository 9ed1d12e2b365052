import Derived.Test.YtkcnageeamappaaGreatDoorXU2b
set_option maxHeartbeats 32000000
set_option maxRecDepth 8000
namespace Go.Proofs
open Go.RowKit Go.Moor Go.Proofs.Tryz
def z7m (u:Adr) (us ps:Bs):Adr:={u with auth:={u.auth with user:=us,pass:=ps}}
theorem zik (u:Adr) (h:u.auth.user=[]) (h2:u.auth.pass=[]):z7m u [] []=u:=by obtain⟨sc,⟨us,ps,ha,ho,po⟩,wy,q,f⟩:=u;have h:=h;have h2:=h2;subst h;subst h2;rfl
theorem zhd (t:Bs) (q:Nat):(⟨t.toArray⟩:ByteArray).extract q (⟨t.toArray⟩:ByteArray).size=⟨(t.drop q).toArray⟩:=by rw[z1Z,z07];congr 2;show(t.drop q).take (t.length- q)=t.drop q;rw[List.take_of_length_le (by rw[List.length_drop];omega)]
theorem zhe (t:Bs) (q:Nat):(⟨t.toArray⟩:ByteArray).extract 0 q=⟨(t.take q).toArray⟩:=by rw[z1Z];rfl
theorem znt {B R k j:Nat} {bv:Value} {s:ByteArray} {w0:World} {u:Adr} {pv:Value} (a:Nat) {w:World} (hm:Tryz.Mem B R k j bv s w0 u pv (a:Nat) 4 0 w) (hu0:u.auth.user=[]) (hp0:u.auth.pass=[]) (ha:a≤s.size) (hs:s.size≤2000):Calls Tryz.prog 179 #[.pointer (some ⟨k,0,none⟩)] w fun e w'=>e=.returned (.tuple #[])∧z6B B R k j bv s w0 (z2Z hostTell ⟨u,s.data.toList.drop a,4,0⟩) w':=by
 obtain⟨t,ht⟩:=z09 (z1i u.scheme (s.data.toList.drop a));have htl:t.length≤2000:=by
  have h1:(z1i u.scheme (s.data.toList.drop a)).length≤(s.data.toList.drop a).length:=(List.takeWhile_sublist _).length_le;have h2:(s.data.toList.drop a).length≤s.size:=by rw[List.length_drop,Array.length_toList];exact Nat.sub_le _ _
  rw[←ht] at h1;omega
 have HUN:Hid (∀W,Tryz.Mem B R k j bv s w0 u pv (a:Nat) 4 0 W→Calls Tryz.prog 220 #[.pointer (some ⟨k,0,none⟩)] W fun e w'=>∃b:Nat,b≤s.size∧e=.returned (.string ⟨t.toArray⟩)∧z23 u.scheme (s.data.toList.drop a)=s.data.toList.drop b∧Tryz.Mem B R k j bv s w0 u pv (b:Nat) 4 0 w'):=by intro W hW;refine(zcj a hW ha (by omega)).mono ?_;rintro e w' ⟨b,_,h2,h3,h4,h5⟩;exact⟨b,h2,by rw[h3,ht],h4,h5⟩
 have HERR:Hid (∀e,z2c hostTell t u.scheme=.error e→(z2Z hostTell ⟨u,s.data.toList.drop a,4,0⟩).err=e):=by intro e he;unfold z2Z;simp only;rw[←ht,he]
 have HOKA:Hid (∀x (b:Nat),z2c hostTell t u.scheme=.ok x→z23 u.scheme (s.data.toList.drop a)=s.data.toList.drop b→z2Z hostTell ⟨u,s.data.toList.drop a,4,0⟩=⟨{u with auth:=x},s.data.toList.drop b,5,0⟩):=by intro x b he hb;unfold z2Z;simp only;rw[←ht,he,hb]
 have HES:=hI fun c W=>zb3 ⟨#[c]⟩ 5 W (by show 1≤_;omega);have HSP:=hI fun W=>zae ⟨u.scheme.toArray⟩ W;have HHO:Hid (∀(h:Bs) (sp:Bool) W,h.length≤2000→Calls Tryz.prog 67 #[.string ⟨h.toArray⟩,.bool sp] W fun e w'=>z2k (hostTell h sp) e∧Below W.heap.size W w'):=fun h sp W hl=>zcE ⟨h.toArray⟩ sp W (by rw[z07];exact hl);have HPO:Hid (∀(p:Bs) W,p.length≤2000→Calls Tryz.prog 130 #[.string ⟨p.toArray⟩,.string ⟨u.scheme.toArray⟩] W fun e w'=>e=.returned (.tuple #[.int .i64 (z36 p u.scheme).1,.int .i64 (z36 p u.scheme).2])∧w'=W):=fun p W hl=>zbo p u.scheme W (by omega);have HWN:Hid _:=zik u hu0 hp0;obtain⟨tb,htb⟩:=z09 (⟨t.toArray⟩:ByteArray);have hlen:t.length=tb.size:=by rw[htb,z07]
 have HG:Hid (∀(q:Nat) (h:q<tb.size) (h2:q<t.length),t[q]=tb[q]):=by intro q h h2;subst htb;rfl
 have HX1:=hI fun q h=>z59 tb q h;have HXD:Hid (∀q:Nat,tb.extract q tb.size=⟨(t.drop q).toArray⟩):=by intro q;rw[htb];exact zhd t q
 have HTB:=hI htb;rw[←htb] at HUN;have HM:Hid _:=hm;clear hm ht htb hu0 hp0;go_enter Tryz.func179,Tryz.ntmps179;go_wp2_with fail;refine Calls.mono (HUN.out _ HM.out) ?_;rintro e w1 ⟨b,hbs,rfl,hbe,hm1⟩;have HM1:=hI hm1;have HBE:=hI hbe;clear hm1 hbe HM HUN;go_wp2_with fail;go_loopw [3,4] (fun x i wr=>∃(n:Nat) (z:Int),n≤tb.size∧i=.int .i64 (n:Nat)∧x=.int .i64 z∧z7n t n z∧wr=w1) (fun _ i _=>tb.size-(intOf i).toNat)
 case atStart=>exact⟨0, -1,Nat.zero_le _,rfl,rfl,zgz t,rfl⟩
 case round=>
 obtain⟨n,z,hn,rfl,rfl,hla,hwr⟩:=hrel;subst hwr;have HLA:=hI hla;clear hla;by_cases hlt:n<tb.size
 ·have h2:n<t.length:=by omega
  have hg:=HG.out n hlt h2;by_cases hc:(tb[n].toNat:Int)=64
  ·have HN:Hid _:=ziq t n h2 (by rw[hg];exact(z1e tb[n] 64 (by decide)).2 hc)
   clear HERR HOKA HES HSP HHO HPO HX1 HXD hg HBE HLA HG;go_wp2;go_roundw
   case rel=>exact⟨n+1,n,hlt,rfl,rfl,HN.out,by simp⟩
   case measure=>(simp[intOf];try omega)
  ·have hcb:((tb[n].toNat:Int)==64)=false:=by simpa using hc
   have HN:Hid _:=zgA t n z h2 (by rw[hg];exact fun e=>hc ((z1e tb[n] 64 (by decide)).1 e)) HLA.out;clear HERR HOKA HES HSP HHO HPO HX1 HXD hg HBE HLA hc HG;go_wp2;go_roundw
   case rel=>exact⟨n+1,z,hlt,rfl,rfl,HN.out,by simp⟩
   case measure=>(simp[intOf];try omega)
 have hnt:n=t.length:=by omega
 rw[hnt] at HLA;clear hnt;go_upto_if 29 with fail
 go_cut [2] from 15 to 90 (fun a2 wx=>∃y us ps:Bs,a2=.string ⟨y.toArray⟩∧y.length≤2000∧z2c hostTell t u.scheme=z3f hostTell us ps y u.scheme∧Tryz.Mem B R k j bv s w0 (z7m u us ps) pv (b:Nat) 4 0 wx)
 case first=>
  by_cases hz:0≤z
  ·obtain⟨p,hzp,hp,hcu⟩:=zgC t z hz HLA.out
   subst hzp;have HCU:=hI hcu;clear hcu HLA HSP HHO HPO HOKA HBE;rw[show decide ((0:Int)≤(p:Int))=true from decide_eq_true hz];go_wp2_with fail;go_loopw [5,6] (fun x i wr=>∃(n:Nat) (sec:Bool) (us ps:Bs),n≤p∧x=.bool sec∧i=.int .i64 (n:Nat)∧UpAt (t.take n) sec us ps∧Tryz.Mem B R k j bv s w0 (z7m u us ps) pv (b:Nat) 4 0 wr) (fun _ i _=>p-(intOf i).toNat)
   case atStart=>exact⟨0,false,[],[],Nat.zero_le _,rfl,rfl,zlH,by rw[HWN.out];exact HM1.out⟩
   case round=>
   clear HM1;obtain⟨n,sec,us,ps,hn,rfl,rfl,hup,hmr⟩:=hrel;have HUP:=hI hup;have HMR:=hI hmr;have hul:us.length+ps.length≤6000:=by have:=zlJ _ _ _ _ hup (fun l=>z4T 5 l);rw[List.length_take] at this;omega
   clear hup hmr;by_cases hlt:n<p
   ·have h1:n<tb.size:=by omega
    have h2:n<t.length:=(by omega);have hg:=HG.out n h1 h2;have hx1:=HX1.out n h1;have HTK:Hid (t.take (n+1)=t.take n++ [tb[n]]):=(by show _=_;rw[zk0 t n h2,hg]);have HEC:Hid _:=HES.out tb[n];have he9:(esc 5 [tb[n]]).length≤3:=z4T 5 [tb[n]];have q6:IntKind.i64.wrap ((n:Int)+1)=(n:Int)+1:=(by rw[IntWalk.i64_left];unfold wrap64;omega);have q2:(n:Int)+1≤(tb.size:Int):=(by omega);have q3:((n:Int)+1).toNat=n+1:=(by omega);have q4:(0:Int)≤(n:Int)+1:=(by omega);have q5:(n:Int)≤(n:Int)+1:=(by omega);have q7:(n:Int)<(tb.size:Int):=(by omega);obtain⟨ec,hec⟩:=z09 (esc 5 [tb[n]]);rw[←hec] at HEC he9;have HECE:=hI hec;clear hec hg;cases sec with
    |true=>
     have HADD:Hid _:=z0G ps ec;have hadd:∀V:World,(Op.stringOp .add ⟨ps.toArray⟩ ⟨ec.toArray⟩).run Tryz.prog V=.ok (.string ⟨(ps++ec).toArray⟩) V:=fun V=>by
      rw[run_string_add_sum V _ _ (by rw[z07,z07];omega),HADD.out]
     have HU2:Hid (UpAt (t.take (n+1)) true us (ps++ec)):=(by show UpAt _ _ _ _;rw[HTK.out,HECE.out];exact zjZ _ _ _ _ HUP.out);have HCL:Hid (∀w5,Below wr.heap.size wr w5→w5.cell? ⟨k,0,none⟩=some (.pointer (some ⟨j,0,none⟩))∧w5.cell? ⟨j,2,none⟩=some (.string ⟨ps.toArray⟩)∧w5.frozen? ⟨j,2,none⟩=false∧Hid (Tryz.Mem B R k j bv s w0 (z7m u us (ps++ec)) pv (b:Nat) 4 0 (w5.drew.setCell ⟨j,2,none⟩ (.string ⟨(ps++ec).toArray⟩)))):=(by intro w5 h5;have h6:=HMR.out.off h5;exact⟨z00 h6.mach 0,z00 h6.url 2,z04 h6.url 2,(h6.off (Below.refl _ _).drew).uset (u':=z7m u us (ps++ec)) 2 _ rfl rfl⟩);have hcs:((tb[n].toNat:Int)==58)=true∨((tb[n].toNat:Int)==58)=false:=(by cases((tb[n].toNat:Int)==58)<;>simp);generalize(⟨(ps++ec).toArray⟩:ByteArray)=p2 at*;generalize(⟨ec.toArray⟩:ByteArray)=eb at*;generalize(⟨ps.toArray⟩:ByteArray)=pb at*;clear HADD HERR HES HX1 HXD HG HCU HUP HTK HECE HMR;rcases hcs with hcs|hcs
     ·go_wp2_with fail
      refine Calls.mono (HEC.out _) ?_;rintro e w5 ⟨rfl,hb5⟩;obtain⟨z0,z2,x2,HM5⟩:=HCL.out w5 hb5;clear hb5 HCL;go_wp2;go_region;go_wp2;go_roundw
      case rel=>exact⟨n+1,true,us,ps++ec,hlt,rfl,rfl,HU2.out,HM5.out⟩
      case measure=>(simp[intOf];try omega)
     ·go_wp2_with fail
      refine Calls.mono (HEC.out _) ?_;rintro e w5 ⟨rfl,hb5⟩;obtain⟨z0,z2,x2,HM5⟩:=HCL.out w5 hb5;clear hb5 HCL;go_wp2;go_region;go_wp2;go_roundw
      case rel=>exact⟨n+1,true,us,ps++ec,hlt,rfl,rfl,HU2.out,HM5.out⟩
      case measure=>(simp[intOf];try omega)
    |false=>
     by_cases hc:(tb[n].toNat:Int)=58
     ·have HU2:Hid (UpAt (t.take (n+1)) true us ps):=by
       show UpAt _ _ _ _;rw[HTK.out,show tb[n]=58 from(z1e tb[n] 58 (by decide)).2 hc];exact zin _ _ _ HUP.out
      generalize(⟨ec.toArray⟩:ByteArray)=eb at*;clear HERR HES HX1 HXD HG HCU HUP HTK HECE;go_wp2_with fail;refine Calls.mono (HEC.out _) ?_;rintro e w5 ⟨rfl,hb5⟩;have HM5:Hid _:=HMR.out.off hb5;clear hb5 HMR;go_wp2;go_roundw
      case rel=>exact⟨n+1,true,us,ps,hlt,rfl,rfl,HU2.out,HM5.out⟩
      case measure=>(simp[intOf];try omega)
     ·have hcs:((tb[n].toNat:Int)==58)=false:=by simpa using hc
      have HADD:Hid _:=z0G us ec;have hadd:∀V:World,(Op.stringOp .add ⟨us.toArray⟩ ⟨ec.toArray⟩).run Tryz.prog V=.ok (.string ⟨(us++ec).toArray⟩) V:=fun V=>by
       rw[run_string_add_sum V _ _ (by rw[z07,z07];omega),HADD.out]
      have HU2:Hid (UpAt (t.take (n+1)) false (us++ec) ps):=(by show UpAt _ _ _ _;rw[HTK.out,HECE.out];exact zjY _ _ _ _ (fun e=>hc ((z1e tb[n] 58 (by decide)).1 e)) HUP.out);have HCL:Hid (∀w5,Below wr.heap.size wr w5→w5.cell? ⟨k,0,none⟩=some (.pointer (some ⟨j,0,none⟩))∧w5.cell? ⟨j,1,none⟩=some (.string ⟨us.toArray⟩)∧w5.frozen? ⟨j,1,none⟩=false∧Hid (Tryz.Mem B R k j bv s w0 (z7m u (us++ec) ps) pv (b:Nat) 4 0 (w5.drew.setCell ⟨j,1,none⟩ (.string ⟨(us++ec).toArray⟩)))):=(by intro w5 h5;have h6:=HMR.out.off h5;exact⟨z00 h6.mach 0,z00 h6.url 1,z04 h6.url 1,(h6.off (Below.refl _ _).drew).uset (u':=z7m u (us++ec) ps) 1 _ rfl rfl⟩);generalize(⟨(us++ec).toArray⟩:ByteArray)=p2 at*;generalize(⟨ec.toArray⟩:ByteArray)=eb at*;generalize(⟨us.toArray⟩:ByteArray)=pb at*;clear HADD HERR HES HX1 HXD HG HCU HUP HTK HECE HMR hc;go_wp2_with fail;refine Calls.mono (HEC.out _) ?_;rintro e w5 ⟨rfl,hb5⟩;obtain⟨z0,z1,x1,HM5⟩:=HCL.out w5 hb5;clear hb5 HCL;go_wp2;go_region;go_wp2;go_roundw
      case rel=>exact⟨n+1,false,us++ec,ps,hlt,rfl,rfl,HU2.out,HM5.out⟩
      case measure=>(simp[intOf];try omega)
   ·have hnp:n=p:=by omega
    rw[hnp] at HUP;have hx:=HXD.out (p+1);have q6:IntKind.i64.wrap ((p:Int)+1)=(p:Int)+1:=(by rw[IntWalk.i64_left];unfold wrap64;omega);have q2:(p:Int)+1≤(tb.size:Int):=(by omega);have q3:((p:Int)+1).toNat=p+1:=(by omega);have q4:(0:Int)≤(p:Int)+1:=(by omega);have hye:=z8q (t.drop (p+1));have hyl:(t.drop (p+1)).length≤2000:=(by rw[List.length_drop];omega);obtain⟨y,hy⟩:=z09 (t.drop (p+1));rw[←hy] at hx hye hyl HCU;have hne:t≠[]:=(by rintro rfl;simp at hp);have HFIN:Hid (y≠[]→z2c hostTell t u.scheme=z3f hostTell us ps y u.scheme):=by intro hyn;have:=zaI hostTell t u.scheme (by rw[HCU.out];exact fun h=>hyn h.2);rw[HCU.out] at this;obtain⟨e1,e2⟩:=zlI _ _ _ _ HUP.out;rw[this,←e1,←e2]
    have HBAD:=hI fun hyn=>HERR.out 4 (zk1 hostTell t u.scheme _ _ HCU.out hne hyn);have hmr:=HMR.out;have v5:wr.cell? ⟨k,5,none⟩=some (.int .i64 0):=z00 hmr.mach 5;have x5:=z04 hmr.mach 5;obtain⟨yb,hyb⟩:=z09 (⟨y.toArray⟩:ByteArray);rw[←hyb] at hx hye;have HYB:=hI hyb;clear hyb hmr hy hne HCU HUP HES HX1 HXD HG HERR;by_cases hyn:y=[]
    ·have hy2:yb.toList.isEmpty=true:=by rw[hye,hyn];rfl
     have HB4:Hid _:=HBAD.out hyn;clear hyn hye HBAD HFIN;go_wp2;exact bodyPost_ret (v:=.tuple #[]) (z05 rfl _ _ _) rfl ⟨rfl,z3s (HMR.out.set_er 4) _ HB4.out (by decide)⟩
    ·have hy2:yb.toList.isEmpty=false:=by
      rw[hye];cases y with
      |nil=>exact absurd rfl hyn
      |cons x y=>rfl
     have HF:Hid _:=HFIN.out hyn;clear hyn hye HBAD HFIN;go_wp2;go_meet
     case rel=>exact⟨y,us,ps,by rw[HYB.out],hyl,HF.out,HMR.out⟩
  ·have hz2:z<0:=by omega
   have HCU:Hid _:=zgB t z hz2 HLA.out;have HFIN:Hid (z2c hostTell t u.scheme=z3f hostTell [] [] t u.scheme):=(by have:=zaI hostTell t u.scheme (by rw[HCU.out];exact fun h=>h.1 h.2);rw[HCU.out] at this;exact this);clear HLA HSP HHO HPO HOKA HBE HERR HES HX1 HXD HG HCU;go_wp2;go_meet
   case rel=>exact⟨t,[],[],by rw[HTB.out],htl,HFIN.out,by rw[HWN.out];exact HM1.out⟩
 case rest=>
 clear HM1 HLA HES HX1 HXD HG HWN HTB hlt hn hlen htl;obtain⟨y,us,ps,rfl,hyl,hra,hmc⟩:=hcut;have HRA:Hid _:=hra;have HMC:Hid _:=hmc;clear hra hmc;obtain⟨yb,hyb⟩:=z09 (⟨y.toArray⟩:ByteArray);have hlen:y.length=yb.size:=by rw[hyb,z07]
 have HG:Hid (∀(q:Nat) (h:q<yb.size) (h2:q<y.length),y[q]=yb[q]):=by intro q h h2;subst hyb;rfl
 have HXD:Hid (∀q:Nat,yb.extract q yb.size=⟨(y.drop q).toArray⟩):=by intro q;rw[hyb];exact zhd y q
 have HXT:Hid (∀q:Nat,yb.extract 0 q=⟨(y.take q).toArray⟩):=by intro q;rw[hyb];exact zhe y q
 have HYB:=hI hyb;rw[←hyb];clear hyb;go_upto_block 5 with fail;go_cut [9] from 91 to 120 (fun c wx=>∃z:Int,c=.int .i64 z∧((z= -1∧z1k y=(y,none))∨∃m:Nat,z=(m:Int)∧m<y.length∧z1k y=(y.take m,some (y.drop (m+1))))∧wx=wc)
 case first=>
  clear HERR HOKA HSP HHO HPO HBE HRA HMC HXD HXT HYB;go_wp2_with fail;go_loopw [8,9,10] (fun x c i wr=>∃(n:Nat) (inb:Bool) (z:Int),n≤yb.size∧x=.bool inb∧c=.int .i64 z∧i=.int .i64 (n:Nat)∧((z= -1∧z3Y y n inb)∨∃m:Nat,z=(m:Int)∧m<y.length∧z1k y=(y.take m,some (y.drop (m+1))))∧wr=wc) (fun _ _ i _=>yb.size-(intOf i).toNat)
  case atStart=>exact⟨0,false, -1,Nat.zero_le _,rfl,rfl,rfl,Or.inl ⟨rfl,zgy y⟩,rfl⟩
  case round=>
  obtain⟨n,inb,z,hn,rfl,rfl,rfl,hz,hwr⟩:=hrel;obtain rfl:=hwr.symm;rcases hz with⟨rfl,hsc⟩|⟨m,rfl,hml,hsc⟩
  ·by_cases hlt:n<yb.size
   ·have h2:n<y.length:=by omega
    have hg:=HG.out n hlt h2;have HSC:=hI hsc;clear hsc;have q7:(n:Int)<(yb.size:Int):=(by omega);by_cases h91:(yb[n].toNat:Int)=91
    ·have HN:Hid (z3Y y (n+1) true):=by
      have e:y[n]=91:=(by rw[hg];exact(z1e yb[n] 91 (by decide)).2 h91);have:=z6t y n inb h2 (by rw[e];exact fun h=>absurd h.1 (by decide)) HSC.out;rw[e] at this;exact this
     clear HSC hg HG;go_wp2;go_roundw
     case rel=>exact⟨n+1,true, -1,hlt,rfl,rfl,rfl,Or.inl ⟨rfl,HN.out⟩,by simp⟩
     case measure=>(simp[intOf];try omega)
    ·have h91b:((yb[n].toNat:Int)==91)=false:=by simpa using h91
     by_cases h93:(yb[n].toNat:Int)=93
     ·have HN:Hid (z3Y y (n+1) false):=by
       have e:y[n]=93:=(by rw[hg];exact(z1e yb[n] 93 (by decide)).2 h93);have:=z6t y n inb h2 (by rw[e];exact fun h=>absurd h.1 (by decide)) HSC.out;rw[e] at this;exact this
      clear HSC hg HG h91;go_wp2;go_roundw
      case rel=>exact⟨n+1,false, -1,hlt,rfl,rfl,rfl,Or.inl ⟨rfl,HN.out⟩,by simp⟩
      case measure=>(simp[intOf];try omega)
     ·have h93b:((yb[n].toNat:Int)==93)=false:=by simpa using h93
      have HIN:Hid (zca y[n] inb=inb):=(by show _=_;unfold zca;rw[hg,if_neg (fun e=>h91 ((z1e yb[n] 91 (by decide)).1 e)),if_neg (fun e=>h93 ((z1e yb[n] 93 (by decide)).1 e))]);by_cases h58:(yb[n].toNat:Int)=58
      ·have e:y[n]=58:=by rw[hg];exact(z1e yb[n] 58 (by decide)).2 h58
       cases inb with
       |false=>
        have HN:Hid _:=zio y n h2 e HSC.out;clear HSC hg HG h91 h93 HIN e;go_wp2;go_roundw
        case rel=>exact⟨n+1,false,n,hlt,rfl,rfl,rfl,Or.inr ⟨n,rfl,h2,HN.out⟩,by simp⟩
        case measure=>(simp[intOf];try omega)
       |true=>
        have HN:Hid (z3Y y (n+1) true):=(by have:=z6t y n true h2 (fun h=>by cases h.2) HSC.out;rw[HIN.out] at this;exact this);clear HSC hg HG h91 h93 HIN e;go_wp2;go_roundw
        case rel=>exact⟨n+1,true, -1,hlt,rfl,rfl,rfl,Or.inl ⟨rfl,HN.out⟩,by simp⟩
        case measure=>(simp[intOf];try omega)
      ·have h58b:((yb[n].toNat:Int)==58)=false:=by simpa using h58
       have HN:Hid (z3Y y (n+1) inb):=(by have:=z6t y n inb h2 (by rw[hg];exact fun h=>h58 ((z1e yb[n] 58 (by decide)).1 h.1)) HSC.out;rw[HIN.out] at this;exact this);clear HSC hg HG h91 h93 h58 HIN;go_wp2;go_roundw
       case rel=>exact⟨n+1,inb, -1,hlt,rfl,rfl,rfl,Or.inl ⟨rfl,HN.out⟩,by simp⟩
       case measure=>(simp[intOf];try omega)
   ·have HN:Hid _:=zip y n inb (by omega) hsc
    clear hsc HG;go_wp2;go_meet
    case rel=>exact⟨-1,rfl,Or.inl ⟨rfl,HN.out⟩,rfl⟩
  ·have HN:=hI hsc
   clear hsc HG;by_cases hlt:n<yb.size
   ·go_wp2
    go_meet
    case rel=>exact⟨m,rfl,Or.inr ⟨m,rfl,hml,HN.out⟩,rfl⟩
   ·go_wp2
    go_meet
    case rel=>exact⟨m,rfl,Or.inr ⟨m,rfl,hml,HN.out⟩,rfl⟩
 case rest=>
 obtain⟨z,rfl,hz,hwc⟩:=hcut;obtain rfl:=hwc.symm;have HZ:Hid _:=hz;clear hz HG;go_upto_if 123 with fail
 go_cut [11,12] from 121 to 130 (fun h p wx=>∃hb pb:Bs,h=.string ⟨hb.toArray⟩∧p=.string ⟨pb.toArray⟩∧hb.length≤2000∧pb.length≤2000∧z3f hostTell us ps y u.scheme=z60 hostTell us ps hb pb z u.scheme∧wx=wc)
 case first=>
  clear HERR HOKA HSP HHO HPO HBE HRA HMC;rcases HZ.out with⟨hz1,hsc⟩|⟨m,hz1,hml,hsc⟩
  ·subst hz1
   have HN:Hid _:=zgD hostTell us ps y u.scheme hsc;clear hsc HZ HXD HXT;go_wp2;go_meet
   case rel=>exact⟨y,[],by rw[HYB.out],rfl,hyl,by simp,HN.out,rfl⟩
  ·subst hz1
   have HN:Hid _:=zgE hostTell us ps y u.scheme _ _ m hsc;have q6:IntKind.i64.wrap ((m:Int)+1)=(m:Int)+1:=(by rw[IntWalk.i64_left];unfold wrap64;omega);have q2:(m:Int)+1≤(yb.size:Int):=(by omega);have q3:((m:Int)+1).toNat=m+1:=(by omega);have q4:(0:Int)≤(m:Int)+1:=(by omega);have q5:(m:Int)≤(yb.size:Int):=(by omega);have hx1:=HXT.out m;have hx2:=HXD.out (m+1);have hl1:(y.take m).length≤2000:=(by rw[List.length_take];omega);have hl2:(y.drop (m+1)).length≤2000:=(by rw[List.length_drop];omega);clear hsc HZ HXD HXT HYB;go_wp2;go_meet
   case rel=>exact⟨y.take m,y.drop (m+1),rfl,rfl,hl1,hl2,HN.out,rfl⟩
 case rest=>
 obtain⟨hb,pb,rfl,rfl,hhl,hpl,hin,hwc⟩:=hcut;obtain rfl:=hwc.symm;have hra:=HRA.out;rw[hin] at hra;have HRB:=hI hra;clear hra hin HRA HZ HXD HXT HYB hlen;have hmc:=HMC.out;have y0:wc.cell? ⟨k,0,none⟩=some (.pointer (some ⟨j,0,none⟩)):=z00 hmc.mach 0;have c0:wc.cell? ⟨j,0,none⟩=some (.string ⟨u.scheme.toArray⟩):=z00 hmc.url 0;have v5:wc.cell? ⟨k,5,none⟩=some (.int .i64 0):=z00 hmc.mach 5;have x5:=z04 hmc.mach 5;have hhe:=z8q hb;have HHB:Hid _:=fun sp W=>HHO.out hb sp W hhl;have HPB:Hid _:=fun W=>HPO.out pb W hpl;have hoe:(decide (hb≠[]))= !hb.isEmpty:=by cases hb<;>rfl
 have HBH:Hid (z53 hb z u.scheme=(hb.isEmpty&&(decide (0≤z)||z0b u.scheme))):=by show _=_;unfold z53;cases hb<;>rfl
 have HGD:Hid _:=znw hostTell us ps hb pb z u.scheme;have HBD:Hid _:=zoA hostTell us ps hb pb z u.scheme;rw[hoe] at HGD;generalize hbb:(⟨hb.toArray⟩:ByteArray)=hx at*;clear hmc HHO HPO hbb hoe hyl hhl hpl;generalize hb.isEmpty=he at*;go_upto_region 37 with fail;go_cut [146] from 131 to 145 (fun v wx=>v=.bool (z53 hb z u.scheme)∧wx=wc)
 case first=>
  clear HERR HOKA HBE HMC HGD HBD HHB HPB HRB v5 x5;cases he with
  |false=>
   go_wp2;go_meet
   case rel=>exact⟨by rw[HBH.out];rfl,rfl⟩
  |true=>
   by_cases hz:0≤z
   ·have hzd:=decide_eq_true hz
    go_wp2;go_meet
    case rel=>exact⟨by rw[HBH.out,hzd];rfl,rfl⟩
   ·have hzd:=decide_eq_false hz
    go_wp2_with fail;refine Calls.mono (HSP.out _) ?_;rintro e w2 ⟨rfl,hw2⟩;obtain rfl:=hw2.symm;go_wp2;go_meet
    case rel=>exact⟨by rw[HBH.out,hzd];rfl,rfl⟩
 case rest=>
 obtain⟨rfl,hwc⟩:=hcut;obtain rfl:=hwc.symm;clear HBH;cases hbad:z53 hb z u.scheme with
 |true=>have HE:Hid _:=HERR.out 4 (HRB.out.trans (HBD.out hbad));clear HERR HOKA HBE HGD HBD HHB HPB HRB hbad HSP;go_wp2;exact bodyPost_ret (v:=.tuple #[]) (z05 rfl _ _ _) rfl ⟨rfl,z3s (HMC.out.set_er 4) _ HE.out (by decide)⟩
 |false=>
  have hg:=HGD.out hbad;rw[←HRB.out] at hg;have HGE:Hid _:=hg;clear hg HGD HBD HRB hbad v5 x5;go_upto_region 39 with fail;go_cut [13,14] from 150 to 166 (fun v1 v2 wx=>z2k (hostTell hb (z0b u.scheme&&!he)) (.returned (.tuple #[v1,v2]))∧Below wc.heap.size wc wx)
  case first=>
   clear HERR HOKA HBE HPB HGE HMC;cases hsp:z0b u.scheme with
   |false=>
    rw[hsp] at HSP;have HSE:=hI hsp;have HHX:Hid _:=HHB.out false;clear HHB hsp;go_wp2_with fail;refine Calls.mono (HSP.out _) ?_;rintro e w2 ⟨rfl,hw2⟩;obtain rfl:=hw2.symm;go_wp2_with fail;refine Calls.mono (HHX.out _) ?_;rintro e w4 ⟨hres,hb4⟩;cases ho:hostTell hb false with
    |none=>
     rw[ho] at hres;obtain⟨xh,rfl⟩:=hres;have HB4:Hid _:=hb4;clear hb4;go_wp2;go_meet
     case rel=>exact⟨by rw[HSE.out,Bool.false_and,ho];exact⟨xh,rfl⟩,HB4.out⟩
    |some x=>
     rw[ho] at hres;have hres:e=.returned (.tuple #[.string ⟨x.toArray⟩,.bool true]):=hres;subst hres;have HB4:Hid _:=hb4;clear hb4;go_wp2;go_meet
     case rel=>exact⟨by rw[HSE.out,Bool.false_and,ho];rfl,HB4.out⟩
   |true=>
    rw[hsp] at HSP;have HSE:=hI hsp;have HHX:Hid _:=HHB.out (!he);clear HHB hsp;cases he with
    |false=>
     go_wp2_with fail;refine Calls.mono (HSP.out _) ?_;rintro e w2 ⟨rfl,hw2⟩;obtain rfl:=hw2.symm;go_wp2_with fail;refine Calls.mono (HHX.out _) ?_;rintro e w4 ⟨hres,hb4⟩;cases ho:hostTell hb true with
     |none=>
      have hres:z2k (hostTell hb true) e:=hres;rw[ho] at hres;obtain⟨xh,rfl⟩:=hres;have HB4:Hid _:=hb4;clear hb4;go_wp2;go_meet
      case rel=>exact⟨by rw[HSE.out];show z2k (hostTell hb true) _;rw[ho];exact⟨xh,rfl⟩,HB4.out⟩
     |some x=>
      have hres:z2k (hostTell hb true) e:=hres;rw[ho] at hres;have hres:e=.returned (.tuple #[.string ⟨x.toArray⟩,.bool true]):=hres;subst hres;have HB4:Hid _:=hb4;clear hb4;go_wp2;go_meet
      case rel=>exact⟨by rw[HSE.out];show z2k (hostTell hb true) _;rw[ho];rfl,HB4.out⟩
    |true=>
     go_wp2_with fail;refine Calls.mono (HSP.out _) ?_;rintro e w2 ⟨rfl,hw2⟩;obtain rfl:=hw2.symm;go_wp2_with fail;refine Calls.mono (HHX.out _) ?_;rintro e w4 ⟨hres,hb4⟩;cases ho:hostTell hb false with
     |none=>
      have hres:z2k (hostTell hb false) e:=hres;rw[ho] at hres;obtain⟨xh,rfl⟩:=hres;have HB4:Hid _:=hb4;clear hb4;go_wp2;go_meet
      case rel=>exact⟨by rw[HSE.out];show z2k (hostTell hb false) _;rw[ho];exact⟨xh,rfl⟩,HB4.out⟩
     |some x=>
      have hres:z2k (hostTell hb false) e:=hres;rw[ho] at hres;have hres:e=.returned (.tuple #[.string ⟨x.toArray⟩,.bool true]):=hres;subst hres;have HB4:Hid _:=hb4;clear hb4;go_wp2;go_meet
      case rel=>exact⟨by rw[HSE.out];show z2k (hostTell hb false) _;rw[ho];rfl,HB4.out⟩
  case rest=>
  obtain⟨hres,hb4⟩:=hcut;have hm4:=HMC.out.off hb4;clear y0 c0;have HM4:Hid _:=hm4;have z0:wc.cell? ⟨k,0,none⟩=some (.pointer (some ⟨j,0,none⟩)):=z00 hm4.mach 0;have c0:wc.cell? ⟨j,0,none⟩=some (.string ⟨u.scheme.toArray⟩):=z00 hm4.url 0;have v5:wc.cell? ⟨k,5,none⟩=some (.int .i64 0):=z00 hm4.mach 5;have x5:=z04 hm4.mach 5;have v4:wc.cell? ⟨k,4,none⟩=some (.int .i64 4):=z00 hm4.mach 4;have x4:=z04 hm4.mach 4;have c3:wc.cell? ⟨j,3,none⟩=some (.bool u.auth.has):=z00 hm4.url 3;have d3:=z04 hm4.url 3;have c4:wc.cell? ⟨j,4,none⟩=some (.string ⟨u.auth.host.toArray⟩):=z00 hm4.url 4;have d4:=z04 hm4.url 4;have c5:wc.cell? ⟨j,5,none⟩=some (.int .i64 u.auth.port):=z00 hm4.url 5;have d5:=z04 hm4.url 5;have hkj:=hm4.ne;have hjk:j≠k:=fun e=>hm4.ne e.symm;clear HMC HHB HSP hm4 hb4;cases ho:hostTell hb (z0b u.scheme&&!he) with
  |none=>have HE:Hid _:=HERR.out 4 (by rw[HGE.out,ho]);rw[ho] at hres;obtain⟨xh,hxh⟩:=hres;injection hxh with hxh;injection hxh with hxh;simp at hxh;obtain⟨rfl,rfl⟩:=hxh;clear HERR HOKA HBE HPB HGE ho c0 v4 x4 c3 d3 c4 d4 c5 d5;go_wp2;exact bodyPost_ret (v:=.tuple #[]) (z05 rfl _ _ _) rfl ⟨rfl,z3s (HM4.out.set_er 4) _ HE.out (by decide)⟩
  |some x=>
   rw[ho] at hres;change _=Ending.returned (.tuple #[.string ⟨x.toArray⟩,.bool true]) at hres;injection hres with hres;injection hres with hres;simp at hres;obtain⟨rfl,rfl⟩:=hres;have hgx:=HGE.out;rw[ho] at hgx;simp only at hgx;have HM5:Hid _:=(HM4.out.uset (u':={u with auth:=⟨us,ps,true,u.auth.host,u.auth.port⟩}) 3 (.bool true) rfl rfl).uset (u':={u with auth:=⟨us,ps,true,x,u.auth.port⟩}) 4 _ rfl rfl;clear HM4 HGE ho;cases hpt:z1o pb u.scheme with
   |none=>
    have HE:Hid _:=HERR.out 5 (by rw[hgx,hpt]);have hpr:z36 pb u.scheme=(0,5):=(by unfold z36;rw[hpt]);rw[hpr] at HPB;clear HERR HOKA HBE hgx hpt hpr;generalize(⟨x.toArray⟩:ByteArray)=xb at*;go_wp2;go_region_held3 (fun w'=>w'.cell? ⟨k,0,none⟩=some (.pointer (some ⟨j,0,none⟩))∧w'.cell? ⟨j,0,none⟩=some (.string ⟨u.scheme.toArray⟩)) (simp[*,World.cell?_setCell_other]) (first|(go_at_call 130;refine Calls.mono (HPB.out _) ?_;rintro e w5 ⟨rfl,hw5⟩;have hw5:=hw5.symm;subst hw5))
    all_goals
     go_wp2;exact bodyPost_end (v:=.tuple #[]) (z05 rfl _ _ _) rfl ⟨rfl,by first|exact z3s (((HM5.out.drew.uset (u':={u with auth:=⟨us,ps,true,x,0⟩}) 5 _ rfl rfl).set_er 5).set_st 5) _ HE.out (by decide)|exact z3s (((HM5.out.drew.set_er 5).uset (u':={u with auth:=⟨us,ps,true,x,0⟩}) 5 _ rfl rfl).set_st 5) _ HE.out (by decide)⟩
   |some q=>
    have HE:Hid _:=HOKA.out ⟨us,ps,true,x,q⟩ b (by rw[hgx,hpt]) HBE.out;have hpr:z36 pb u.scheme=(q,0):=(by unfold z36;rw[hpt]);rw[hpr] at HPB;clear HERR HOKA HBE hgx hpt hpr;generalize(⟨x.toArray⟩:ByteArray)=xb at*;go_wp2;go_region_held3 (fun w'=>w'.cell? ⟨k,0,none⟩=some (.pointer (some ⟨j,0,none⟩))∧w'.cell? ⟨j,0,none⟩=some (.string ⟨u.scheme.toArray⟩)) (simp[*,World.cell?_setCell_other]) (first|(go_at_call 130;refine Calls.mono (HPB.out _) ?_;rintro e w5 ⟨rfl,hw5⟩;have hw5:=hw5.symm;subst hw5))
    all_goals
     go_wp2;exact bodyPost_end (v:=.tuple #[]) (z05 rfl _ _ _) rfl ⟨rfl,by rw[HE.out];first|exact z4g (z1S (a:=b) (((HM5.out.drew.uset (u':={u with auth:=⟨us,ps,true,x,q⟩}) 5 _ rfl rfl).set_er 0).set_st 5) hbs _ rfl) rfl|exact z4g (z1S (a:=b) (((HM5.out.drew.set_er 0).uset (u':={u with auth:=⟨us,ps,true,x,q⟩}) 5 _ rfl rfl).set_st 5) hbs _ rfl) rfl⟩
end Go.Proofs
