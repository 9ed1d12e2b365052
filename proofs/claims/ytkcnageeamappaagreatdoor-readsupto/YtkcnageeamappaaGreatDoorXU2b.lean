import Derived.Test.YtkcnageeamappaaGreatDoorXU12e
import Derived.Test.YtkcnageeamappaaGreatDoorXU16
import Derived.Test.YtkcnageeamappaaGreatDoorXU18c
set_option maxHeartbeats 32000000
set_option maxRecDepth 8000
namespace Go.Proofs
open Go.RowKit Go.Moor Go.Proofs.Tryz
theorem zbh {B R k j bj:Nat} {s:ByteArray} {w0:World} {u b:Adr} {pv:Value} (a:Nat) {w:World} (hm:Mem B R k j (.pointer (some ⟨bj,0,none⟩)) s w0 u pv (a:Nat) 2 0 w) (ha:a≤s.size) (hs:s.size≤1000000) (hh:z0o (z06 u.scheme) (s.data.toList.drop a)=true):CQ 124 #[.pointer (some ⟨k,0,none⟩)] w (.tuple #[]) (z3u B R k j (.pointer (some ⟨bj,0,none⟩)) s w0 (z25 b ⟨u,s.data.toList.drop a,2,0⟩)):=by
 have HSL:Hid _:=z4i a hm (by omega);have HSP:=hI fun W=>zae ⟨u.scheme.toArray⟩ W;have y0:=hm.y0;have y1:=hm.y1;have y3:=hm.y3;have y4:=hm.y4;have f3:=hm.f 3;have f4:=hm.f 4;have c0:=hm.v0;have hkj:=hm.ne;have hjk:j≠k:=fun e=>hm.ne e.symm;have HM:=hI hm;have hlt:=z4h _ s a hh;rw[hh] at HSL;cases hsp:z0b u.scheme with
 |true=>
  have HE:Hid (z25 b ⟨u,s.data.toList.drop a,2,0⟩=⟨u,s.data.toList.drop a,3,0⟩):=by show _=_;unfold z25;simp only;rw[if_pos hh,if_pos hsp]
  rw[hsp] at HSP;clear hm hh hsp y3 f3;go_enter func124,ntmps124;go_wp2_with fail;refine Calls.mono HSL ?_;rintro e w1 ⟨rfl,n,rfl⟩;go_wp2_with fail;refine Calls.mono (HSP _) ?_;rintro e w3 ⟨rfl,hw3⟩;obtain rfl:=hw3.symm;go_wp2;exact bodyPost_end (v:=.tuple #[]) (z05 rfl _ _ _) rfl ⟨rfl,by rw[HE.out];exact z1S (a:=a) ((HM.out.drewN n).set_st 3) ha _ rfl⟩
 |false=>
  have HE:Hid (z25 b ⟨u,s.data.toList.drop a,2,0⟩=⟨u,s.data.toList.drop (a+1),4,0⟩):=by show _=_;unfold z25;simp only;rw[if_pos hh,if_neg (by simp[hsp]),List.drop_drop]
  rw[hsp] at HSP;clear hm hh hsp;go_enter func124,ntmps124;go_wp2_with fail;refine Calls.mono HSL ?_;rintro e w1 ⟨rfl,n,rfl⟩;go_wp2_with fail;refine Calls.mono (HSP _) ?_;rintro e w3 ⟨rfl,hw3⟩;obtain rfl:=hw3.symm;go_wp2;exact bodyPost_end (v:=.tuple #[]) (z05 rfl _ _ _) rfl ⟨rfl,by rw[HE.out];exact z1S (a:=a+1) (((HM.out.drewN n).set_a _).set_st 4) hlt _ rfl⟩
def sl1 (u b:Adr):Adr:={u with auth:={u.auth with user:=b.auth.user}}
def sl2 (u b:Adr):Adr:={u with auth:={u.auth with user:=b.auth.user,pass:=b.auth.pass}}
def sl3 (u b:Adr):Adr:={u with auth:={u.auth with user:=b.auth.user,pass:=b.auth.pass,has:=b.auth.has}}
def sl4 (u b:Adr):Adr:={u with auth:={u.auth with user:=b.auth.user,pass:=b.auth.pass,has:=b.auth.has,host:=b.auth.host}}
theorem zbi {B R k j bj:Nat} {bpv:Value} {s:ByteArray} {w0:World} {u b:Adr} {pv:Value} (a:Nat) {w:World} (hm:Tryz.Mem B R k j (.pointer (some ⟨bj,0,none⟩)) s w0 u pv (a:Nat) 2 0 w) (hb:Tryz.UBase B w0 b bj bpv) (ha:a≤s.size) (hh:z0o (z06 u.scheme) (s.data.toList.drop a)=false):Calls Tryz.prog 124 #[.pointer (some ⟨k,0,none⟩)] w fun e w'=>e=.returned (.tuple #[])∧z3u B R k j (.pointer (some ⟨bj,0,none⟩)) s w0 (z25 b ⟨u,s.data.toList.drop a,2,0⟩) w':=by
 have HSL:Hid _:=z4i a hm (by omega);have HUB:Hid (∀W,Below B w0 W→W.heap[bj]?=some (.cells (z1w b bpv) 116 (0,0))):=fun W h=>(h.block bj hb.lt).trans hb.url;have y0:w.cell? ⟨k,0,none⟩=some (.pointer (some ⟨j,0,none⟩)):=z00 hm.mach 0;have y1:w.cell? ⟨k,1,none⟩=some (.pointer (some ⟨bj,0,none⟩)):=z00 hm.mach 1;have y4:w.cell? ⟨k,4,none⟩=some (.int .i64 2):=z00 hm.mach 4;have hkj:=hm.ne;have hjk:j≠k:=fun e=>hm.ne e.symm;have hbjj:bj≠j:=by have:=hb.lt;have:=hm.bj;omega
 have hbjk:bj≠k:=by have:=hb.lt;have:=hm.bk;omega
 have hjbj:j≠bj:=fun e=>hbjj e.symm;have hkbj:k≠bj:=fun e=>hbjk e.symm;have HM:=hI hm;have HE:Hid (z25 b ⟨u,s.data.toList.drop a,2,0⟩=⟨{u with auth:=b.auth},s.data.toList.drop a,6,0⟩):=by show _=_;unfold z25;simp only;rw[if_neg (by simp[hh])]
 rw[hh] at HSL;clear hm hb hh;go_enter Tryz.func124,Tryz.ntmps124;go_wp2_with fail;refine Calls.mono HSL ?_;rintro e w1 ⟨rfl,n,rfl⟩;go_wp2;go_name_world W0 hW0;have hm0:Tryz.Mem B R k j (.pointer (some ⟨bj,0,none⟩)) s w0 u pv (a:Nat) 2 0 W0:=by rw[←hW0];exact HM.out.drewN n
 clear hW0 y0 y1 y4 HSL HM;have HM0:Hid _:=hm0;have hub0:=HUB W0 hm0.below;have z0:W0.cell? ⟨k,0,none⟩=some (.pointer (some ⟨j,0,none⟩)):=z00 hm0.mach 0;have b0:W0.cell? ⟨bj,1,none⟩=some (.string ⟨b.auth.user.toArray⟩):=z00 hub0 1;have c0:∃x,W0.cell? ⟨j,1,none⟩=some x:=⟨_,z00 hm0.url 1⟩;obtain⟨x0,c0⟩:=c0;have d0:=z04 hm0.url 1;clear hm0 hub0;go_region_held3 (fun w'=>w'.cell? ⟨k,0,none⟩=some (.pointer (some ⟨j,0,none⟩))∧w'.cell? ⟨bj,1,none⟩=some (.string ⟨b.auth.user.toArray⟩)) (go_keep) (fail)
 go_wp2;go_name_world W1 hW1;have hm1:Tryz.Mem B R k j (.pointer (some ⟨bj,0,none⟩)) s w0 (sl1 u b) pv (a:Nat) 2 0 W1:=by rw[←hW1];exact HM0.out.drew.uset (u':=sl1 u b) 1 _ rfl rfl
 clear hW1 z0 b0 c0 d0 HM0;have HM1:Hid _:=hm1;have hub1:=HUB W1 hm1.below;have z1:W1.cell? ⟨k,0,none⟩=some (.pointer (some ⟨j,0,none⟩)):=z00 hm1.mach 0;have b1:W1.cell? ⟨bj,2,none⟩=some (.string ⟨b.auth.pass.toArray⟩):=z00 hub1 2;have c1:∃x,W1.cell? ⟨j,2,none⟩=some x:=⟨_,z00 hm1.url 2⟩;obtain⟨x1,c1⟩:=c1;have d1:=z04 hm1.url 2;clear hm1 hub1;go_region_held3 (fun w'=>w'.cell? ⟨k,0,none⟩=some (.pointer (some ⟨j,0,none⟩))∧w'.cell? ⟨bj,2,none⟩=some (.string ⟨b.auth.pass.toArray⟩)) (go_keep) (fail)
 go_wp2;go_name_world W2 hW2;have hm2:Tryz.Mem B R k j (.pointer (some ⟨bj,0,none⟩)) s w0 (sl2 u b) pv (a:Nat) 2 0 W2:=by rw[←hW2];exact HM1.out.drew.uset (u':=sl2 u b) 2 _ rfl rfl
 clear hW2 z1 b1 c1 d1 HM1;have HM2:Hid _:=hm2;have hub2:=HUB W2 hm2.below;have z2:W2.cell? ⟨k,0,none⟩=some (.pointer (some ⟨j,0,none⟩)):=z00 hm2.mach 0;have b2:W2.cell? ⟨bj,3,none⟩=some (.bool b.auth.has):=z00 hub2 3;have c2:∃x,W2.cell? ⟨j,3,none⟩=some x:=⟨_,z00 hm2.url 3⟩;obtain⟨x2,c2⟩:=c2;have d2:=z04 hm2.url 3;clear hm2 hub2;go_region_held3 (fun w'=>w'.cell? ⟨k,0,none⟩=some (.pointer (some ⟨j,0,none⟩))∧w'.cell? ⟨bj,3,none⟩=some (.bool b.auth.has)) (go_keep) (fail)
 go_wp2;go_name_world W3 hW3;have hm3:Tryz.Mem B R k j (.pointer (some ⟨bj,0,none⟩)) s w0 (sl3 u b) pv (a:Nat) 2 0 W3:=by rw[←hW3];exact HM2.out.drew.uset (u':=sl3 u b) 3 _ rfl rfl
 clear hW3 z2 b2 c2 d2 HM2;have HM3:Hid _:=hm3;have hub3:=HUB W3 hm3.below;have z3:W3.cell? ⟨k,0,none⟩=some (.pointer (some ⟨j,0,none⟩)):=z00 hm3.mach 0;have b3:W3.cell? ⟨bj,4,none⟩=some (.string ⟨b.auth.host.toArray⟩):=z00 hub3 4;have c3:∃x,W3.cell? ⟨j,4,none⟩=some x:=⟨_,z00 hm3.url 4⟩;obtain⟨x3,c3⟩:=c3;have d3:=z04 hm3.url 4;clear hm3 hub3;go_region_held3 (fun w'=>w'.cell? ⟨k,0,none⟩=some (.pointer (some ⟨j,0,none⟩))∧w'.cell? ⟨bj,4,none⟩=some (.string ⟨b.auth.host.toArray⟩)) (go_keep) (fail)
 go_wp2;go_name_world W4 hW4;have hm4:Tryz.Mem B R k j (.pointer (some ⟨bj,0,none⟩)) s w0 (sl4 u b) pv (a:Nat) 2 0 W4:=by rw[←hW4];exact HM3.out.drew.uset (u':=sl4 u b) 4 _ rfl rfl
 clear hW4 z3 b3 c3 d3 HM3;have HM4:Hid _:=hm4;have hub4:=HUB W4 hm4.below;have z4:W4.cell? ⟨k,0,none⟩=some (.pointer (some ⟨j,0,none⟩)):=z00 hm4.mach 0;have b4:W4.cell? ⟨bj,5,none⟩=some (.int .i64 b.auth.port):=z00 hub4 5;have c4:∃x,W4.cell? ⟨j,5,none⟩=some x:=⟨_,z00 hm4.url 5⟩;obtain⟨x4,c4⟩:=c4;have d4:=z04 hm4.url 5;have y4:W4.cell? ⟨k,4,none⟩=some (.int .i64 2):=z00 hm4.mach 4;have f4:=z04 hm4.mach 4;clear hm4 hub4;go_region_held3 (fun w'=>w'.cell? ⟨k,0,none⟩=some (.pointer (some ⟨j,0,none⟩))∧w'.cell? ⟨bj,5,none⟩=some (.int .i64 b.auth.port)) (go_keep) (fail)
 go_wp2;exact bodyPost_end (v:=.tuple #[]) (z05 rfl _ _ _) rfl ⟨rfl,by rw[HE.out];exact z1S (a:=a) ((HM4.out.drew.uset (u':={u with auth:=b.auth}) 5 _ rfl rfl).set_st 6) ha _ rfl⟩
theorem zcc {B R k j bj:Nat} {bpv:Value} {s:ByteArray} {w0:World} {u b:Adr} {pv:Value} (a:Nat) {w:World} (hm:Tryz.Mem B R k j (.pointer (some ⟨bj,0,none⟩)) s w0 u pv (a:Nat) 2 0 w) (hb:Tryz.UBase B w0 b bj bpv) (ha:a≤s.size) (hs:s.size≤1000000):Calls Tryz.prog 124 #[.pointer (some ⟨k,0,none⟩)] w fun e w'=>e=.returned (.tuple #[])∧z3u B R k j (.pointer (some ⟨bj,0,none⟩)) s w0 (z25 b ⟨u,s.data.toList.drop a,2,0⟩) w':=by
 cases hh:z0o (z06 u.scheme) (s.data.toList.drop a) with
 |true=>exact zbh a hm ha hs hh
 |false=>exact zbi a hm hb ha hh
theorem zcL (k:Nat) (w:World) (Q:World→Prop) (h4:w.cell? ⟨k,4,none⟩=some (.int .i64 14)) (hc:CQ 175 #[.pointer (some ⟨k,0,none⟩)] w (.tuple #[]) Q):CQ 124 #[.pointer (some ⟨k,0,none⟩)] w (.tuple #[]) Q:=by have HC:Hid _:=hc;clear hc;go_enter func124,ntmps124;go_wp2_with fail;refine Calls.mono HC ?_;rintro e w1 ⟨rfl,hq⟩;have HQ:Hid _:=hq;clear hq;go_wp2;exact bodyPost_end (v:=.tuple #[]) (z05 rfl _ _ _) rfl ⟨rfl,HQ⟩
theorem ze6 (k:Nat) (w:World) (Q:World→Prop) (h4:w.cell? ⟨k,4,none⟩=some (.int .i64 1)) (hc:CQ 177 #[.pointer (some ⟨k,0,none⟩)] w (.tuple #[]) Q):CQ 124 #[.pointer (some ⟨k,0,none⟩)] w (.tuple #[]) Q:=by have HC:Hid _:=hc;clear hc;go_enter func124,ntmps124;go_wp2_with fail;refine Calls.mono HC ?_;rintro e w1 ⟨rfl,hq⟩;have HQ:Hid _:=hq;clear hq;go_wp2;exact bodyPost_end (v:=.tuple #[]) (z05 rfl _ _ _) rfl ⟨rfl,HQ⟩
theorem ze7 (k:Nat) (w:World) (Q:World→Prop) (h4:w.cell? ⟨k,4,none⟩=some (.int .i64 4)) (hc:CQ 179 #[.pointer (some ⟨k,0,none⟩)] w (.tuple #[]) Q):CQ 124 #[.pointer (some ⟨k,0,none⟩)] w (.tuple #[]) Q:=by have HC:Hid _:=hc;clear hc;go_enter func124,ntmps124;go_wp2_with fail;refine Calls.mono HC ?_;rintro e w1 ⟨rfl,hq⟩;have HQ:Hid _:=hq;clear hq;go_wp2;exact bodyPost_end (v:=.tuple #[]) (z05 rfl _ _ _) rfl ⟨rfl,HQ⟩
theorem ze8 (k:Nat) (w:World) (Q:World→Prop) (h4:w.cell? ⟨k,4,none⟩=some (.int .i64 5)) (hc:CQ 180 #[.pointer (some ⟨k,0,none⟩)] w (.tuple #[]) Q):CQ 124 #[.pointer (some ⟨k,0,none⟩)] w (.tuple #[]) Q:=by have HC:Hid _:=hc;clear hc;go_enter func124,ntmps124;go_wp2_with fail;refine Calls.mono HC ?_;rintro e w1 ⟨rfl,hq⟩;have HQ:Hid _:=hq;clear hq;go_wp2;exact bodyPost_end (v:=.tuple #[]) (z05 rfl _ _ _) rfl ⟨rfl,HQ⟩
theorem ze9 (k:Nat) (w:World) (Q:World→Prop) (h4:w.cell? ⟨k,4,none⟩=some (.int .i64 6)) (hc:CQ 181 #[.pointer (some ⟨k,0,none⟩)] w (.tuple #[]) Q):CQ 124 #[.pointer (some ⟨k,0,none⟩)] w (.tuple #[]) Q:=by have HC:Hid _:=hc;clear hc;go_enter func124,ntmps124;go_wp2_with fail;refine Calls.mono HC ?_;rintro e w1 ⟨rfl,hq⟩;have HQ:Hid _:=hq;clear hq;go_wp2;exact bodyPost_end (v:=.tuple #[]) (z05 rfl _ _ _) rfl ⟨rfl,HQ⟩
theorem zea (k:Nat) (w:World) (Q:World→Prop) (h4:w.cell? ⟨k,4,none⟩=some (.int .i64 7)) (hc:CQ 182 #[.pointer (some ⟨k,0,none⟩)] w (.tuple #[]) Q):CQ 124 #[.pointer (some ⟨k,0,none⟩)] w (.tuple #[]) Q:=by have HC:Hid _:=hc;clear hc;go_enter func124,ntmps124;go_wp2_with fail;refine Calls.mono HC ?_;rintro e w1 ⟨rfl,hq⟩;have HQ:Hid _:=hq;clear hq;go_wp2;exact bodyPost_end (v:=.tuple #[]) (z05 rfl _ _ _) rfl ⟨rfl,HQ⟩
theorem zeb (k:Nat) (w:World) (Q:World→Prop) (h4:w.cell? ⟨k,4,none⟩=some (.int .i64 8)) (hc:CQ 183 #[.pointer (some ⟨k,0,none⟩)] w (.tuple #[]) Q):CQ 124 #[.pointer (some ⟨k,0,none⟩)] w (.tuple #[]) Q:=by have HC:Hid _:=hc;clear hc;go_enter func124,ntmps124;go_wp2_with fail;refine Calls.mono HC ?_;rintro e w1 ⟨rfl,hq⟩;have HQ:Hid _:=hq;clear hq;go_wp2;exact bodyPost_end (v:=.tuple #[]) (z05 rfl _ _ _) rfl ⟨rfl,HQ⟩
theorem zec (k:Nat) (w:World) (Q:World→Prop) (h4:w.cell? ⟨k,4,none⟩=some (.int .i64 9)) (hc:CQ 183 #[.pointer (some ⟨k,0,none⟩)] w (.tuple #[]) Q):CQ 124 #[.pointer (some ⟨k,0,none⟩)] w (.tuple #[]) Q:=by have HC:Hid _:=hc;clear hc;go_enter func124,ntmps124;go_wp2_with fail;refine Calls.mono HC ?_;rintro e w1 ⟨rfl,hq⟩;have HQ:Hid _:=hq;clear hq;go_wp2;exact bodyPost_end (v:=.tuple #[]) (z05 rfl _ _ _) rfl ⟨rfl,HQ⟩
theorem zcM (k:Nat) (w:World) (Q:World→Prop) (h4:w.cell? ⟨k,4,none⟩=some (.int .i64 10)) (hc:CQ 183 #[.pointer (some ⟨k,0,none⟩)] w (.tuple #[]) Q):CQ 124 #[.pointer (some ⟨k,0,none⟩)] w (.tuple #[]) Q:=by have HC:Hid _:=hc;clear hc;go_enter func124,ntmps124;go_wp2_with fail;refine Calls.mono HC ?_;rintro e w1 ⟨rfl,hq⟩;have HQ:Hid _:=hq;clear hq;go_wp2;exact bodyPost_end (v:=.tuple #[]) (z05 rfl _ _ _) rfl ⟨rfl,HQ⟩
theorem zlM (b:Adr):z3n (some b)=b.way.segs.length:=rfl
theorem zo4 {B R k j:Nat} {bv:Value} {s:ByteArray} {w0:World} {base:Option Adr} {K:Nat} (hbv:z6s B w0 bv base) (hbo:∀b,base=some b→z0b b.scheme=true→b.way.opaq=false) (hs:s.size≤2000) (hK:K≤500000) (HA:∀(u:Adr) pv (a:Nat) w,Tryz.Mem B R k j bv s w0 u pv (a:Nat) 4 0 w→a≤s.size→u.auth.user=[]→u.auth.pass=[]→Calls Tryz.prog 179 #[.pointer (some ⟨k,0,none⟩)] w fun e w'=>e=.returned (.tuple #[])∧z6B B R k j bv s w0 (z2Z hostTell ⟨u,s.data.toList.drop a,4,0⟩) w') (H9:∀(u:Adr) pv (a:Nat) w,Tryz.Mem B R k j bv s w0 u pv (a:Nat) 9 0 w→a≤s.size→u.way.opaq=false→u.way.segs.length≤1000000→Calls Tryz.prog 183 #[.pointer (some ⟨k,0,none⟩)] w fun e w'=>e=.returned (.tuple #[])∧z3u B R k j bv s w0 (z0D base ⟨u,s.data.toList.drop a,9,0⟩) w') (c:Mc) (w:World) (hr:z3u B R k j bv s w0 c w) (hi:Inv base K c) (hn:z3t c) (h13:c.st≠13) (he:c.err=0):Calls Tryz.prog 124 #[.pointer (some ⟨k,0,none⟩)] w fun e w'=>e=.returned (.tuple #[])∧z6B B R k j bv s w0 (z0g hostTell base c) w':=by
 obtain⟨u,r,st,er⟩:=c;have he:er=0:=he;subst he;obtain⟨pv,a,hm,hd,hp⟩:=hr;have hd:s.data.toList.drop a=r:=hd;subst hd;have h13:st≠13:=h13;have ha:a≤s.size:=by
  rcases hp with h|h
  ·exact h
  ·exact absurd h.1 h13
 have hm:Tryz.Mem B R k j bv s w0 u pv (a:Nat) (st:Nat) 0 w:=hm;have hst:=hi.known;have hst:1≤st∧st≤15:=hst;have hway:st≠11→st≠12→st≠13→u.way.opaq=false:=hi.way;have hlight:u.way.segs.length+(s.data.toList.drop a).length+exW base st≤K:=hi.light;have hseg:u.way.segs.length≤1000000:=by omega
 have hok:∀{f:Nat} {c':Mc},c'.err=0→(Calls Tryz.prog f #[.pointer (some ⟨k,0,none⟩)] w fun e w'=>e=.returned (.tuple #[])∧z3u B R k j bv s w0 c' w')→Calls Tryz.prog f #[.pointer (some ⟨k,0,none⟩)] w fun e w'=>e=.returned (.tuple #[])∧z6B B R k j bv s w0 c' w':=by intro f c' h1 h2;refine h2.mono ?_;rintro e w' ⟨h3,h4⟩;exact⟨h3,z4g h4 h1⟩
 have h4:w.cell? ⟨k,4,none⟩=some (.int .i64 (st:Nat)):=z00 hm.mach 4;by_cases e:st=14
 ·subst e
  rw[show z0g hostTell base ⟨u,s.data.toList.drop a,14,0⟩=z3v base ⟨u,s.data.toList.drop a,14,0⟩ from by simp[z0g]];exact zcL k w _ h4 (z9R a 14 hm hbv ha (by omega))
 by_cases e:st=15
 ·subst e
  rw[show z0g hostTell base ⟨u,s.data.toList.drop a,15,0⟩=z2B ⟨u,s.data.toList.drop a,15,0⟩ from by simp[z0g]];exact hok (by unfold z2B;split<;>(try split)<;>rfl) (zbe a hm ha (by omega))
 by_cases e:st=3
 ·subst e
  rw[show z0g hostTell base ⟨u,s.data.toList.drop a,3,0⟩=z4H ⟨u,s.data.toList.drop a,3,0⟩ from by simp[z0g]];exact hok rfl (zcb a hm ha (by omega))
 by_cases e:st=4
 ·subst e
  rw[show z0g hostTell base ⟨u,s.data.toList.drop a,4,0⟩=z2Z hostTell ⟨u,s.data.toList.drop a,4,0⟩ from by simp[z0g]];have:=hi.early (by simp);exact ze7 k w _ h4 (HA u pv a w hm ha this.1 this.2)
 by_cases e:st=5
 ·subst e
  rw[show z0g hostTell base ⟨u,s.data.toList.drop a,5,0⟩=z2l ⟨u,s.data.toList.drop a,5,0⟩ from by simp[z0g]];exact ze8 k w _ h4 (hok (by unfold z2l z0L;split<;>(try split)<;>rfl) (zcP a 5 hm ha (by omega)))
 by_cases e:st=6
 ·subst e
  rw[show z0g hostTell base ⟨u,s.data.toList.drop a,6,0⟩=z2q ⟨u,s.data.toList.drop a,6,0⟩ from by simp[z0g]];exact ze9 k w _ h4 (hok (by unfold z2q z0L;simp only;split<;>rfl) (zaf a hm (hway (by decide) (by decide) (by decide)) ha (by omega) hseg))
 by_cases e:st=7
 ·subst e
  rw[show z0g hostTell base ⟨u,s.data.toList.drop a,7,0⟩=z3r ⟨u,s.data.toList.drop a,7,0⟩ from by simp[z0g]];exact zea k w _ h4 (hok rfl (zba a 7 hm ha (by omega)))
 by_cases e:st=8
 ·subst e
  rw[show z0g hostTell base ⟨u,s.data.toList.drop a,8,0⟩=z2b base ⟨u,s.data.toList.drop a,8,0⟩ from by simp[z0g]];have hbl:u.way.segs.length+z3n base≤1000000:=by unfold exW at hlight;rw[if_neg (by decide),if_neg (by decide)] at hlight;omega
  exact zeb k w _ h4 (hok (by unfold z2b z1y z0L;simp only;split<;>(try split)<;>(try split)<;>(try split)<;>(try split)<;>rfl) (zc8 a hm hbv hbo (hway (by decide) (by decide) (by decide)) ha (by omega) hbl))
 by_cases e:st=9
 ·subst e
  rw[show z0g hostTell base ⟨u,s.data.toList.drop a,9,0⟩=z0D base ⟨u,s.data.toList.drop a,9,0⟩ from by simp[z0g]];exact zec k w _ h4 (hok (by unfold z0D;simp only;split<;>(try split)<;>rfl) (H9 u pv a w hm ha (hway (by decide) (by decide) (by decide)) hseg))
 by_cases e:st=10
 ·subst e
  rw[show z0g hostTell base ⟨u,s.data.toList.drop a,10,0⟩=z1U hostTell ⟨u,s.data.toList.drop a,10,0⟩ from by simp[z0g]];exact zcM k w _ h4 (zbd a hm hbv (hn (by simp)) ha hs)
 by_cases e:st=11
 ·subst e
  rw[show z0g hostTell base ⟨u,s.data.toList.drop a,11,0⟩=z3G ⟨u,s.data.toList.drop a,11,0⟩ from by simp[z0g]];exact hok rfl (zbg a hm ha (by omega))
 by_cases e:st=12
 ·subst e
  rw[show z0g hostTell base ⟨u,s.data.toList.drop a,12,0⟩=z5k ⟨u,s.data.toList.drop a,12,0⟩ from by simp[z0g]];exact hok rfl (zbf a hm ha (by omega))
 have h12:st=1∨st=2:=by omega
 obtain⟨b,hbase,hob⟩:=hi.near h12;subst hbase;obtain⟨bj,bpv,rfl,hbu⟩:=hbv;have hbl:u.way.segs.length+b.way.segs.length≤1000000:=by have h2:=hlight;unfold exW at h2;rw[if_neg (by omega),if_neg (by omega),zlM] at h2;omega
 rcases h12 with e|e
 ·subst e
  rw[show z0g hostTell (some b) ⟨u,s.data.toList.drop a,1,0⟩=z3l b ⟨u,s.data.toList.drop a,1,0⟩ from by simp[z0g]];exact ze6 k w _ h4 (hok (by unfold z3l z1y z0L;split<;>(try split)<;>(try split)<;>rfl) (z9W a 1 hm hbu (hway (by decide) (by decide) (by decide)) hob ha (by omega) hbl))
 ·subst e
  rw[show z0g hostTell (some b) ⟨u,s.data.toList.drop a,2,0⟩=z25 b ⟨u,s.data.toList.drop a,2,0⟩ from by simp[z0g]];exact hok (by unfold z25;split<;>(try split)<;>rfl) (zcc a hm hbu ha (by omega))
structure Tryz.UAt (w:World) (j:Nat) (u:Adr) (pv:Value):Prop where
 url:w.heap[j]?=some (.cells (z1w u pv) 116 (0,0))
 segs:u.way.opaq=false→∃sp cap,pv=.slice sp u.way.segs.length cap∧∀(i:Nat) x,u.way.segs[i]?=some x→∃g,sp=some ⟨g,0,none⟩∧w.cell? ⟨g,i,none⟩=some (.string ⟨x.toArray⟩)
 text:u.way.opaq=true→∃g cap,pv=.slice (some ⟨g,0,none⟩) 1 cap∧w.cell? ⟨g,0,none⟩=some (.string ⟨u.way.text.toArray⟩)
theorem Tryz.Mem.at {B R k j:Nat} {bv:Value} {s:ByteArray} {w0 w:World} {u:Adr} {pv:Value} {a st er:Int} (h:Mem B R k j bv s w0 u pv a st er w):UAt w j u pv:=by
 refine⟨h.url,fun ho=>?_,fun ho=>?_⟩
 ·obtain⟨sp,cap,hv,_,_,hc⟩:=z1t (h.owned ho)
  refine⟨sp,cap,hv,fun i x hx=>?_⟩;have hlt:i<u.way.segs.length:=by
   rcases Nat.lt_or_ge i u.way.segs.length with h2|h2
   ·exact h2
   ·rw[List.getElem?_eq_none h2] at hx;cases hx
  obtain⟨g,hg,hcs⟩:=hc (by omega);exact⟨g,hg,hcs i _ (by unfold z1J;rw[List.getElem?_map,hx];rfl)⟩
 ·rcases h.row with⟨h2,_⟩|⟨_,g,cap,hv,_,_,hc,_⟩
  ·rw[ho] at h2;cases h2
  ·exact⟨g,cap,hv,hc⟩
theorem tellSegs_app (x y:List Bs):z0F (x++y)=z0F x++z0F y:=by unfold z0F;rw[List.flatMap_append]
theorem zed (l:List Bs) (i:Nat) (x:Bs) (h:l[i]?=some x):z0F (l.take (i+1))=z0F (l.take i)++(47::x):=by rw[List.take_add_one,h,tellSegs_app];congr 1;show(47::x)++ []=_;rw[List.append_nil]
theorem zfD (l:List Bs) (i:Nat):(z0F (l.take i)).length≤(z0F l).length:=by
 conv=>rhs;rw[←List.take_append_drop i l,tellSegs_app,List.length_append]
 omega
theorem zk4 (j:Nat) (u:Adr) (pv:Value) (w:World) (hu:UAt w j u pv) (hl:(z1X u.way).length≤100000000) (hn:u.way.segs.length≤100000000):C0 125 #[.pointer (some ⟨j,0,none⟩)] w (.string ⟨(z1X u.way).toArray⟩):=by
 have c6:w.cell? ⟨j,6,none⟩=some (.bool u.way.opaq):=z00 hu.url 6;have c7:w.cell? ⟨j,7,none⟩=some pv:=z00 hu.url 7;cases ho:u.way.opaq with
 |true=>
  obtain⟨g,cap,rfl,hc⟩:=hu.text ho;have HE:Hid (z1X u.way=u.way.text):=by show _=_;unfold z1X;rw[if_pos ho]
  rw[ho] at c6;rw[HE.out];clear hu ho hl hn HE;go_enter func125,ntmps125;go_wp2;go_ret;exact⟨rfl,rfl⟩
 |false=>
  obtain⟨sp,cap,rfl,hc⟩:=hu.segs ho;have HE:Hid (z1X u.way=z0F u.way.segs):=by show _=_;unfold z1X;rw[if_neg (by simp[ho])]
  rw[ho] at c6;rw[HE.out] at hl⊢;have HC:=hI hc;clear hu ho HE hc;generalize u.way.segs=segs at*;have HL:=hI hl;clear hl;go_enter func125,ntmps125;go_wp2_with fail;go_loopw [3,4] (fun x y wr=>∃i:Nat,i≤segs.length∧y=.int .i64 (i:Nat)∧x=.string ⟨(z0F (segs.take i)).toArray⟩∧wr=w) (fun _ y _=>segs.length-(intOf y).toNat)
  case atStart=>exact⟨0,Nat.zero_le _,rfl,rfl,rfl⟩
  case round=>
   obtain⟨i,hi,rfl,rfl,hwr⟩:=hrel;obtain rfl:=hwr.symm;by_cases hlt:i<segs.length
   ·have hx:=List.getElem?_eq_getElem hlt
    obtain⟨g,hg,hcell⟩:=HC.out i _ hx;have HT:=hI (zed segs i _ hx);have hb1:(z0F (segs.take i)).length+segs[i].length+1≤100000000:=by have h1:=zfD segs (i+1);rw[HT.out,List.length_append,List.length_cons] at h1;have:=HL.out;omega
    obtain⟨o2,ho2⟩:=z09 (z0F (segs.take (i+1)));have HO2:=hI ho2;have a1:∀V:World,(Op.stringOp .add ⟨(z0F (segs.take i)).toArray⟩ ⟨#[47]⟩).run prog V=.ok (.string ⟨(z0F (segs.take i)++ [47]).toArray⟩) V:=fun V=>by
     rw[run_string_add_sum V _ _ (by rw[z07];show _+1≤_;omega)];exact congrArg (fun z=>Result.ok (Value.string z) V) (z0G _ [47])
    have a2:∀V:World,(Op.stringOp .add ⟨(z0F (segs.take i)++ [47]).toArray⟩ ⟨(segs[i]).toArray⟩).run prog V=.ok (.string ⟨o2.toArray⟩) V:=fun V=>by
     rw[run_string_add_sum V _ _ (by rw[z07,z07,List.length_append];show _+1+_≤_;omega),z0G,ho2,HT.out];congr 3;simp
    generalize z0F (segs.take i)++ [47]=t2 at*;generalize z0F (segs.take i)=t1 at*;subst hg;clear hb1 HT ho2 hx;generalize(segs[i]).toArray=xa at*;go_wp2;go_roundw
    case rel=>exact⟨i+1,by omega,by go_num,by rw[HO2.out],trivial⟩
    case measure=>(simp[intOf];try omega)
   ·have HQ:Hid (segs.take i=segs):=List.take_of_length_le (by omega)
    rw[HQ.out];clear HC;go_wp2;go_ret;exact⟨rfl,rfl⟩
end Go.Proofs
namespace Go.Moor
open Go
theorem z8X (t:Bs):z0P t≤t.length:=by
 unfold z0P;have hi:=z5j 58 t;cases hc:z1a 58 t with
 |none=>exact Nat.zero_le _
 |some p=>
  obtain⟨n,r⟩:=p;rw[hc] at hi;simp only;split
  ·rw[hi.1]
   simp
  ·exact Nat.zero_le _
theorem zir (t:Bs) (h:z0P t≠0):Lib.toLowerA (t.take (z0P t- 1))≠[]:=by
 have hl:2≤z0P t:=by
  unfold z0P at h⊢;cases hc:z1a 58 t with
  |none=>rw[hc] at h;exact absurd rfl h
  |some p=>
   obtain⟨n,r⟩:=p;rw[hc] at h;simp only at h⊢;by_cases hs:z0W n=true
   ·rw[if_pos hs]
    cases n with
    |nil=>cases hs
    |cons a b=>simp
   ·rw[if_neg hs] at h
    exact absurd rfl h
 have h2:=z8X t;intro e;have e2:=congrArg List.length e;have e3:(Lib.toLowerA (t.take (z0P t- 1))).length=(t.take (z0P t- 1)).length:=by unfold Lib.toLowerA;simp
 rw[e3,List.length_take] at e2;have e4:min (z0P t- 1) t.length=0:=e2;omega
theorem zis (base:Option Adr) (t:Bs) (h:z0P t=0):z4G base (z0k t).1 (z0k t).2=⟨z20 [],t,14,0⟩:=by rw[z6d,if_pos h];rfl
theorem zit (base:Option Adr) (t:Bs) (h:z0P t≠0):z4G base (z0k t).1 (z0k t).2=⟨z20 (Lib.toLowerA (t.take (z0P t- 1))),t.drop (z0P t),z2u base (Lib.toLowerA (t.take (z0P t- 1))),0⟩:=by rw[z6d,if_neg h];unfold z4G;simp only;rw[if_neg (zir t h)]
theorem zk3 (base:Option Adr) (hb:∀b,base=some b→z0b b.scheme=true→b.way.opaq=false) (sc r:Bs) (K:Nat) (hK:r.length+(2+z3n base)≤K):Inv base K (z4G base sc r)∧z3t (z4G base sc r)∧(z4G base sc r).err=0:=by
 refine⟨?_,fun _=>rfl,rfl⟩;unfold z4G;by_cases h0:sc=[]
 ·rw[if_pos h0]
  exact z4Z _ (Or.inr (Or.inr (Or.inl rfl))) ⟨rfl,rfl⟩ rfl (by show 0+r.length+_≤K;omega)
 ·rw[if_neg h0]
  unfold z2u;by_cases hf:sc=sFile
  ·rw[if_pos hf]
   exact z5w _ (Or.inr (Or.inr (Or.inl rfl))) rfl (by show 0+r.length+_≤K;omega)
  ·rw[if_neg hf]
   by_cases hs:z0b sc=true
   ·rw[if_pos hs]
    by_cases ha:base.any (fun b=>decide (b.scheme=sc))=true
    ·rw[if_pos ha]
     have hn:∃b,base=some b∧b.way.opaq=false:=by
      cases base with
      |none=>cases ha
      |some b=>have hx:b.scheme=sc:=(by simpa using ha);exact⟨b,rfl,hb b rfl (by rw[hx];exact hs)⟩
     exact zcO _ (Or.inl rfl) ⟨rfl,rfl⟩ rfl hn (by show 0+r.length+_≤K;omega)
    ·rw[if_neg ha]
     exact z4Z _ (Or.inl rfl) ⟨rfl,rfl⟩ rfl (by show 0+r.length+_≤K;omega)
   ·rw[if_neg hs]
    exact z4Z _ (Or.inr (Or.inr (Or.inr rfl))) ⟨rfl,rfl⟩ rfl (by show 0+r.length+_≤K;omega)
end Go.Moor
namespace Go.Proofs
open Go.RowKit Go.Moor Go.Proofs.Tryz
theorem Tryz.Mem.base {B R k j:Nat} {bv:Value} {s:ByteArray} {w0 w:World} {u:Adr} {pv:Value} {a st er:Int} (h:Mem B R k j bv s w0 u pv a st er w):UBase w.heap.size w u j pv:=by
 refine⟨h.jz,h.url,?_⟩;rcases h.row with⟨ho,hr⟩|⟨ho,g,cap,hv,h1,h2,h3,h4,_⟩
 ·refine Or.inl ⟨ho,?_,fun g hg=>(hr.lt g hg).2,?_⟩
  ·obtain⟨sp,cap,hv,_,_,hf⟩:=z1t hr
   have hl:(z1J u.way.segs).length=u.way.segs.length:=(by unfold z1J;simp);rcases Nat.eq_zero_or_pos u.way.segs.length with h0|h0
   ·rcases hr.2 with⟨h5,_⟩|⟨g,cap2,_,h5,_⟩
    ·exact Or.inl ⟨h5,h0,by unfold z1J;rw[List.length_eq_zero_iff.1 h0];rfl⟩
    ·exact Or.inr ⟨_,_,h5,hl,fun i x hx=>by unfold z1J at hx;rw[List.length_eq_zero_iff.1 h0] at hx;cases hx⟩
   ·obtain⟨g,hg,hc⟩:=hf h0
    refine Or.inr ⟨⟨g,0,none⟩,cap,by rw[hv,hg],hl,fun i x hx=>?_⟩;have:=hc i x hx;rw[show(⟨g,0,none⟩:Go.Addr).add i=⟨g,i,none⟩ from by simp[Addr.add];exact fun h=>h.symm];exact this
  ·obtain⟨sp,cap,hv,_,_,hf⟩:=z1t hr
   exact⟨sp,cap,hv,fun h0=>by obtain⟨g,hg,_⟩:=hf h0;exact⟨g,hg⟩⟩
 ·exact Or.inr ⟨ho,g,cap,hv,h1,h2,h3,h4⟩
theorem znB (w:World) (nd:Nat) (bv:Value) (s:ByteArray):Mem w.heap.size (w.heap.size+2) (w.heap.size+1) w.heap.size bv s w (z20 []) (.slice none 0 0) 0 0 0 (((w.drewN nd).alloc (.cells (z1w (z20 []) (.slice none 0 0)) 116)).alloc (.cells (z8i w.heap.size bv s 0 0 0) 168)):=by
 have hz:(w.drewN nd).heap.size=w.heap.size:=rfl;have hb0:Below w.heap.size w (w.drewN nd):=⟨rfl,rfl,rfl,Nat.le_refl _,fun _ _=>rfl⟩;have h1:=z0K (w.drewN nd) (z1w (z20 []) (.slice none 0 0)) 116;have hz1:((w.drewN nd).alloc (.cells (z1w (z20 []) (.slice none 0 0)) 116)).heap.size=w.heap.size+1:=by simp
 have h2:=z0K ((w.drewN nd).alloc (.cells (z1w (z20 []) (.slice none 0 0)) 116)) (z8i w.heap.size bv s 0 0 0) 168;rw[hz1] at h2;rw[hz] at h1;refine⟨(hb0.alloc (Nat.le_refl _) _).alloc (by rw[hz1];omega) _,h2,(Below.heap_alloc _ _ w.heap.size (by rw[hz1];omega)).trans h1,by omega,Nat.le_refl _,by omega,by omega,by omega,by simp,?_⟩;exact Or.inl ⟨rfl,rfl,Or.inl ⟨rfl,rfl⟩⟩
end Go.Proofs
namespace Go.Moor
open Go
theorem zil (x y:Bs) (hy:∀c∈y,c≠64):z0u (x++64::y)=(x,y):=by
 have e:(x++64::y).reverse=y.reverse++64::x.reverse:=by simp
 have h:z3P 64 (x++64::y)=some (x,y):=by unfold z3P;rw[e,z3E 64 x.reverse y.reverse (fun c hc=>hy c (by simpa using hc))];simp
 unfold z0u;rw[h]
theorem zim (t:Bs) (h:∀c∈t,c≠64):z0u t=([],t):=by
 have h2:z3P 64 t=none:=by unfold z3P;rw[z4k 64 t.reverse (fun c hc=>h c (by simpa using hc))];rfl
 unfold z0u;rw[h2]
theorem znu (x:Bs) (h:∀c∈x,c≠58):z0i 58 x=(x,none):=by unfold z0i;rw[z4k 58 x h]
theorem znv (p q:Bs) (h:∀c∈p,c≠58):z0i 58 (p++58::q)=(p,some q):=by unfold z0i;rw[z3E 58 q p h]
structure UpAt (x:Bs) (second:Bool) (us ps:Bs):Prop where
 all:(second=false∧(∀c∈x,c≠58)∧us=esc 5 x∧ps=[])∨(second=true∧∃p q,x=p++58::q∧(∀c∈p,c≠58)∧us=esc 5 p∧ps=esc 5 q)
theorem zlH:UpAt [] false [] []:=⟨Or.inl ⟨rfl,by simp,rfl,rfl⟩⟩
theorem zdt (s:Int) (x:Bs) (c:UInt8):esc s (x++ [c])=esc s x++esc s [c]:=by unfold esc;rw[List.flatMap_append]
theorem zin (x us ps:Bs) (h:UpAt x false us ps):UpAt (x++ [58]) true us ps:=by
 rcases h.all with⟨_,h1,h2,h3⟩|⟨h1,_⟩
 ·exact⟨Or.inr ⟨rfl,x,[],rfl,h1,h2,h3⟩⟩
 ·cases h1
theorem zjY (x us ps:Bs) (c:UInt8) (hc:c≠58) (h:UpAt x false us ps):UpAt (x++ [c]) false (us++esc 5 [c]) ps:=by
 rcases h.all with⟨_,h1,h2,h3⟩|⟨h1,_⟩
 ·refine⟨Or.inl ⟨rfl,fun d hd=>?_,by rw[zdt,h2],h3⟩⟩
  rw[List.mem_append,List.mem_singleton] at hd;rcases hd with hd|hd
  ·exact h1 d hd
  ·rw[hd];exact hc
 ·cases h1
theorem zjZ (x us ps:Bs) (c:UInt8) (h:UpAt x true us ps):UpAt (x++ [c]) true us (ps++esc 5 [c]):=by
 rcases h.all with⟨h1,_⟩|⟨_,p,q,h1,h2,h3,h4⟩
 ·cases h1
 ·exact⟨Or.inr ⟨rfl,p,q++ [c],by rw[h1];simp,h2,h3,by rw[zdt,h4]⟩⟩
theorem zlI (x us ps:Bs) (b:Bool) (h:UpAt x b us ps):us=esc 5 (z0i 58 x).1∧ps=esc 5 ((z0i 58 x).2.getD []):=by
 rcases h.all with⟨_,h1,h2,h3⟩|⟨_,p,q,h1,h2,h3,h4⟩
 ·rw[znu x h1]
  exact⟨h2,h3⟩
 ·rw[h1,znv p q h2]
  exact⟨h3,h4⟩
theorem zlJ (x us ps:Bs) (b:Bool) (h:UpAt x b us ps) (hl:∀l:Bs,(esc 5 l).length≤3*l.length):us.length+ps.length≤3*x.length:=by
 rcases h.all with⟨_,_,h2,h3⟩|⟨_,p,q,h1,_,h3,h4⟩
 ·rw[h2,h3]
  have:=hl x;simp;omega
 ·rw[h3,h4,h1]
  have:=hl p;have:=hl q;simp;omega
def zca (c:UInt8) (i:Bool):Bool:=if c=91 then true else if c=93 then false else i
def z3Y (y:Bs) (k:Nat) (i:Bool):Prop:=z0Y false y=(z0Y i (y.drop k)).map fun p=>(y.take k++p.1,p.2)
theorem zgy (y:Bs):z3Y y 0 false:=by
 unfold z3Y;rw[List.drop_zero];cases z0Y false y with
 |none=>rfl
 |some p=>rfl
theorem z6t (y:Bs) (k:Nat) (i:Bool) (h:k<y.length) (hn:¬(y[k]=58∧i=false)) (hs:z3Y y k i):z3Y y (k+1) (zca y[k] i):=by
 unfold z3Y at hs⊢;rw[hs,List.drop_eq_getElem_cons h,z0Y,if_neg hn,Option.map_map];show(z0Y (zca y[k] i) (y.drop (k+1))).map _=_;congr 1;funext p;show(y.take k++y[k]::p.1,p.2)=(y.take (k+1)++p.1,p.2);have e:y.take (k+1)=y.take k++ [y[k]]:=by rw[List.take_add_one,List.getElem?_eq_getElem h];rfl
 rw[e,List.append_assoc];rfl
theorem zio (y:Bs) (k:Nat) (h:k<y.length) (hc:y[k]=58) (hs:z3Y y k false):z1k y=(y.take k,some (y.drop (k+1))):=by unfold z3Y at hs;rw[List.drop_eq_getElem_cons h,z0Y,if_pos ⟨hc,rfl⟩] at hs;unfold z1k;rw[hs];simp
theorem zip (y:Bs) (k:Nat) (i:Bool) (h:y.length≤k) (hs:z3Y y k i):z1k y=(y,none):=by unfold z3Y at hs;rw[List.drop_of_length_le h] at hs;unfold z1k;rw[hs];rfl
def z7n (t:Bs) (n:Nat) (x:Int):Prop:=(x= -1∧∀c∈t.take n,c≠64)∨∃p:Nat,x=(p:Int)∧p<n∧∃h:p<t.length,t[p]=64∧∀c∈(t.take n).drop (p+1),c≠64
theorem zgz (t:Bs):z7n t 0 (-1):=Or.inl ⟨rfl,by simp⟩
theorem ziq (t:Bs) (n:Nat) (h:n<t.length) (hc:t[n]=64):z7n t (n+1) (n:Int):=by refine Or.inr ⟨n,rfl,by omega,h,hc,fun c hc=>?_⟩;rw[List.drop_of_length_le (by rw[List.length_take];omega)] at hc;cases hc
theorem zgA (t:Bs) (n:Nat) (x:Int) (h:n<t.length) (hc:¬t[n]=64) (hl:z7n t n x):z7n t (n+1) x:=by
 have e:t.take (n+1)=t.take n++ [t[n]]:=by rw[List.take_add_one,List.getElem?_eq_getElem h];rfl
 rcases hl with⟨h1,h2⟩|⟨p,h1,h2,h3,h4,h5⟩
 ·refine Or.inl ⟨h1,fun c hc2=>?_⟩
  rw[e,List.mem_append,List.mem_singleton] at hc2;rcases hc2 with hc2|hc2
  ·exact h2 c hc2
  ·rw[hc2];exact hc
 ·refine Or.inr ⟨p,h1,by omega,h3,h4,fun c hc2=>?_⟩
  rw[e,List.drop_append_of_le_length (by rw[List.length_take];omega),List.mem_append,List.mem_singleton] at hc2;rcases hc2 with hc2|hc2
  ·exact h5 c hc2
  ·rw[hc2];exact hc
theorem zgB (t:Bs) (x:Int) (hx:x<0) (hl:z7n t t.length x):z0u t=([],t):=by
 rcases hl with⟨_,h2⟩|⟨p,h1,_⟩
 ·rw[List.take_length] at h2
  exact zim t h2
 ·omega
theorem zgC (t:Bs) (x:Int) (hx:0≤x) (hl:z7n t t.length x):∃p:Nat,x=(p:Int)∧p<t.length∧z0u t=(t.take p,t.drop (p+1)):=by
 rcases hl with⟨h1,_⟩|⟨p,h1,_,h3,h4,h5⟩
 ·omega
 ·refine⟨p,h1,h3,?_⟩
  rw[List.take_length] at h5;have e:t=t.take p++64::t.drop (p+1):=by
   conv=>lhs;rw[←List.take_append_drop p t]
   rw[List.drop_eq_getElem_cons h3,h4]
  have:=zil (t.take p) (t.drop (p+1)) h5;rw[←e] at this;exact this
theorem zk0 (t:Bs) (n:Nat) (h:n<t.length):t.take (n+1)=t.take n++ [t[n]]:=by rw[List.take_add_one,List.getElem?_eq_getElem h];rfl
section
variable (H : Bs → Bool → Option Bs)
def z3f (us ps y s:Bs):Except Int Auth:=
 let hp:=z1k y
 if hp.1=[]∧(hp.2.isSome∨z0b s=true) then .error 4
 else match H hp.1 (z0b s&&decide (hp.1≠[])) with
  |none=>.error 4
  |some h=>match z1o (hp.2.getD []) s with
   |none=>.error 5
   |some p=>.ok ⟨us,ps,true,h,p⟩
theorem zaI (t s:Bs) (h:¬(t≠[]∧(z0u t).2=[])):z2c H t s=z3f H (esc 5 (z0i 58 (z0u t).1).1) (esc 5 ((z0i 58 (z0u t).1).2.getD [])) (z0u t).2 s:=by unfold z2c z3f;simp only;rw[if_neg h];rfl
theorem zk1 (t s x y:Bs) (h:z0u t=(x,y)) (ht:t≠[]) (hy:y=[]):z2c H t s=.error 4:=by unfold z2c;simp only;rw[h,if_pos ⟨ht,hy⟩]
def z60 (us ps h p:Bs) (z:Int) (s:Bs):Except Int Auth:=
 if h=[]∧(0≤z∨z0b s=true) then .error 4
 else match H h (z0b s&&decide (h≠[])) with
  |none=>.error 4
  |some x=>match z1o p s with
   |none=>.error 5
   |some q=>.ok ⟨us,ps,true,x,q⟩
theorem zgD (us ps y s:Bs) (h:z1k y=(y,none)):z3f H us ps y s=z60 H us ps y [] (-1) s:=by
 unfold z3f z60;simp only;rw[h];by_cases h1:y=[]∧z0b s=true
 ·rw[if_pos ⟨h1.1,Or.inr h1.2⟩,if_pos ⟨h1.1,Or.inr h1.2⟩]
 ·rw[if_neg (fun h2=>h1 ⟨h2.1,by rcases h2.2 with h3|h3;cases h3;exact h3⟩),if_neg (fun h2=>h1 ⟨h2.1,by rcases h2.2 with h3|h3;omega;exact h3⟩)]
  rfl
theorem zgE (us ps y s h p:Bs) (z:Nat) (e:z1k y=(h,some p)):z3f H us ps y s=z60 H us ps h p (z:Int) s:=by
 unfold z3f z60;simp only;rw[e];by_cases h1:h=[]
 ·rw[if_pos ⟨h1,Or.inl rfl⟩,if_pos ⟨h1,Or.inl (by omega)⟩]
 ·rw[if_neg (fun h2=>h1 h2.1),if_neg (fun h2=>h1 h2.1)]
  rfl
def z53 (h:Bs) (z:Int) (s:Bs):Bool:=decide (h=[])&&(decide (0≤z)||z0b s)
theorem zoA (us ps h p:Bs) (z:Int) (s:Bs) (e:z53 h z s=true):z60 H us ps h p z s=.error 4:=by unfold z53 at e;simp at e;unfold z60;rw[if_pos e]
theorem znw (us ps h p:Bs) (z:Int) (s:Bs) (e:z53 h z s=false):z60 H us ps h p z s=match H h (z0b s&&decide (h≠[])) with
  |none=>.error 4
  |some x=>match z1o p s with
   |none=>.error 5
   |some q=>.ok ⟨us,ps,true,x,q⟩:=by
 unfold z60;rw[if_neg];intro h2;have:z53 h z s=true:=by unfold z53;simpa using h2
 rw[this] at e;cases e
end
end Go.Moor
namespace Go.Proofs
open Go.RowKit Go.Moor Go.Proofs.Tryz
theorem zhi (c:UInt8):refDigit c=z2R c:=by unfold refDigit z2R;rw[Bool.decide_and]
def z36 (l sc:Bs):Int×Int:=match z1o l sc with|some p=>(p,0)|none=>(0,5)
theorem zgK (l sc:Bs) (k:Nat) (h:k<l.length) (hd:z2R l[k]=false):z36 l sc=(0,5):=by
 have hn:z1o l sc=none:=by
  unfold z1o;have h0:l≠[]:=by rintro rfl;simp at h
  rw[if_neg h0];have ha:l.all z2R=false:=by rw[List.all_eq_false];exact⟨l[k],List.getElem_mem h,by simp[hd]⟩
  rw[ha];rfl
 unfold z36;rw[hn]
theorem zee (l sc:Bs) (hd:65535<z1g 0 l):z36 l sc=(0,5):=by
 have hn:z1o l sc=none:=by
  unfold z1o;have h0:l≠[]:=by rintro rfl;have:z1g 0 []=0:=rfl;omega
  rw[if_neg h0];have ha:decide (z1g 0 l≤65535)=false:=decide_eq_false (by omega);rw[ha,Bool.and_false];rfl
 unfold z36;rw[hn]
theorem zfK (l sc:Bs) (ha:∀x∈l,z2R x=true) (hd:z1g 0 l≤65535) (h0:l≠[]):z36 l sc=(if((z1g 0 l:Nat):Int)=(z1z sc).1 then -1 else((z1g 0 l:Nat):Int),0):=by
 have hn:z1o l sc=if((z1g 0 l:Nat):Int)=(z1z sc).1 then some (-1) else some ((z1g 0 l:Nat):Int):=by unfold z1o;rw[if_neg h0,List.all_eq_true.2 ha,decide_eq_true hd];rfl
 unfold z36;rw[hn];by_cases h:((z1g 0 l:Nat):Int)=(z1z sc).1
 ·rw[if_pos h,if_pos h]
 ·rw[if_neg h,if_neg h]
theorem zbo (l sc:Bs) (w:World) (hs:l.length≤35184372088832):C0 130 #[.string ⟨l.toArray⟩,.string ⟨sc.toArray⟩] w (.tuple #[.int .i64 (z36 l sc).1,.int .i64 (z36 l sc).2]):=by
 have HDI:Hid (∀(c:UInt8) w1,C0 173 #[.int .u8 c.toNat] w1 (.bool (z2R c))):=fun c w1=>by rw[←zhi];exact zbK c w1
 have HOW:Hid (∀w1,C0 73 #[.string ⟨sc.toArray⟩] w1 (.int .i64 (z1z sc).1)):=fun w1=>zo2 ⟨sc.toArray⟩ w1;obtain⟨s,hsd⟩:=z09 (⟨l.toArray⟩:ByteArray);obtain⟨t,htd⟩:=z09 (⟨sc.toArray⟩:ByteArray);have hlen:l.length=s.size:=by rw[hsd,z07]
 have HG:Hid (∀(k:Nat) (h:k<s.size) (h2:k<l.length),l[k]=s[k]):=by intro k h h2;subst hsd;rfl
 have HEM:Hid ((s.toList==[])=l.isEmpty):=by show _=_;rw[hsd,Lib.toList_data];cases l<;>rfl
 rw[←htd] at HOW;rw[←hsd,←htd];clear hsd htd;suffices key:∀p er:Int,Hid (z36 l sc=(p,er))→Calls prog 130 #[.string s,.string t] w fun e w'=>e=.returned (.tuple #[.int .i64 p,.int .i64 er])∧w'=w from key _ _ rfl
 intro p er HP;go_enter func130,ntmps130;go_wp2_with fail;go_loopw [6,7] (fun n i wr=>∃k m:Nat,k≤s.size∧i=.int .i64 (k:Nat)∧n=.int .i64 (m:Nat)∧m≤65536∧m=z54 (z1g 0 (l.take k))∧(∀x∈l.take k,z2R x=true)∧wr=w) (fun _ i _=>s.size-(intOf i).toNat)
 case atStart=>exact⟨0,0,Nat.zero_le _,rfl,rfl,by omega,rfl,by simp,rfl⟩
 case round=>
  obtain⟨k,m,hk,rfl,rfl,hm,hv,hd,hwr⟩:=hrel;subst hwr;have HV:=hI hv;have HD:=hI hd;clear hv hd;by_cases hlt:k<s.size
  ·have h2:k<l.length:=by omega
   have hg:=HG.out k hlt h2;have HCD:Hid _:=HDI.out s[k];cases hdg:z2R s[k] with
   |false=>have HE:Hid (p=0∧er=5):=(by have h1:=zgK l sc k h2 (by rw[hg];exact hdg);rw[HP.out] at h1;exact⟨congrArg Prod.fst h1,congrArg Prod.snd h1⟩);obtain⟨e1,e2⟩:=HE.out;subst e1;subst e2;rw[hdg] at HCD;clear hdg hg HG HP HE HD HV;go_wp2_with fail;refine Calls.mono (HCD.out _) ?_;rintro e w1 ⟨rfl,hw1⟩;obtain rfl:=hw1.symm;go_wp2;go_ret2;exact⟨rfl,rfl⟩
   |true=>
    have hrange:48≤s[k].toNat∧s[k].toNat≤57:=(by have:=hdg;unfold z2R at this;rw[Bool.and_eq_true,decide_eq_true_iff,decide_eq_true_iff] at this;exact this);obtain⟨d,hdd⟩:∃d:Nat,s[k].toNat=48+d:=⟨s[k].toNat- 48,by omega⟩;have hd9:d≤9:=(by omega);have HT:Hid (z54 (10*m+d)=z54 (z1g 0 (l.take (k+1)))):=(by show _=_;rw[HV.out,z3U l k h2,zgJ,zfJ,hg,hdd];congr 2;omega);have HD2:Hid (∀x∈l.take (k+1),z2R x=true):=by
     intro x hx;rw[z3U l k h2,List.mem_append] at hx;rcases hx with hx|hx
     ·exact HD.out x hx
     ·rw[List.mem_singleton.1 hx,hg]
      exact hdg
    rw[hdg] at HCD;have HDD:=hI hdd;clear hdg hg HG HP HD HV hrange hdd;by_cases hbig:65535<10*m+d
    ·have HS:Hid (z54 (10*m+d)=65536):=if_pos hbig
     have hbi:(65535:Int)<10*(m:Int)+(d:Int):=(by omega);go_wp2_with fail;refine Calls.mono (HCD.out _) ?_;rintro e w1 ⟨rfl,hw1⟩;obtain rfl:=hw1.symm;have hdd:=HDD.out;go_wp2;go_roundw
     case rel=>exact⟨k+1,65536,by omega,by go_num,rfl,by omega,by rw[←HT.out,HS.out],HD2.out,trivial⟩
     case measure=>(simp[intOf];try omega)
    ·have HS:Hid (z54 (10*m+d)=10*m+d):=if_neg hbig
     have hbi:¬(65535:Int)<10*(m:Int)+(d:Int):=(by omega);go_wp2_with fail;refine Calls.mono (HCD.out _) ?_;rintro e w1 ⟨rfl,hw1⟩;obtain rfl:=hw1.symm;have hdd:=HDD.out;go_wp2;go_roundw
     case rel=>exact⟨k+1,10*m+d,by omega,by go_num,by go_num,by omega,by rw[←HT.out,HS.out],HD2.out,trivial⟩
     case measure=>(simp[intOf];try omega)
  ·have htk:l.take k=l:=List.take_of_length_le (by omega)
   have hmv:=HV.out;have hdv:=HD.out;rw[htk] at hmv hdv;clear HG HV HD HDI;by_cases hbig:65535<z1g 0 l
   ·have hm6:m=65536:=by rw[hmv];exact if_pos hbig
    have h1:=zee l sc hbig;rw[HP.out] at h1;have e1:p=0:=congrArg Prod.fst h1;have e2:er=5:=congrArg Prod.snd h1;subst e1;subst e2;subst hm6;clear hmv hdv h1 HP htk;go_wp2;go_ret2;exact⟨rfl,rfl⟩
   ·have hm6:m=z1g 0 l:=by rw[hmv];exact if_neg hbig
    have hmi:¬(65535:Int)<(m:Int):=(by omega);by_cases h0:l=[]
    ·have h1:z36 l sc=(-1,0):=by rw[h0];rfl
     rw[HP.out] at h1;have e1:p= -1:=congrArg Prod.fst h1;have e2:er=0:=congrArg Prod.snd h1;have hem:s.toList.isEmpty=true:=by have:=HEM.out;rw[h0] at this;simpa using this
     subst e1;subst e2;clear hmv hdv h1 HP htk hm6 hbig HEM;go_wp2;go_ret2;exact⟨rfl,rfl⟩
    ·have h1:=zfK l sc hdv (by omega) h0
     have hem:s.toList.isEmpty=false:=by
      have:=HEM.out;cases l with
      |nil=>exact absurd rfl h0
      |cons a b=>simpa using this
     rw[HP.out,←hm6] at h1;have e1:p=if(m:Int)=(z1z sc).1 then -1 else(m:Int):=congrArg Prod.fst h1;have e2:er=0:=congrArg Prod.snd h1;have HO2:Hid _:=HOW.out wr;subst e2;generalize(z1z sc).1=ow at*;clear hmv hdv h1 HP htk hm6 hbig HEM HOW;by_cases how:(m:Int)=ow
     ·have HE:Hid (p= -1):=by show _=_;rw[e1,if_pos how]
      clear e1;go_wp2_with fail;refine Calls.mono HO2.out ?_;rintro e w1 ⟨rfl,hw1⟩;obtain rfl:=hw1.symm;go_wp2;go_ret2;rw[HE.out];exact⟨rfl,rfl⟩
     ·have HE:Hid (p=(m:Int)):=by show _=_;rw[e1,if_neg how]
      have hob:((m:Int)==ow)=false:=(by simpa using how);clear e1 how;go_wp2_with fail;refine Calls.mono HO2.out ?_;rintro e w1 ⟨rfl,hw1⟩;obtain rfl:=hw1.symm;go_wp2;go_ret2;rw[HE.out];exact⟨rfl,rfl⟩
end Go.Proofs
