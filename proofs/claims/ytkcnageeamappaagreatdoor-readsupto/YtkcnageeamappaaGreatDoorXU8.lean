import Derived.Test.YtkcnageeamappaaGreatDoorXU7b
set_option maxHeartbeats 32000000
set_option maxRecDepth 8000
namespace Go.Proofs
open Go.RowKit Go.Moor Go.Proofs.Tryz
theorem zlW (l:List Bs):∀u∈z1J l,u.oneCell'=true:=by intro u hu;unfold z1J at hu;rw[List.mem_map] at hu;obtain⟨x,_,rfl⟩:=hu;rfl
theorem zeh:(prog.info? 9).map (fun i=>(i.zero,i.size,i.bytes))=some (some (.string ⟨#[]⟩),1,16):=by kernel_rfl
theorem zkb (b:Adr) (c:Mc) (h:(z1I c.r== -1)=true∨(z1I c.r==35)=true):z1y b c=z0L {c with u:={c.u with way:=⟨false,[],c.u.way.segs++b.way.segs⟩,query:=b.query}}:=by
 unfold z1y;rw[if_pos];rcases h with h|h
 ·left
  cases hr:c.r with
  |nil=>rfl
  |cons x y=>rw[hr,beq_iff_eq] at h;have:(x.toNat:Int)= -1:=h;omega
 ·right
  exact(z6T c.r).2 h
theorem zhl (r:Bs) (h1:(z1I r== -1)=false) (h2:(z1I r==35)=false):¬(r=[]∨r.head? =some 35):=by
 rintro(h|h)
 ·rw[h] at h1;cases h1
 ·exact z5x r 35 _ (z6T r) h2 h
theorem zgN (b:Adr) (c:Mc) (h1:(z1I c.r== -1)=false) (h2:(z1I c.r==35)=false) (h3:(z1I c.r==63)=true):z1y b c=z0L {c with u:={c.u with way:=⟨false,[],c.u.way.segs++b.way.segs⟩}}:=by unfold z1y;rw[if_neg (zhl c.r h1 h2),if_pos ((z8l c.r).2 h3)]
theorem ziH (b:Adr) (c:Mc) (h1:(z1I c.r== -1)=false) (h2:(z1I c.r==35)=false) (h3:(z1I c.r==63)=false):z1y b c={c with u:={c.u with way:=⟨false,[],z08 c.u.scheme (c.u.way.segs++b.way.segs)⟩},st:=6}:=by unfold z1y;rw[if_neg (zhl c.r h1 h2),if_neg (z5x c.r 63 _ (z8l c.r) h3)]
theorem zmr {B R k j bj:Nat} {bpv:Value} {s:ByteArray} {w0:World} {u b:Adr} {pv:Value} (a st:Nat) {er:Int} {w:World} (hm:Mem B R k j (.pointer (some ⟨bj,0,none⟩)) s w0 u pv (a:Nat) (st:Nat) er w) (hb:UBase B w0 b bj bpv) (ho:u.way.opaq=false) (hob:b.way.opaq=false) (ha:a≤s.size) (hs:s.size≤35184372088832) (hn:u.way.segs.length+b.way.segs.length≤1000000):CQ 219 #[.pointer (some ⟨k,0,none⟩)] w (.tuple #[]) (z3u B R k j (.pointer (some ⟨bj,0,none⟩)) s w0 (z1y b ⟨u,s.data.toList.drop a,st,er⟩)):=by
 obtain⟨i0,hi,hz0,hz1,hz2⟩:=info_parts zeh;have hub:=(hm.below.block bj hb.lt).trans hb.url;have y0:=hm.y0;have y1:=hm.y1;have p7:=hm.v7;have b7:w.cell? ⟨bj,7,none⟩=some bpv:=z00 hub 7;have hkj:=hm.ne;have hjk:j≠k:=fun e=>hm.ne e.symm;have hbjj:bj≠j:=by have:=hb.lt;have:=hm.bj;omega
 have hbjk:bj≠k:=by have:=hb.lt;have:=hm.bk;omega
 have HOWN:Hid _:=(hm.owned ho).drew;have HROW:Hid _:=hb.rowAt hm.below.drew hob;obtain⟨sp,cap,hpv,_,_,_⟩:=z1t (hm.owned ho);obtain⟨bsp,bcap,hbpv⟩:∃sp cap,bpv=.slice sp b.way.segs.length cap:=by
  rcases hb.row with⟨_,_,_,sp,cap,h,_⟩|⟨h2,_⟩
  ·exact⟨sp,cap,h⟩
  ·rw[hob] at h2;cases h2
 have HRZ:Hid (R≤w.drew.heap.size):=hm.rz;have HAFT:Hid (∀sp' cap' w5,w5.ownsRow R 9 1 (.slice sp' (u.way.segs.length+b.way.segs.length) cap') (u.way.segs.length+b.way.segs.length) (z1J u.way.segs++z1J b.way.segs)→w.drew.grownBy w5 pv.ownBlock→w5.cell? ⟨k,0,none⟩=some (.pointer (some ⟨j,0,none⟩))∧w5.cell? ⟨bj,7,none⟩=some bpv∧w5.cell? ⟨j,7,none⟩=some pv∧w5.frozen? ⟨j,7,none⟩=false∧Hid (Mem B R k j (.pointer (some ⟨bj,0,none⟩)) s w0 {u with way:=⟨false,[],u.way.segs++b.way.segs⟩} (.slice sp' (u.way.segs.length+b.way.segs.length) cap') (a:Nat) (st:Nat) er (w5.setCell ⟨j,7,none⟩ (.slice sp' (u.way.segs.length+b.way.segs.length) cap')))):=by
  intro sp' cap' w5 h5 hg;obtain⟨f1,f2,f3⟩:=hm.drew.far ho hg;refine⟨z00 f1 0,?_,z00 f2 7,z04 f2 7,hm.drew.grown ho hg (u.way.segs++b.way.segs) _ ?_⟩
  ·have:=(f3.block bj hb.lt).trans hb.url
   exact z00 this 7
  ·rw[List.length_append,z4S]
   exact h5
 have HON:Hid (∀x∈z1J b.way.segs,x.oneCell'=true):=zlW _;have HB63:Hid (u.way.segs.length+b.way.segs.length≤maxLen):=by unfold maxLen;show _≤_;omega
 have HBB:Hid ((u.way.segs.length+b.way.segs.length)*16≤140737488355328):=by show _≤_;omega
 have HURL:Hid (∀w5,Below B w0 w5→w5.heap[bj]?=some (.cells (z1w b bpv) 116 (0,0))):=fun w5 h=>(h.block bj hb.lt).trans hb.url;clear hm hb hub hn;rw[hpv] at p7 HOWN HAFT;rw[hbpv] at b7 HROW HAFT;go_enter func219,ntmps219;go_upto_region 1 with fail;go_cut [] (fun wx=>∃pv',Mem B R k j (.pointer (some ⟨bj,0,none⟩)) s w0 {u with way:=⟨false,[],u.way.segs++b.way.segs⟩} pv' (a:Nat) (st:Nat) er wx)
 case first=>
  go_region_law ((refine z2o _ rfl (.tmp 17) (.tmp 21) 28 rfl R 9 i0 (.string ⟨#[]⟩) 16 underlying28 hi hz0 hz1 hz2 rfl (.slice sp u.way.segs.length cap) _ _ (by simp[Act.eval]) HOWN (.slice bsp b.way.segs.length bcap) _ _ (by simp[Act.eval]) HROW HON HB63 HBB HRZ ?_;intro sp5 cap5 w5 hown5 hgrow5;obtain⟨z0,z1,z2,z3,z4⟩:=HAFT sp5 cap5 w5 hown5 hgrow5;clear hown5 hgrow5));all_goals(go_wp2_with fail;go_meet)
  all_goals exact⟨_,z4.out⟩
 case rest=>
  obtain⟨pv',hmc⟩:=hcut;have HURL2:Hid _:=HURL wc hmc.below;have z0:=hmc.y0;have z4:=hmc.y4;have x4:=hmc.f 4;have z8:wc.cell? ⟨j,8,none⟩=some (.bool u.query.isSome):=z00 hmc.url 8;have z9:wc.cell? ⟨j,9,none⟩=some (.string ⟨(u.query.getD []).toArray⟩):=z00 hmc.url 9;have x8:=hmc.g 8;have x9:=hmc.g 9;have b8:wc.cell? ⟨bj,8,none⟩=some (.bool b.query.isSome):=z00 HURL2 8;have b9:wc.cell? ⟨bj,9,none⟩=some (.string ⟨(b.query.getD []).toArray⟩):=z00 HURL2 9;have HC:Hid _:=zgL k a s wc (z00 hmc.mach 2) (z00 hmc.mach 3) (by omega);have HMK:Hid (∀(u2:Adr) W,Mem B R k j (.pointer (some ⟨bj,0,none⟩)) s w0 u2 pv' (a:Nat) (st:Nat) er W→CQ 184 #[.pointer (some ⟨k,0,none⟩)] W (.tuple #[]) (z3u B R k j (.pointer (some ⟨bj,0,none⟩)) s w0 (z0L ⟨u2,s.data.toList.drop a,st,er⟩))):=by intro u2 W hW;refine(zlU a hW ha hs).mono ?_;rintro e w' ⟨rfl,h2⟩;exact⟨rfl,zmq h2 ha⟩
  have HSH:Hid (∀W,Mem B R k j (.pointer (some ⟨bj,0,none⟩)) s w0 {u with way:=⟨false,[],u.way.segs++b.way.segs⟩} pv' (a:Nat) (st:Nat) er W→Calls prog 224 #[.pointer (some ⟨k,0,none⟩)] W fun e w'=>e=.returned (.tuple #[])∧∃pv2,Mem B R k j (.pointer (some ⟨bj,0,none⟩)) s w0 {u with way:=⟨false,[],z08 u.scheme (u.way.segs++b.way.segs)⟩} pv2 (a:Nat) (st:Nat) er w'):=fun W hW=>zag hW rfl;have HMC:=hI hmc;have HE:Hid _:=zkb b ⟨u,s.data.toList.drop a,st,er⟩;have HQ:Hid _:=zgN b ⟨u,s.data.toList.drop a,st,er⟩;have HO:Hid _:=ziH b ⟨u,s.data.toList.drop a,st,er⟩;clear hmc HAFT HROW HOWN HURL HURL2 y0 y1 p7 b7 hpv hbpv HON HB63 HBB HRZ hi hz0 hz1 hz2;have HR:Hid (∀(c:Mc) (W:World),c.u={u with way:=⟨false,[],z08 u.scheme (u.way.segs++b.way.segs)⟩}→c.r=s.data.toList.drop a→c.st=6→c.err=er→∀pv2,Mem B R k j (.pointer (some ⟨bj,0,none⟩)) s w0 {u with way:=⟨false,[],z08 u.scheme (u.way.segs++b.way.segs)⟩} pv2 (a:Nat) 6 er W→z3u B R k j (.pointer (some ⟨bj,0,none⟩)) s w0 c W):=by intro c W h1 h2 h3 h4 pv2 h5;refine⟨pv2,a,?_,h2.symm,Or.inl ha⟩;rw[h1,h3,h4];exact h5
  obtain⟨ci,hci⟩:=z09 (z1I (s.data.toList.drop a));have HEi:Hid ((ci== -1)=true∨(ci==35)=true→z1y b ⟨u,s.data.toList.drop a,st,er⟩=z0L ⟨{u with way:=⟨false,[],u.way.segs++b.way.segs⟩,query:=b.query},s.data.toList.drop a,st,er⟩):=by rw[hci];exact HE
  have HQi:Hid ((ci== -1)=false→(ci==35)=false→(ci==63)=true→z1y b ⟨u,s.data.toList.drop a,st,er⟩=z0L ⟨{u with way:=⟨false,[],u.way.segs++b.way.segs⟩},s.data.toList.drop a,st,er⟩):=by rw[hci];exact HQ
  have HOi:Hid ((ci== -1)=false→(ci==35)=false→(ci==63)=false→z1y b ⟨u,s.data.toList.drop a,st,er⟩=⟨{u with way:=⟨false,[],z08 u.scheme (u.way.segs++b.way.segs)⟩},s.data.toList.drop a,6,er⟩):=by rw[hci];exact HO
  rw[←hci] at HC;clear HE HQ HO hci;cases h1:(ci== -1) with
  |true=>have HT:Hid _:=HEi (Or.inl h1);clear HEi HQi HOi HSH HR;go_wp2_with fail;refine Calls.mono HC ?_;rintro e w1 ⟨rfl,n,rfl⟩;go_wp2;go_region;go_wp2;go_region;go_wp2_with fail;refine Calls.mono (HMK _ _ (((HMC.out.drewN n).drew).upd2 (u':={u with way:=⟨false,[],u.way.segs++b.way.segs⟩,query:=b.query}) 8 9 1 _ _ rfl rfl)) ?_;rintro e w2 ⟨rfl,hf⟩;have HF:Hid _:=hf;clear hf;go_wp2;exact bodyPost_end (v:=.tuple #[]) (z05 rfl _ _ _) rfl ⟨rfl,by rw[HT.out];exact HF⟩
  |false=>
   cases h2:(ci==35) with
   |true=>have HT:Hid _:=HEi (Or.inr h2);clear HEi HQi HOi HSH HR;go_wp2_with fail;refine Calls.mono HC ?_;rintro e w1 ⟨rfl,n,rfl⟩;go_wp2;go_region;go_wp2;go_region;go_wp2_with fail;refine Calls.mono (HMK _ _ (((HMC.out.drewN n).drew).upd2 (u':={u with way:=⟨false,[],u.way.segs++b.way.segs⟩,query:=b.query}) 8 9 1 _ _ rfl rfl)) ?_;rintro e w2 ⟨rfl,hf⟩;have HF:Hid _:=hf;clear hf;go_wp2;exact bodyPost_end (v:=.tuple #[]) (z05 rfl _ _ _) rfl ⟨rfl,by rw[HT.out];exact HF⟩
   |false=>
    cases h3:(ci==63) with
    |true=>have HT:Hid _:=HQi h1 h2 h3;clear HEi HQi HOi HSH HR;go_wp2_with fail;refine Calls.mono HC ?_;rintro e w1 ⟨rfl,n,rfl⟩;go_wp2_with fail;refine Calls.mono (HMK _ _ (HMC.out.drewN n)) ?_;rintro e w2 ⟨rfl,hf⟩;have HF:Hid _:=hf;clear hf;go_wp2;exact bodyPost_end (v:=.tuple #[]) (z05 rfl _ _ _) rfl ⟨rfl,by rw[HT.out];exact HF⟩
    |false=>have HT:Hid _:=HOi h1 h2 h3;clear HEi HQi HOi HMK;go_wp2_with fail;refine Calls.mono HC ?_;rintro e w1 ⟨rfl,n,rfl⟩;go_wp2_with fail;refine Calls.mono (HSH _ (HMC.out.drewN n)) ?_;rintro e w2 ⟨rfl,pv2,hf⟩;have HF:Hid _:=hf;have t4:=hf.y4;have t5:=hf.f 4;clear hf;go_wp2;exact bodyPost_end (v:=.tuple #[]) (z05 rfl _ _ _) rfl ⟨rfl,by rw[HT.out];exact HR _ _ rfl rfl rfl rfl _ (HF.out.set_st 6)⟩
end Go.Proofs
