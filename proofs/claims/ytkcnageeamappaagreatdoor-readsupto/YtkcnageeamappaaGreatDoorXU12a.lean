import Derived.Test.YtkcnageeamappaaGreatDoorXU12z
set_option maxHeartbeats 32000000
set_option maxRecDepth 8000
namespace Go.Proofs
open Go.RowKit Go.Moor Go.Proofs.Tryz
theorem z96 {B R k j:Nat} {bv:Value} {s:ByteArray} {w0:World} {u:Adr} {pv:Value} (a:Nat) {w:World} (hm:Mem B R k j bv s w0 u pv (a:Nat) 6 0 w) (ho:u.way.opaq=false) (ha:a≤s.size) (hs:s.size≤1000000) (hn:u.way.segs.length≤1000000) (hd0:z1V (z1i u.scheme (s.data.toList.drop a))=0) (hf:u.scheme=sFile) (hsg:u.way.segs=[]) (hdr:z0h (z1i u.scheme (s.data.toList.drop a))=true):CQ 181 #[.pointer (some ⟨k,0,none⟩)] w (.tuple #[]) (z3u B R k j bv s w0 (z2q ⟨u,s.data.toList.drop a,6,0⟩)):=by
 obtain⟨i0,hi,hz0,hz1,hz2⟩:=info_parts zeh;obtain⟨l,hl⟩:=z09 s.data.toList;have hlen:l.length=s.size:=by rw[hl,Array.length_toList];rfl
 have HUN:Hid _:=zcj a hm ha (by omega);obtain⟨p,hp⟩:=z09 (z1i u.scheme (s.data.toList.drop a));have hpl:p.length≤1000000:=by
  have h1:=z5v u.scheme (s.data.toList.drop a);have h2:(s.data.toList.drop a).length≤s.size:=by rw[List.length_drop,Array.length_toList];exact Nat.sub_le _ _
  rw[←hp] at h1;omega
 have HSL:=hI (sSL hm hs);have HDO:=hI fun W=>znz p W (by omega);have HDR:=hI fun W=>z7E p W;have HES:=hI fun W=>zb3 ⟨p.toArray⟩ 4 W (by rw[z07];omega);have HSH:=hI (sSH hm ho);have HMD:=hI (sMD hm hs);rw[←hp] at HUN hd0 hdr;have hwl:=z2F u.scheme u.way.segs;have HP:=hI hp;have HFT:=hI (sFT hp);have HFF:=hI (sFF hp);have HM:=hI hm;clear hm hl hlen hp;go_enter func181,ntmps181;go_wp2_with fail;refine Calls.mono HUN ?_;rintro e w1 ⟨b,hab,hb,rfl,hbe,hm1⟩;have HM1:=hI hm1;have HBE:=hI hbe;clear hm1 hbe HUN HM;go_wp2_with fail;refine Calls.mono (HSL b w1 hb HM1) ?_;rintro e w2 ⟨rfl,n,rfl⟩;obtain⟨more,hmore⟩:=z09 (z0o (z06 u.scheme) (s.data.toList.drop b));rw[←hmore];have HMORE:=hI hmore;clear hmore;go_wp2_with fail;refine Calls.mono (HDO _) ?_;rintro e w2 ⟨rfl,hw2⟩;obtain rfl:=hw2.symm;go_wp2_with fail;refine Calls.mono (HDR _) ?_;rintro e w2 ⟨rfl,hw2⟩;obtain rfl:=hw2.symm;obtain⟨W,hW⟩:=z09 (w1.drewN n);have HM2:Hid (Mem B R k j bv s w0 u pv (b:Nat) 6 0 W):=by rw[hW];exact HM1.out.drewN n
 rw[←hW];clear hW HM1 HSL HDO HDR;have hm2:=HM2;obtain⟨sp,cap,hpv,_,_,_⟩:=z1t (hm2.owned ho);have y0:=hm2.y0;have y3:=hm2.y3;have f3:=hm2.f 3;have c0:=hm2.v0;have c7:=hm2.v7;have d7:=hm2.g 7;have hkj:=hm2.ne;have hjk:j≠k:=fun e=>hm2.ne e.symm;have hkz:=hm2.kz;have hjz:=hm2.jz;clear hm2;subst hpv;rw[hdr];have HDRV:=hI hdr;have hp2:1≤p.length:=by
  match p,hdr with
  | [x,y],_=>simp
 obtain⟨pb,hpb⟩:=z09 (⟨p.toArray⟩:ByteArray);have hx:pb.extract 0 1=⟨(p.take 1).toArray⟩:=by rw[hpb];exact z1Z _ 0 1
 have hps:(1:Int)≤(pb.size:Int):=by rw[hpb,z07];omega
 rw[←hpb] at HES;have HPB:=hI hpb;rw[←hpb];clear hpb hdr;go_upto_block 0 with fail;go_cut [] (fun wx=>∃pv5,Mem B R k j bv s w0 {u with way:=⟨false,[],z1E u.scheme u.way.segs p more⟩} pv5 (b:Nat) 6 0 wx)
 case first=>
  have e1:((⟨u.scheme.toArray⟩:ByteArray).toList==[102,105,108,101])=true:=z4t u.scheme _ hf;generalize(⟨u.scheme.toArray⟩:ByteArray)=scb at c0 e1;have hzb:((u.way.segs.length:Int)==0)=true:=by rw[hsg];rfl
  obtain⟨dx,hdx⟩:=z09 (p.take 1++ [58]:Bs);have HSN:Hid (z1E u.scheme u.way.segs p more=u.way.segs++ [dx]):=by rw[hf,hdx];exact ze5 u.way.segs p more hd0 hsg HDRV
  have hadd:∀V:World,(Op.stringOp .add ⟨(p.take 1).toArray⟩ ⟨#[58]⟩).run prog V=.ok (.string ⟨dx.toArray⟩) V:=fun V=>by
   rw[run_string_add_sum V _ _ (by rw[z07,List.length_take];show _+1≤_;omega),hdx];exact congrArg (fun z=>Result.ok (Value.string z) V) (z0G (p.take 1) [58])
  have HPU:Hid _:=fun sp5 cap5 w5 h5 hg5=>HM2.out.push ho dx sp5 cap5 w5 h5 hg5;obtain⟨hlo,hlr,hlz⟩:=HM2.out.lay ho dx;have HLO:Hid _:=hlo;have HLR:Hid _:=hlr;have HLZ:Hid _:=hlz;have HL1:Hid _:=z6j dx;have HL63:Hid (u.way.segs.length+1≤maxLen):=by unfold maxLen;show _≤_;omega
  have HLB:Hid ((u.way.segs.length+1)*16≤140737488355328):=by show _≤_;omega
  clear hlo hlr hlz;clear HSH HES hf hsg HM2 HP hdx;go_wp2;go_region_law ((refine z2o _ rfl (.tmp 95) (.tmp 99) 28 rfl R 9 i0 (.string ⟨#[]⟩) 16 underlying28 hi hz0 hz1 hz2 rfl _ _ _ (by simp[Act.eval]) HLO _ 1 [.string ⟨dx.toArray⟩] (by simp[Act.eval]) HLR HL1 HL63 HLB HLZ ?_;intro sp5 cap5 w5 hown5 hgrow5;obtain⟨z0,z7,g7,z3,g3,HF⟩:=HPU sp5 cap5 w5 hown5 hgrow5;clear hown5 hgrow5));all_goals(go_wp2_with fail;go_meet)
  all_goals exact⟨_,by rw[HSN.out];exact HF⟩
 case rest=>
  obtain⟨pv5,hm5⟩:=hcut;have HF:Hid _:=hm5;have z3:=hm5.y3;have g3:=hm5.f 3;clear hm5 HES HSH y0 y3 f3 c0 c7 d7;cases more with
  |true=>have HT:Hid _:=HFT b HBE HMORE.out.symm;have HLT:Hid _:=z4h _ s b HMORE.out.symm;go_wp2;exact bodyPost_end (v:=.tuple #[]) (z05 rfl _ _ _) rfl ⟨rfl,by rw[HT.out];exact z1S (a:=b+1) (HF.out.set_a _) HLT _ rfl⟩
  |false=>have HT:Hid _:=HFF b HBE HMORE.out.symm;go_wp2_with fail;refine Calls.mono (HMD b _ _ _ hb HF) ?_;rintro e w9 ⟨rfl,hf9⟩;have HF9:Hid _:=hf9;clear hf9;go_wp2;exact bodyPost_end (v:=.tuple #[]) (z05 rfl _ _ _) rfl ⟨rfl,by rw[HT.out];exact HF9⟩
theorem z97 {B R k j:Nat} {bv:Value} {s:ByteArray} {w0:World} {u:Adr} {pv:Value} (a:Nat) {w:World} (hm:Mem B R k j bv s w0 u pv (a:Nat) 6 0 w) (ho:u.way.opaq=false) (ha:a≤s.size) (hs:s.size≤1000000) (hn:u.way.segs.length≤1000000) (hd0:z1V (z1i u.scheme (s.data.toList.drop a))=0) (hf:u.scheme=sFile) (hsg:¬u.way.segs=[]):CQ 181 #[.pointer (some ⟨k,0,none⟩)] w (.tuple #[]) (z3u B R k j bv s w0 (z2q ⟨u,s.data.toList.drop a,6,0⟩)):=by
 obtain⟨i0,hi,hz0,hz1,hz2⟩:=info_parts zeh;obtain⟨l,hl⟩:=z09 s.data.toList;have hlen:l.length=s.size:=by rw[hl,Array.length_toList];rfl
 have HUN:Hid _:=zcj a hm ha (by omega);obtain⟨p,hp⟩:=z09 (z1i u.scheme (s.data.toList.drop a));have hpl:p.length≤1000000:=by
  have h1:=z5v u.scheme (s.data.toList.drop a);have h2:(s.data.toList.drop a).length≤s.size:=by rw[List.length_drop,Array.length_toList];exact Nat.sub_le _ _
  rw[←hp] at h1;omega
 have HSL:=hI (sSL hm hs);have HDO:=hI fun W=>znz p W (by omega);have HDR:=hI fun W=>z7E p W;have HES:Hid (∀W,CB 40 #[.string ⟨p.toArray⟩,.int .i64 4] W (.string ⟨(esc 4 p).toArray⟩)):=fun W=>zb3 ⟨p.toArray⟩ 4 W (by rw[z07];omega);have HSH:=hI (sSH hm ho);have HMD:=hI (sMD hm hs);rw[←hp] at HUN hd0;have hwl:=z2F u.scheme u.way.segs;have HP:=hI hp;have HFT:=hI (sFT hp);have HFF:=hI (sFF hp);have HM:=hI hm;clear hm hl hlen hp;go_enter func181,ntmps181;go_wp2_with fail;refine Calls.mono HUN.out ?_;rintro e w1 ⟨b,hab,hb,rfl,hbe,hm1⟩;have HM1:=hI hm1;have HBE:=hI hbe;clear hm1 hbe HUN HM;go_wp2_with fail;refine Calls.mono (HSL.out b w1 hb HM1.out) ?_;rintro e w2 ⟨rfl,n,rfl⟩;obtain⟨more,hmore⟩:=z09 (z0o (z06 u.scheme) (s.data.toList.drop b));rw[←hmore];have HMORE:=hI hmore;clear hmore;go_wp2_with fail;refine Calls.mono (HDO.out _) ?_;rintro e w2 ⟨rfl,hw2⟩;obtain rfl:=hw2.symm;go_wp2_with fail;refine Calls.mono (HDR.out _) ?_;rintro e w2 ⟨rfl,hw2⟩;obtain rfl:=hw2.symm;obtain⟨W,hW⟩:=z09 (w1.drewN n);have HM2:Hid (Mem B R k j bv s w0 u pv (b:Nat) 6 0 W):=by rw[hW];exact HM1.out.drewN n
 rw[←hW];clear hW HM1 HSL HDO HDR;have hm2:=HM2.out;obtain⟨sp,cap,hpv,_,_,_⟩:=z1t (hm2.owned ho);have y0:=hm2.y0;have y3:=hm2.y3;have f3:=hm2.f 3;have c0:=hm2.v0;have c7:=hm2.v7;have d7:=hm2.g 7;have hkj:=hm2.ne;have hjk:j≠k:=fun e=>hm2.ne e.symm;have hkz:=hm2.kz;have hjz:=hm2.jz;clear hm2;subst hpv;go_upto_block 0 with fail;go_cut [] (fun wx=>∃pv5,Mem B R k j bv s w0 {u with way:=⟨false,[],z1E u.scheme u.way.segs p more⟩} pv5 (b:Nat) 6 0 wx)
 case first=>
  have e1:((⟨u.scheme.toArray⟩:ByteArray).toList==[102,105,108,101])=true:=z4t u.scheme _ hf;generalize(⟨u.scheme.toArray⟩:ByteArray)=scb at c0 e1;have HZ:Hid (¬u.way.segs.length=0):=fun h=>hsg (List.length_eq_zero_iff.1 h);have hzb:((u.way.segs.length:Int)==0)=false:=by rw[beq_eq_false_iff_ne];have:=HZ.out;omega
  have hzc:(u.way.segs.length==0)=false:=by rw[beq_eq_false_iff_ne];exact HZ.out
  have HSN:Hid _:=z7W u.scheme u.way.segs p more hd0 (fun h=>hsg h.1);clear HSH hf hsg;go_wp2_with fail;refine Calls.mono (HES.out _) ?_;rintro e w3 ⟨rfl,hb3⟩;have hm3:=HM2.out.off hb3;have y0:=hm3.y0;have c7:=hm3.v7;have d7:=hm3.g 7;have hkz3:=hm3.kz;have hjz3:=hm3.jz;have HPU:Hid _:=fun sp5 cap5 w5 h5 hg5=>hm3.push ho (esc 4 p) sp5 cap5 w5 h5 hg5;obtain⟨hlo,hlr,hlz⟩:=hm3.lay ho (esc 4 p);have HLO:Hid _:=hlo;have HLR:Hid _:=hlr;have HLZ:Hid _:=hlz;have HL1:Hid _:=z6j (esc 4 p);have HL63:Hid (u.way.segs.length+1≤maxLen):=by unfold maxLen;show _≤_;omega
  have HLB:Hid ((u.way.segs.length+1)*16≤140737488355328):=by show _≤_;omega
  clear hlo hlr hlz;clear hm3 hb3;go_wp2;go_region_law ((refine z2o _ rfl (.tmp 31) (.tmp 33) 28 rfl R 9 i0 (.string ⟨#[]⟩) 16 underlying28 hi hz0 hz1 hz2 rfl _ _ _ (by simp[Act.eval]) HLO.out _ 1 [.string ⟨(esc 4 p).toArray⟩] (by simp[Act.eval]) HLR.out HL1.out HL63.out HLB.out HLZ.out ?_;intro sp5 cap5 w5 hown5 hgrow5;obtain⟨z0,z7,g7,z3,g3,HF⟩:=HPU.out sp5 cap5 w5 hown5 hgrow5;clear hown5 hgrow5));all_goals(go_wp2_with fail;go_meet)
  all_goals exact⟨_,by rw[HSN.out];exact HF.out⟩
 case rest=>
  obtain⟨pv5,hm5⟩:=hcut;have HF:Hid _:=hm5;have z3:=hm5.y3;have g3:=hm5.f 3;clear hm5 HES HSH y0 y3 f3 c0 c7 d7;cases more with
  |true=>have HT:Hid _:=HFT.out b HBE.out HMORE.out.symm;have HLT:Hid _:=z4h _ s b HMORE.out.symm;go_wp2;exact bodyPost_end (v:=.tuple #[]) (z05 rfl _ _ _) rfl ⟨rfl,by rw[HT.out];exact z1S (a:=b+1) (HF.out.set_a _) HLT.out _ rfl⟩
  |false=>have HT:Hid _:=HFF.out b HBE.out HMORE.out.symm;go_wp2_with fail;refine Calls.mono (HMD.out b _ _ _ hb HF.out) ?_;rintro e w9 ⟨rfl,hf9⟩;have HF9:Hid _:=hf9;clear hf9;go_wp2;exact bodyPost_end (v:=.tuple #[]) (z05 rfl _ _ _) rfl ⟨rfl,by rw[HT.out];exact HF9.out⟩
end Go.Proofs
