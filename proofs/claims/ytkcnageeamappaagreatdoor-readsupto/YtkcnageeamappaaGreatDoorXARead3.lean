import Derived.Test.YtkcnageeamappaaGreatDoorXAOpq
set_option maxHeartbeats 32000000
set_option maxRecDepth 8000
namespace Go.Proofs
open Go.RowKit Go.Moor Go.Proofs.Tryz
theorem z6n (c:Cuts) (ob:Option Adr):z3o hostTell c ob=if c.scheme≠[] then z1p hostTell c.scheme c.middle c.query c.frag (z4O c.scheme ob) else match ob with|none=>.error 3|some b=>if b.way.opaq then besideOpaque c b else z1p hostTell b.scheme c.middle c.query c.frag (some b):=rfl
theorem zcs (B:Nat) (w:World) (hB:w.heap.size≤B) (res:Except Int Adr) (e:Ending) (w2:World) (h:z2e res e w2∧Below w.heap.size w w2∧w2.heap[B]?=some (.cells z03 77 (0,0))):∃cs v,e=.returned (.tuple #[.agg cs,v])∧Hid (w2.heap[B]?=some (.cells z03 77 (0,0)))∧Hid ((Tryz.prog.info? 77).map (·.size)=some cs.size)∧Hid (z03.size=cs.size)∧Hid (cs.all (·.oneCell')=true)∧Hid (z2e res (.returned (.tuple #[.agg cs,v])) (w2.setRow B cs)∧Below w.heap.size w (w2.setRow B cs)):=by obtain⟨h1,h3,h4⟩:=h;obtain⟨cs,v,rfl,h5,h6⟩:=z5E h1;exact⟨cs,v,rfl,h4,(by show _=_;rw[h5];exact z1n),(by show _=_;rw[h5];rfl),h6,z4P h1 _ _ cs h4,below_setRow h3 hB _⟩
theorem zgP (cs:Array Value) (h:cs.size=13) (h1:cs.all (·.oneCell')=true):∃c0 c1 c2 c3 c4 c5 c6 c7 c8 c9 c10 c11 c12,cs=#[c0,c1,c2,c3,c4,c5,c6,c7,c8,c9,c10,c11,c12]∧c0.oneCell'=true∧c1.oneCell'=true∧c2.oneCell'=true∧c3.oneCell'=true∧c4.oneCell'=true∧c5.oneCell'=true∧c6.oneCell'=true∧c7.oneCell'=true∧c8.oneCell'=true∧c9.oneCell'=true∧c10.oneCell'=true∧c11.oneCell'=true∧c12.oneCell'=true:=by
 obtain⟨l⟩:=cs;match l,h with
 | [c0,c1,c2,c3,c4,c5,c6,c7,c8,c9,c10,c11,c12],_=>simp at h1;exact⟨c0,c1,c2,c3,c4,c5,c6,c7,c8,c9,c10,c11,c12,rfl,h1⟩
theorem zoR (w:World) (g:Nat) (a0 a1 a2 a3 a4 a5 a6 a7 a8 a9 a10 a11 a12:Value):But g w (((((((((((((w.setCell ⟨g,0,none⟩ a0).setCell ⟨g,1,none⟩ a1).setCell ⟨g,2,none⟩ a2).setCell ⟨g,3,none⟩ a3).setCell ⟨g,4,none⟩ a4).setCell ⟨g,5,none⟩ a5).setCell ⟨g,6,none⟩ a6).setCell ⟨g,7,none⟩ a7).setCell ⟨g,8,none⟩ a8).setCell ⟨g,9,none⟩ a9).setCell ⟨g,10,none⟩ a10).setCell ⟨g,11,none⟩ a11).setCell ⟨g,12,none⟩ a12):=
 (((((((((((((But.of_below (Below.refl w.heap.size w)).setCell 0 a0).setCell 1 a1).setCell 2 a2).setCell 3 a3).setCell 4 a4).setCell 5 a5).setCell 6 a6).setCell 7 a7).setCell 8 a8).setCell 9 a9).setCell 10 a10).setCell 11 a11).setCell 12 a12
theorem zbu {o:Except Int Adr} {e:Ending} {w' w2:World} (h:z2e o e w') (g:Nat) (old:Array Value) (hg:w'.heap[g]?=some (.cells old 77 (0,0))) (hb:But g w' w2):z2e o e w2:=by
 cases o with
 |error n=>exact h
 |ok a=>obtain⟨v,rfl,hs⟩:=h;exact⟨v,rfl,z3x hs hb (z5C hs.2 hg (by decide))⟩
theorem zdF (c:Cuts) (ob:Option Adr) (bp:Option Go.Addr) (w:World) (hm:c.middle.length≤100000) (hq:(c.query.getD []).length≤100000) (hf:(c.frag.getD []).length≤100000) (hbase:Tryz.BaseAt w bp ob) (henv:Tryz.Env2 w):Calls Tryz.prog 95 #[.agg (z0s c),.pointer bp] w fun e w'=>z2e (z3o hostTell c ob) e w'∧Below w.heap.size w w':=by
 obtain⟨W,hW⟩:=z09 ((w.alloc (.cells (z0s c) 137)).alloc (.cells z03 77));have hBW:Below w.heap.size w W:=by rw[hW];exact((Below.refl _ _).alloc (Nat.le_refl _) _).alloc (by simp) _
 have HBW:=hI hBW;have hsize:W.heap.size=w.heap.size+2:=by rw[hW];simp
 have h2:=z5G w (.cells (z0s c) 137) (.cells z03 77);rw[←hW] at h2;have HMK:=hI h2.1;have HZ:Hid (∀w1,Below W.heap.size W w1→w1.heap[w.heap.size+1]?=some (.cells z03 77 (0,0))∧Below w.heap.size w w1):=fun w1 h1=>⟨(h1.block _ (by omega)).trans h2.2,HBW.out.trans (h1.mono (by omega))⟩;have HSM:Hid ((Tryz.prog.info? 137).map (·.size)=some (z0s c).size):=z66;have d0:W.cell? ⟨w.heap.size,0,none⟩=some (.string ⟨c.scheme.toArray⟩):=z00 h2.1 0;have HV:=hI (henv.below hBW);have HBA:=hI (hbase.below hBW);have HFIN:=hI fun res e w2 h=>zcs (w.heap.size+1) w (Nat.le_succ _) res e w2 h;by_cases hs:c.scheme=[]
 ·have e0:=z3B
  rw[hs] at d0;cases ob with
  |none=>have hbp:bp=none:=hbase;subst hbp;have HE:Hid (z3o hostTell c none=.error 3):=(by show _=_;rw[z6n,if_neg (by simp[hs])]);obtain⟨te,ve,hee⟩:=HV.out.eBase;have HN:=hI h2.2;generalize z0s c=CC at*;clear hm hq hf hbase henv hBW h2 hs hsize HBA;go_enter Tryz.func95,Tryz.ntmps95;go_upto_region 1 with fail;unfold z03 at hW;rw[←hW];clear hW;go_wp2_with fail;refine(z5F te ve W).mono ?_;rintro e w2 ⟨rfl,hw2⟩;obtain rfl:=hw2.symm;go_wp2_with(refine wpList_store_row rfl 77 _ _ rfl (w.heap.size+1) z03 rfl rfl 77 z03 HN.out z1n rfl z3C ?_);(try simp only[Exit.inBlock,Exit.then]);have hld:=run_loadVar_row (P:=Tryz.prog) (W.setRow (w.heap.size+1) z03) (w.heap.size+1) 77 77 z03 (0,0) _ (setRow_heap W (w.heap.size+1) z03 z03 77 (0,0) HN.out) Tryz.underlying77 rfl z1n;rw[HE.out];refine bodyPost_ret (v:=.tuple #[.agg z03,.iface 96 (.agg #[.int .i64 3,.string ⟨#[115,99,104,101,109,101]⟩,.string ⟨#[]⟩,.iface te ve])]) ?_ rfl ⟨⟨_,_,_,_,_,rfl,rfl,z3C⟩,below_setRow HBW.out (by omega) _⟩;rw[results_cell_tmp rfl];simp[asAddr,Result.andThen,hld]
  |some b=>
   obtain⟨kb,bv,rfl,hkb,hsr,hbl,hbx⟩:=HBA.out;have HKB:=hI hkb;have hkz:kb<w.heap.size:=by obtain⟨kb2,bv2,he,h3,_⟩:=hbase;injection he with he;injection he with he _;subst he;exact(Array.getElem?_eq_some_iff.1 h3).1
   have k6:W.cell? ⟨kb,6,none⟩=some (.bool b.way.opaq):=z00 hkb 6;have k0:W.cell? ⟨kb,0,none⟩=some (.string ⟨b.scheme.toArray⟩):=z00 hkb 0;cases ho:b.way.opaq with
   |true=>
    have HE:Hid (z3o hostTell c (some b)=besideOpaque c b):=(by show _=_;rw[z6n,if_neg (by simp[hs])];simp only[ho,if_true]);have HRO:Hid (∀w1,Below W.heap.size W w1→Calls Tryz.prog 156 #[.agg (z0s c),.agg (z0f b bv)] w1 fun e w'=>z2e (besideOpaque c b) e w'∧Below w.heap.size w w'∧w'.heap[w.heap.size+1]?=some (.cells z03 77 (0,0))):=(by intro w1 h1;refine(z6H c b bv w1 hf (z19 hsr h1) (HV.out.below h1)).mono ?_;rintro e w' ⟨hr,hb'⟩;have h3:=h1.trans (hb'.mono h1.size);exact⟨hr,(HZ.out w' h3).2,(HZ.out w' h3).1⟩);rw[ho] at k6;have hAC:∃x0 x1 x2 x3 x4 x5 x7 x8 x9 x10 x11 x12,z0f b bv=#[x0,x1,x2,x3,x4,x5,.bool true,x7,x8,x9,x10,x11,x12]:=⟨_,_,_,_,_,_,_,_,_,_,_,_,by rw[←ho];rfl⟩;obtain⟨x0,x1,x2,x3,x4,x5,x7,x8,x9,x10,x11,x12,hAC⟩:=hAC;rw[hAC] at HRO hkb;have hCC:∃z1 z2 z3 z4 z5,z0s c=#[.string ⟨#[]⟩,z1,z2,z3,z4,z5]:=⟨_,_,_,_,_,by unfold z0s;rw[hs]⟩;obtain⟨z1,z2,z3,z4,z5,hCC⟩:=hCC;rw[hCC] at HRO hW;rw[hCC] at h2;have m1:W.cell? ⟨w.heap.size,1,none⟩=some z1:=z00 h2.1 1;have m2:W.cell? ⟨w.heap.size,2,none⟩=some z2:=z00 h2.1 2;have m3:W.cell? ⟨w.heap.size,3,none⟩=some z3:=z00 h2.1 3;have m4:W.cell? ⟨w.heap.size,4,none⟩=some z4:=z00 h2.1 4;have m5:W.cell? ⟨w.heap.size,5,none⟩=some z5:=z00 h2.1 5;have y0:W.cell? ⟨kb,0,none⟩=some x0:=z00 hkb 0;have y1:W.cell? ⟨kb,1,none⟩=some x1:=z00 hkb 1;have y2:W.cell? ⟨kb,2,none⟩=some x2:=z00 hkb 2;have y3:W.cell? ⟨kb,3,none⟩=some x3:=z00 hkb 3;have y4:W.cell? ⟨kb,4,none⟩=some x4:=z00 hkb 4;have y5:W.cell? ⟨kb,5,none⟩=some x5:=z00 hkb 5;have y7:W.cell? ⟨kb,7,none⟩=some x7:=z00 hkb 7;have y8:W.cell? ⟨kb,8,none⟩=some x8:=z00 hkb 8;have y9:W.cell? ⟨kb,9,none⟩=some x9:=z00 hkb 9;have y10:W.cell? ⟨kb,10,none⟩=some x10:=z00 hkb 10;have y11:W.cell? ⟨kb,11,none⟩=some x11:=z00 hkb 11;have y12:W.cell? ⟨kb,12,none⟩=some x12:=z00 hkb 12;rw[hCC];clear hm hq hf hbase henv hBW h2 hs hsize HBA hkb hsr hbl hbx ho hAC hCC k0;go_enter Tryz.func95,Tryz.ntmps95;go_upto_region 1 with fail;unfold z03 at hW;rw[←hW];clear hW;go_wp2_with fail;go_region_with (go_at_call 156;refine Calls.mono (HRO.out _ (by exact z1x rfl rfl rfl rfl)) ?_;intro e w2 hr;obtain⟨cs,v,he,hsz,hone⟩:=z5E hr.1;subst he;obtain⟨c0,c1,c2,c3,c4,c5,c6,c7,c8,c9,c10,c11,c12,rfl,o0,o1,o2,o3,o4,o5,o6,o7,o8,o9,o10,o11,o12⟩:=zgP cs hsz hone;obtain⟨⟨p0,p1,p2,p3,p4,p5,p6,p7,p8,p9,p10,p11,p12⟩,r0,r1,r2,r3,r4,r5,r6,r7,r8,r9,r10,r11,r12⟩:=z83 hr.2.2;have HR:=hI hr;have q0:∀(W:World) (a:Go.Addr) (m:Mode),(store a c0 m).run Tryz.prog W=stored Tryz.prog W a c0 m:=fun W a m=>run_store Tryz.prog W a c0 m o0;have q1:∀(W:World) (a:Go.Addr) (m:Mode),(store a c1 m).run Tryz.prog W=stored Tryz.prog W a c1 m:=fun W a m=>run_store Tryz.prog W a c1 m o1;have q2:∀(W:World) (a:Go.Addr) (m:Mode),(store a c2 m).run Tryz.prog W=stored Tryz.prog W a c2 m:=fun W a m=>run_store Tryz.prog W a c2 m o2;have q3:∀(W:World) (a:Go.Addr) (m:Mode),(store a c3 m).run Tryz.prog W=stored Tryz.prog W a c3 m:=fun W a m=>run_store Tryz.prog W a c3 m o3;have q4:∀(W:World) (a:Go.Addr) (m:Mode),(store a c4 m).run Tryz.prog W=stored Tryz.prog W a c4 m:=fun W a m=>run_store Tryz.prog W a c4 m o4;have q5:∀(W:World) (a:Go.Addr) (m:Mode),(store a c5 m).run Tryz.prog W=stored Tryz.prog W a c5 m:=fun W a m=>run_store Tryz.prog W a c5 m o5;have q6:∀(W:World) (a:Go.Addr) (m:Mode),(store a c6 m).run Tryz.prog W=stored Tryz.prog W a c6 m:=fun W a m=>run_store Tryz.prog W a c6 m o6;have q7:∀(W:World) (a:Go.Addr) (m:Mode),(store a c7 m).run Tryz.prog W=stored Tryz.prog W a c7 m:=fun W a m=>run_store Tryz.prog W a c7 m o7;have q8:∀(W:World) (a:Go.Addr) (m:Mode),(store a c8 m).run Tryz.prog W=stored Tryz.prog W a c8 m:=fun W a m=>run_store Tryz.prog W a c8 m o8;have q9:∀(W:World) (a:Go.Addr) (m:Mode),(store a c9 m).run Tryz.prog W=stored Tryz.prog W a c9 m:=fun W a m=>run_store Tryz.prog W a c9 m o9;have q10:∀(W:World) (a:Go.Addr) (m:Mode),(store a c10 m).run Tryz.prog W=stored Tryz.prog W a c10 m:=fun W a m=>run_store Tryz.prog W a c10 m o10;have q11:∀(W:World) (a:Go.Addr) (m:Mode),(store a c11 m).run Tryz.prog W=stored Tryz.prog W a c11 m:=fun W a m=>run_store Tryz.prog W a c11 m o11;have q12:∀(W:World) (a:Go.Addr) (m:Mode),(store a c12 m).run Tryz.prog W=stored Tryz.prog W a c12 m:=fun W a m=>run_store Tryz.prog W a c12 m o12;clear hr hsz hone o0 o1 o2 o3 o4 o5 o6 o7 o8 o9 o10 o11 o12);all_goals
     go_wp2;have hld:=run_loadVar_row (P:=Tryz.prog) _ (w.heap.size+1) 77 77 #[c0,c1,c2,c3,c4,c5,c6,c7,c8,c9,c10,c11,c12] (0,0) _ (z9X HR.out.2.2 c0 c1 c2 c3 c4 c5 c6 c7 c8 c9 c10 c11 c12) Tryz.underlying77 rfl z1n;have hbu:=zoR w2 (w.heap.size+1) c0 c1 c2 c3 c4 c5 c6 c7 c8 c9 c10 c11 c12;rw[HE.out];refine bodyPost_ret (v:=.tuple #[.agg #[c0,c1,c2,c3,c4,c5,c6,c7,c8,c9,c10,c11,c12],v]) ?_ rfl ⟨zbu HR.out.1 _ _ HR.out.2.2 hbu,HR.out.2.1.trans ((hbu.below (by have:=HR.out.2.1.size;have:=(Array.getElem?_eq_some_iff.1 HR.out.2.2).1;omega)).mono (Nat.le_succ _))⟩;rw[results_cell_tmp rfl];simp[asAddr,Result.andThen,hld,Act.put]
   |false=>have HE:Hid (z3o hostTell c (some b)=z1p hostTell b.scheme c.middle c.query c.frag (some b)):=(by show _=_;rw[z6n,if_neg (by simp[hs])];simp only[ho,Bool.false_eq_true,if_false]);obtain⟨V,hV⟩:=z09 (W.setCell ⟨w.heap.size,0,none⟩ (.string ⟨b.scheme.toArray⟩));have hbu:But w.heap.size W V:=(by rw[hV];exact(But.of_below (Below.refl _ _)).setCell 0 _);have hVm:V.heap[w.heap.size]?=some (.cells (z0s ⟨b.scheme,c.middle,c.query,c.frag⟩) 137 (0,0)):=(by rw[hV];exact heap_setCell_same W w.heap.size 0 _ 137 (.string ⟨b.scheme.toArray⟩) h2.1);have hVr:=(hbu.block (w.heap.size+1) (by omega) (by omega)).trans h2.2;have hVB:=HBW.out.trans (hbu.below (by omega));have hVA:=(show Tryz.BaseAt w (some ⟨kb,0,none⟩) (some b) from hbase).below hVB;have HRM:Hid (Calls Tryz.prog 157 #[.agg (z0s ⟨b.scheme,c.middle,c.query,c.frag⟩),.pointer (some ⟨kb,0,none⟩)] V fun e w'=>z2e (z1p hostTell b.scheme c.middle c.query c.frag (some b)) e w'∧Below w.heap.size w w'∧w'.heap[w.heap.size+1]?=some (.cells z03 77 (0,0))):=(by refine(z8Y ⟨b.scheme,c.middle,c.query,c.frag⟩ (some b) (some ⟨kb,0,none⟩) V hm hq hf (fun k hk=>hVA.ok k hk) (henv.below hVB)).mono ?_;rintro e w' ⟨hr,hb'⟩;exact⟨hr,hVB.trans (hb'.mono hVB.size),(hb'.block _ (Array.getElem?_eq_some_iff.1 hVr).1).trans hVr⟩);have HMV:=hI hVm;have HSM2:Hid ((Tryz.prog.info? 137).map (·.size)=some (z0s ⟨b.scheme,c.middle,c.query,c.frag⟩).size):=z66;have HVE:=hI hV;have f0:=z04 h2.1 0;rw[ho] at k6;obtain⟨s,hsd⟩:=z09 (⟨b.scheme.toArray⟩:ByteArray);rw[←hsd] at k0 HVE;generalize z0s c=CC at*;generalize z0s ⟨b.scheme,c.middle,c.query,c.frag⟩=C2 at*;have hkn:kb≠w.heap.size:=(by omega);have hkn2:w.heap.size≠kb:=(by omega);clear hm hq hf hbase henv hBW h2 hs hsize HBA hkb hsr hbl hbx ho hV hbu hVm hVr hVB hVA hsd;go_enter Tryz.func95,Tryz.ntmps95;go_upto_region 1 with fail;unfold z03 at hW;rw[←hW];clear hW;go_upto_region 8 with fail;rw[←HVE.out];clear HVE;go_wp2_with(refine wpList_load_row rfl 137 _ rfl w.heap.size rfl 137 C2 (0,0) _ HMV.out Tryz.underlying137 rfl HSM2.out ?_);refine Calls.mono HRM.out ?_;intro e w2 hr;obtain⟨cs,v,rfl,HN,HZS,HZO,HON,HF⟩:=HFIN.out _ e w2 hr;clear hr;go_wp2_with(refine wpList_store_row rfl 77 _ _ rfl (w.heap.size+1) cs rfl rfl 77 z03 HN.out HZS.out HZO.out HON.out ?_);(try simp only[Exit.inBlock,Exit.then]);have hld:=run_loadVar_row (P:=Tryz.prog) (w2.setRow (w.heap.size+1) cs) (w.heap.size+1) 77 77 cs (0,0) _ (setRow_heap w2 (w.heap.size+1) z03 cs 77 (0,0) HN.out) Tryz.underlying77 rfl HZS.out;rw[HE.out];refine bodyPost_ret (v:=.tuple #[.agg cs,v]) ?_ rfl HF.out;rw[results_cell_tmp rfl];simp[asAddr,Result.andThen,hld]
 ·have HE:Hid (z3o hostTell c ob=z1p hostTell c.scheme c.middle c.query c.frag (z4O c.scheme ob)):=by show _=_;rw[z6n,if_pos hs]
  have e0:=z3Z _ hs;have HRN:Hid (Calls Tryz.prog 154 #[.agg (z0s c),.pointer bp] W fun e w'=>z2e (z1p hostTell c.scheme c.middle c.query c.frag (z4O c.scheme ob)) e w'∧Below w.heap.size w w'∧w'.heap[w.heap.size+1]?=some (.cells z03 77 (0,0))):=by refine(z8r c ob bp W hm hq hf HBA.out HV.out).mono ?_;rintro e w' ⟨hr,hb'⟩;exact⟨hr,(HZ.out w' hb').2,(HZ.out w' hb').1⟩
  obtain⟨s,hsd⟩:=z09 (⟨c.scheme.toArray⟩:ByteArray);rw[←hsd] at d0 e0;generalize z0s c=CC at*;clear hm hq hf hbase henv hBW h2 hs hsize HBA hsd;go_enter Tryz.func95,Tryz.ntmps95;go_upto_region 1 with fail;unfold z03 at hW;rw[←hW];clear hW;go_wp2_with(refine wpList_load_row rfl 137 _ rfl w.heap.size rfl 137 CC (0,0) _ HMK.out Tryz.underlying137 rfl HSM.out ?_);refine Calls.mono HRN.out ?_;intro e w2 hr;obtain⟨cs,v,rfl,HN,HZS,HZO,HON,HF⟩:=HFIN.out _ e w2 hr;clear hr;go_wp2_with(refine wpList_store_row rfl 77 _ _ rfl (w.heap.size+1) cs rfl rfl 77 z03 HN.out HZS.out HZO.out HON.out ?_);(try simp only[Exit.inBlock,Exit.then]);have hld:=run_loadVar_row (P:=Tryz.prog) (w2.setRow (w.heap.size+1) cs) (w.heap.size+1) 77 77 cs (0,0) _ (setRow_heap w2 (w.heap.size+1) z03 cs 77 (0,0) HN.out) Tryz.underlying77 rfl HZS.out;rw[HE.out];refine bodyPost_ret (v:=.tuple #[.agg cs,v]) ?_ rfl HF.out;rw[results_cell_tmp rfl];simp[asAddr,Result.andThen,hld]
end Go.Proofs
namespace Go.Moor
open Go
theorem z9i (t:Bs):(z24 t).length≤t.length:=by unfold z24 z3N;have h1:∀x:Bs,(x.dropWhile blankB).length≤x.length:=fun x=>(List.dropWhile_sublist _).length_le;have h2:=h1 t;have h3:=h1 (t.dropWhile blankB).reverse;rw[List.length_reverse] at h3;refine Nat.le_trans (List.length_filter_le _ _) ?_;rw[List.length_reverse];omega
theorem cutOpt_len (c:UInt8) (t:Bs):(z0i c t).1.length≤t.length∧((z0i c t).2.getD []).length≤t.length:=by
 unfold z0i;cases h:z1a c t with
 |none=>simp
 |some p=>
  have:=Go.Proofs.cutB_parts c _ p.1 p.2 h;have hl:t.length=p.1.length+(p.2.length+1):=by rw[this];simp
  simp;omega
theorem cutScheme_len (t:Bs):(z0k t).2.length≤t.length∧(z0k t).1.length≤t.length:=by
 unfold z0k;cases h:z1a 58 t with
 |none=>simp
 |some p=>
  have:=Go.Proofs.cutB_parts 58 _ p.1 p.2 h;have hl:t.length=p.1.length+(p.2.length+1):=by rw[this];simp
  simp only;split
  ·simp[Lib.toLowerA]
   omega
  ·simp
theorem z9j (t:Bs):(z1K t).middle.length≤t.length∧((z1K t).query.getD []).length≤t.length∧((z1K t).frag.getD []).length≤t.length∧(z1K t).scheme.length≤t.length:=by have h1:=cutScheme_len t;have h2:=cutOpt_len 35 (z0k t).2;have h3:=cutOpt_len 63 (z0i 35 (z0k t).2).1;unfold z1K;simp only;omega
end Go.Moor
namespace Go.Proofs
open Go.RowKit Go.Moor Go.Proofs.Tryz
def z72 (l:Bs) (o:Except Int Adr) (e:Ending) (w':World):Prop:=
 match o with
 | .error n=>∃(x y:ByteArray) (te:TypeId) (ve:Value),e=.returned (.tuple #[.agg z03,.iface 104 (.agg #[.string ⟨l.toArray⟩,.iface 96 (.agg #[.int .i64 n,.string x,.string y,.iface te ve])])])
 | .ok a=>∃v,e=.returned (.tuple #[.agg (z0f a v),.nilIface])∧z1f w' v a.way.segs
theorem za4 {o:Except Int Adr} {e:Ending} {w' w2:World} (h:z2e o e w') (hb:Below w'.heap.size w' w2):z2e o e w2:=by
 cases o with
 |error n=>exact h
 |ok a=>obtain⟨v,rfl,hs⟩:=h;exact⟨v,rfl,z19 hs hb⟩
theorem zdG (l:Bs) (ob:Option Adr) (bp:Option Go.Addr) (w:World) (hl:l.length≤100000) (hbase:Tryz.BaseAt w bp ob) (henv:Tryz.Env2 w):Calls Tryz.prog 58 #[.string ⟨l.toArray⟩,.pointer bp] w fun e w'=>z72 l (z0C hostTell l ob) e w'∧Below w.heap.size w w':=by
 obtain⟨W,hW⟩:=z09 (w.alloc (.cells z03 77));have hBW:Below w.heap.size w W:=by rw[hW];exact(Below.refl _ _).alloc (Nat.le_refl _) _
 have HBW:=hI hBW;have hsize:W.heap.size=w.heap.size+1:=by rw[hW];simp
 have HSZ:=hI hsize;have hz0:W.heap[w.heap.size]?=some (.cells z03 77 (0,0)):=by rw[hW];exact z0K w _ _
 have HZ:Hid (∀w1,Below W.heap.size W w1→w1.heap[w.heap.size]?=some (.cells z03 77 (0,0))∧Below w.heap.size w w1):=fun w1 h1=>⟨(h1.block _ (by omega)).trans hz0,HBW.out.trans (h1.mono (by omega))⟩;have HS:Hid (∀w1,Below W.heap.size W w1→Calls Tryz.prog 94 #[.string ⟨l.toArray⟩] w1 fun e w'=>e=.returned (.string ⟨(z24 l).toArray⟩)∧Below W.heap.size W w'∧Below w1.heap.size w1 w'):=by intro w1 h1;refine(zcv l w1 (by omega) ((henv.below hBW).below h1)).mono ?_;rintro e w' ⟨rfl,hb⟩;exact⟨rfl,h1.trans (hb.mono h1.size),hb⟩
 have hsl:=z9i l;have HC:Hid (∀w1,Below W.heap.size W w1→Calls Tryz.prog 93 #[.string ⟨(z24 l).toArray⟩] w1 fun e w'=>e=.returned (.agg (z0s (z1K (z24 l))))∧Below W.heap.size W w'∧Below w1.heap.size w1 w'):=by intro w1 h1;refine(z8Z ⟨(z24 l).toArray⟩ w1 (by rw[z07];omega) ((henv.below hBW).below h1).env).mono ?_;rintro e w' ⟨rfl,hb⟩;exact⟨rfl,h1.trans (hb.mono h1.size),hb⟩
 have HR:Hid (∀w1,Below W.heap.size W w1→Calls Tryz.prog 95 #[.agg (z0s (z1K (z24 l))),.pointer bp] w1 fun e w'=>z2e (z0C hostTell l ob) e w'∧Below W.heap.size W w'∧Below w1.heap.size w1 w'):=by intro w1 h1;have hc:=z9j (z24 l);have hbw:=hBW.trans (h1.mono (Nat.le_of_lt (by omega)));refine(zdF (z1K (z24 l)) ob bp w1 (by omega) (by omega) (by omega) (hbase.below hbw) (henv.below hbw)).mono ?_;rintro e w' ⟨hr,hb⟩;exact⟨hr,h1.trans (hb.mono h1.size),hb⟩
 generalize z0s (z1K (z24 l))=CC at*;obtain⟨s,hsd⟩:=z09 (⟨(z24 l).toArray⟩:ByteArray);rw[←hsd] at HS HC;obtain⟨t,htd⟩:=z09 (⟨l.toArray⟩:ByteArray);have HT:=hI htd;rw[←htd] at HS⊢;generalize z0C hostTell l ob=res at*;clear hl hbase henv hBW hsl hsd htd hsize hz0;go_enter Tryz.func58,Tryz.ntmps58;go_upto_region 1 with fail;unfold z03 at hW;rw[←hW];clear hW;have m1:W.heap.size≠w.heap.size:=by have:=HSZ.out;omega
 go_wp2_with fail;refine Calls.mono (HS.out W (Below.refl _ _)) ?_;rintro e w1 ⟨rfl,b1,_⟩;go_wp2_with fail;refine Calls.mono (HC.out w1 b1) ?_;rintro e w2 ⟨rfl,b2,_⟩;clear b1;go_wp2_with fail;refine Calls.mono (HR.out w2 b2) ?_;rintro e w3 ⟨hr,b3,_⟩;clear b2;obtain⟨cs,v,rfl,hsz,hone⟩:=z5E hr;have HN3:=hI (HZ.out w3 b3);have HK:Hid ((w3.alloc (.cells z03 77)).heap[w3.heap.size]?=some (.cells z03 77 (0,0))):=z0K w3 _ _;have HZS:Hid ((Tryz.prog.info? 77).map (·.size)=some cs.size):=by show _=_;rw[hsz];exact z1n
 have HZO:Hid (z03.size=cs.size):=by show _=_;rw[hsz];rfl
 have HON:=hI hone;have m3:w3.heap.size≠w.heap.size:=by have:=b3.size;have:=HSZ.out;omega
 have HM3:Hid (w.heap.size≠w3.heap.size∧w.heap.size<w3.heap.size):=⟨m3.symm,by have:=b3.size;have:=HSZ.out;omega⟩;clear hsz hone;cases res with
 |error n=>
  obtain⟨cs2,x,y,te,ve,he,_,_⟩:=hr;injection he with he;injection he with he;simp at he;obtain⟨rfl,rfl⟩:=he;have HW4:Hid (((w3.alloc (.cells z03 77)).setRow w3.heap.size cs).heap[w.heap.size]?=some (.cells z03 77 (0,0))∧Below w.heap.size w ((w3.alloc (.cells z03 77)).setRow w3.heap.size cs)):=by refine⟨?_,below_setRow (HN3.out.2.alloc HN3.out.2.size _) (Nat.le_of_lt HM3.out.2) _⟩;rw[setRow_other _ _ _ _ HM3.out.1];exact((Below.refl w3.heap.size w3).alloc (Nat.le_refl _) _).block _ HM3.out.2|>.trans HN3.out.1
  clear b3;go_wp2_with(first|refine wpList_store_row rfl 77 _ _ rfl w3.heap.size cs rfl rfl 77 z03 HK.out HZS.out HZO.out HON.out ?_|refine wpList_store_row rfl 77 _ _ rfl w.heap.size z03 rfl rfl 77 z03 HW4.out.1 z1n rfl z3C ?_);(try simp only[Exit.inBlock,Exit.then]);have hld:=run_loadVar_row (P:=Tryz.prog) (((w3.alloc (.cells z03 77)).setRow w3.heap.size cs).setRow w.heap.size z03) w.heap.size 77 77 z03 (0,0) _ (setRow_heap _ w.heap.size z03 z03 77 (0,0) HW4.out.1) Tryz.underlying77 rfl z1n;refine bodyPost_ret (v:=.tuple #[.agg z03,.iface 104 (.agg #[.string t,.iface 96 (.agg #[.int .i64 n,.string x,.string y,.iface te ve])])]) ?_ rfl ⟨⟨x,y,te,ve,by rw[HT.out]⟩,below_setRow HW4.out.2 (Nat.le_refl _) _⟩;rw[results_cell_tmp rfl];simp only[z03] at hld;simp[asAddr,Result.andThen,hld,z03]
 |ok a=>
  have HAR:=hI hr;obtain⟨v2,he,hs⟩:=hr;injection he with he;injection he with he;simp at he;obtain⟨hcs,rfl⟩:=he;clear hcs hs;have HW4:Hid (((w3.alloc (.cells z03 77)).setRow w3.heap.size cs).heap[w.heap.size]?=some (.cells z03 77 (0,0))∧Below w.heap.size w ((w3.alloc (.cells z03 77)).setRow w3.heap.size cs)):=by refine⟨?_,below_setRow (HN3.out.2.alloc HN3.out.2.size _) (Nat.le_of_lt HM3.out.2) _⟩;rw[setRow_other _ _ _ _ HM3.out.1];exact((Below.refl w3.heap.size w3).alloc (Nat.le_refl _) _).block _ HM3.out.2|>.trans HN3.out.1
  have HLD:=hI (setRow_heap _ w3.heap.size z03 cs 77 (0,0) HK.out);have HA5:=hI (z4P (z4P (za4 HAR.out ((Below.refl w3.heap.size w3).alloc (Nat.le_refl _) _)) _ _ cs HK.out) _ _ cs HW4.out.1);clear b3 HAR;go_wp2_with(first|refine wpList_load_row rfl 77 _ rfl w3.heap.size rfl 77 cs (0,0) _ HLD.out Tryz.underlying77 rfl HZS.out ?_|refine wpList_store_row rfl 77 _ _ rfl w3.heap.size cs rfl rfl 77 z03 HK.out HZS.out HZO.out HON.out ?_|refine wpList_store_row rfl 77 _ _ rfl w.heap.size cs rfl rfl 77 z03 HW4.out.1 HZS.out HZO.out HON.out ?_);(try simp only[Exit.inBlock,Exit.then]);have hld:=run_loadVar_row (P:=Tryz.prog) (((w3.alloc (.cells z03 77)).setRow w3.heap.size cs).setRow w.heap.size cs) w.heap.size 77 77 cs (0,0) _ (setRow_heap _ w.heap.size z03 cs 77 (0,0) HW4.out.1) Tryz.underlying77 rfl HZS.out;refine bodyPost_ret (v:=.tuple #[.agg cs,.nilIface]) ?_ rfl ⟨HA5.out,below_setRow HW4.out.2 (Nat.le_refl _) _⟩;rw[results_cell_tmp rfl];simp only[z03] at hld;simp[asAddr,Result.andThen,hld]
end Go.Proofs
namespace Go.Moor
open Go Go.Proofs
structure Small (N M:Nat) (a:Adr):Prop where
 scheme:a.scheme.length≤N
 user:a.auth.user.length≤N
 pass:a.auth.pass.length≤N
 host:a.auth.host.length≤N
 port:a.auth.port= -1∨(0≤a.auth.port∧a.auth.port≤65535)
 text:a.way.text.length≤N
 count:a.way.segs.length≤M
 segs:∀x∈a.way.segs,x.length≤N
 query:(a.query.getD []).length≤N
 frag:(a.frag.getD []).length≤N
theorem lower_len (l:Bs):(Lib.toLowerA l).length=l.length:=by simp[Lib.toLowerA]
theorem zak (ps:List Nat) (h:ps.length=8):(z1C ps).length≤82:=by
 unfold z1C;split
 ·have:=z2f ps
  omega
 ·have h1:=z2f (ps.take (z0B ps 0 0 0 0).1)
  have h2:=z2f (ps.drop ((z0B ps 0 0 0 0).1+(z0B ps 0 0 0 0).2));simp only[List.length_append,List.length_take,List.length_drop,List.length_cons,List.length_nil] at*;omega
theorem z9d (l:Bs) (sp:Bool) (h:Bs) (e:hostTell l sp=some h):h.length≤3*l.length+90:=by
 unfold hostTell at e;split at e
 ·unfold z1N at e
  split at e
  ·split at e
   ·rename_i ps hp
    have hk:=(z8G _ ps hp).1;have:=zak (ps.map Int.toNat) (by simpa using hk);simp only[Option.some.injEq] at e;rw[←e];simp only[List.length_append,List.length_cons,List.length_nil];omega
   ·simp at e
  ·simp at e
 ·split at e
  ·unfold z14 at e
   have hu:=z5o l.length l (Nat.le_refl _);split at e
   ·simp at e
   ·split at e
    ·simp at e
    ·split at e
     ·cases h4:ip4 (z1h (Lib.toLowerA (z0t l))) with
      |none=>rw[h4] at e;simp at e
      |some a=>rw[h4] at e;simp only[Option.map_some,Option.some.injEq] at e;have:=zd6 a.toNat;rw[←e];omega
     ·simp only[Option.some.injEq] at e
      rw[←e,lower_len];omega
  ·unfold z2x at e
   split at e
   ·simp at e
   ·simp only[Option.some.injEq] at e
    have:=z4T 0 l;rw[←e];omega
theorem z5d (s:Bs) (K:Nat):∀(l segs:List Bs),(∀p∈l,3*p.length+2≤K)→(∀x∈segs,x.length≤K)→(z0R s segs l).length≤segs.length+l.length∧∀x∈z0R s segs l,x.length≤K
 | [],segs,_,h=>⟨by simp[z0R],by simpa[z0R] using h⟩
 |p::l,segs,hl,h=>by
  have hl2:=fun x hx=>hl x (List.mem_cons_of_mem _ hx);have hlast:∀x∈(if l.isEmpty=true then [([]:Bs)] else []),x.length≤K:=by
   intro x hx;split at hx
   ·simp at hx
    rw[hx];simp
   ·simp at hx
  have hln:(if l.isEmpty=true then [([]:Bs)] else []).length≤1:=by split<;>simp
  rcases zgS p with hd|hd|hd
  ·rw[z9m s segs p l hd]
   have ih:=z5d s K l (segs++ [z2G s p segs.isEmpty]) hl2 (fun x hx=>by
    rcases List.mem_append.1 hx with hx|hx
    ·exact h x hx
    ·simp at hx
     have:=zap s p segs.isEmpty;have:=hl p (by simp);rw[hx];omega)
   refine⟨?_,ih.2⟩;have:=ih.1;simp at this⊢;omega
  ·rw[z7K s segs p l hd]
   have ih:=z5d s K l (segs++(if l.isEmpty then [[]] else [])) hl2 (fun x hx=>by
    rcases List.mem_append.1 hx with hx|hx
    ·exact h x hx
    ·exact hlast x hx)
   refine⟨?_,ih.2⟩;have:=ih.1;rw[List.length_append] at this;simp only[List.length_cons];omega
  ·rw[zaq s segs p l hd]
   have hw:=z5K s segs;have ih:=z5d s K l (z08 s segs++(if l.isEmpty then [[]] else [])) hl2 (fun x hx=>by
    rcases List.mem_append.1 hx with hx|hx
    ·exact h x (hw.2 x hx)
    ·exact hlast x hx)
   refine⟨?_,ih.2⟩;have:=ih.1;rw[List.length_append] at this;simp only[List.length_cons];omega
theorem zep (m:Bs):(z0v m).length≤m.length:=by unfold z0v;split<;>simp
theorem zcl (s:Bs) (begun:List Bs) (t:Bs) (K:Nat) (ht:3*t.length+2≤K) (hb:∀x∈begun,x.length≤K):(z0z s begun t).length≤begun.length+(t.length+1)∧∀x∈z0z s begun t,x.length≤K:=by
 unfold z0z;split
 ·exact⟨by omega,hb⟩
 ·have h1:=zep t
  have h2:=z4A 47 (z0v t);have h3:=z5d s K (z0a 47 (z0v t)) begun (fun p hp=>by have:=z2L 47 _ p hp;omega) hb;exact⟨by omega,h3.2⟩
theorem cutSlash_len (t:Bs):(z0l t).1.length≤t.length∧(z0l t).2.length≤t.length:=⟨(List.takeWhile_sublist _).length_le,(List.dropWhile_sublist _).length_le⟩
theorem zfS (c:UInt8) (t a b:Bs) (h:z3P c t=some (a,b)):a.length≤t.length∧b.length≤t.length:=by
 unfold z3P at h;cases hc:z1a c t.reverse with
 |none=>rw[hc] at h;simp at h
 |some p=>rw[hc] at h;simp only[Option.map_some,Option.some.injEq,Prod.mk.injEq] at h;have hp:=congrArg List.length (Go.Proofs.cutB_parts c _ p.1 p.2 hc);rw[←h.1,←h.2];simp at hp⊢;omega
theorem cutLogin_len (t:Bs):(z0u t).1.length≤t.length∧(z0u t).2.length≤t.length:=by
 unfold z0u;cases h:z3P 64 t with
 |none=>simp
 |some p=>exact zfS 64 t p.1 p.2 h
theorem cutPort_len (t:Bs):(z10 t).1.length≤t.length:=by
 unfold z10;cases h:z1a 58 (t.drop (z2h t)) with
 |none=>simp
 |some p=>have hp:=congrArg List.length (Go.Proofs.cutB_parts 58 _ p.1 p.2 h);simp at hp⊢;omega
theorem zcm (t s:Bs) (p:Int) (h:z1o t s=some p):p= -1∨(0≤p∧p≤65535):=by
 unfold z1o at h;split at h
 ·simp at h;exact Or.inl h.symm
 ·split at h
  ·rename_i hd
   simp only[Bool.and_eq_true,decide_eq_true_eq] at hd;split at h
   ·simp at h;exact Or.inl h.symm
   ·simp at h
    exact Or.inr ⟨by omega,by omega⟩
  ·simp at h
structure SmallAuth (N:Nat) (a:Auth):Prop where
 user:a.user.length≤N
 pass:a.pass.length≤N
 host:a.host.length≤N
 port:a.port= -1∨(0≤a.port∧a.port≤65535)
structure SmallWay (N M:Nat) (w:Moor.Way):Prop where
 text:w.text.length≤N
 count:w.segs.length≤M
 segs:∀x∈w.segs,x.length≤N
theorem zcn (t s:Bs) (a:Auth) (N:Nat) (hN:3*t.length+90≤N) (h:z2i hostTell t s=.ok a):SmallAuth N a:=by
 unfold z2i at h;simp only at h;split at h
 ·simp at h
 ·rename_i ho hh
  split at h
  ·simp at h
  ·rename_i p hp
   simp only[Except.ok.injEq] at h;have h1:=cutLogin_len t;have h2:=cutOpt_len 58 (z0u t).1;have h3:=cutPort_len (z0u t).2;have e1:=z4T 5 (z0i 58 (z0u t).1).1;have e2:=z4T 5 ((z0i 58 (z0u t).1).2.getD []);have hl:ho.length≤3*(z10 (z0u t).2).1.length+90:=by
    unfold z1W at hh;split at hh
    ·simp at hh
    ·exact z9d _ _ _ hh
   rw[←h];exact⟨by simp only;omega,by simp only;omega,by simp only;omega,zcm _ _ _ hp⟩
theorem z2N (s:Bs) (begun:List Bs) (t:Bs) (N M:Nat) (ht:3*t.length+90≤N) (hb:∀x∈begun,x.length≤N) (hc:begun.length≤M):SmallWay N (M+t.length+1) (z0M s begun t):=by have h:=zcl s begun t N (by omega) hb;exact⟨by simp[z0M],by have:=h.1;show(z0z s begun t).length≤_;omega,h.2⟩
theorem SmallWay.mono {N M M':Nat} {w:Moor.Way} (h:SmallWay N M w) (hm:M≤M'):SmallWay N M' w:=⟨h.text,Nat.le_trans h.count hm,h.segs⟩
theorem z63 (s t:Bs) (a:Auth) (y:Moor.Way) (N:Nat) (hN:3*t.length+90≤N) (h:z0Q hostTell s t=.ok (a,y)):SmallAuth N a∧SmallWay N (t.length+1) y:=by
 unfold z0Q at h;simp only at h;have hc:=cutSlash_len t;split at h
 ·simp at h
 ·rename_i a2 ha
  simp only[Except.ok.injEq,Prod.mk.injEq] at h;obtain⟨rfl,rfl⟩:=h;refine⟨zcn _ s a2 N (by omega) ha,?_⟩;exact(z2N s [] (z0l t).2 N 0 (by omega) (by simp) (by simp)).mono (by omega)
theorem z3H (N:Nat) (h:Bs) (hh:h.length≤N):SmallAuth N (z1P h):=⟨by simp[z1P],by simp[z1P],hh,Or.inl rfl⟩
theorem z9e (N:Nat):SmallAuth N noAuth:=⟨by simp[noAuth],by simp[noAuth],by simp[noAuth],Or.inl rfl⟩
theorem Small.auth {N M:Nat} {a:Adr} (h:Small N M a):SmallAuth N a.auth:=⟨h.user,h.pass,h.host,h.port⟩
theorem Small.way {N M:Nat} {a:Adr} (h:Small N M a):SmallWay N M a.way:=⟨h.text,h.count,h.segs⟩
theorem zbp (s m:Bs) (q:Option Bs) (b:Adr) (N M:Nat) (hN:3*m.length+90≤N) (hq:(q.getD []).length≤N) (hb:Small N M b):SmallWay N (M+m.length+1) (z2X s m q b).1∧((z2X s m q b).2.getD []).length≤N:=by
 unfold z2X;split
 ·have hw:=z5K s b.way.segs
  exact⟨z2N s _ m N M hN (fun x hx=>hb.segs x (hw.2 x hx)) (Nat.le_trans hw.1 hb.count),hq⟩
 ·refine⟨hb.way.mono (by omega),?_⟩
  simp only;split
  ·exact hq
  ·exact hb.query
def zeq (N M:Nat) (p:Auth×Moor.Way×Option Bs):Prop:=SmallAuth N p.1∧SmallWay N M p.2.1∧(p.2.2.getD []).length≤N
theorem zfT (segs:List Bs):(z13 segs).length≤segs.length∧∀x∈z13 segs,x∈segs:=by
 unfold z13;split
 ·exact⟨by simp;omega,fun x hx=>List.mem_of_mem_take hx⟩
 ·simp
theorem zer (t h:Bs) (e:z1v hostTell t=some h):h.length≤3*t.length+90:=by
 unfold z1v at e;split at e
 ·simp at e;rw[e];simp
 ·split at e
  ·simp at e
  ·rename_i g hg
   have:=z9d _ _ _ hg;split at e
   ·simp at e;rw[e];simp
   ·simp at e;rw[←e];exact this
theorem zco (m:Bs) (q:Option Bs) (ob:Option Adr) (N M:Nat) (p:Auth×Moor.Way×Option Bs) (hN:3*m.length+90≤N) (hq:(q.getD []).length≤N) (hb:∀b,ob=some b→Small N M b) (h:z1Q hostTell m q ob=.ok p):zeq N (M+m.length+1) p:=by
 unfold z1Q at h;split at h
 ·simp only at h
  have hc:=cutSlash_len (m.drop 2);have hd:(m.drop 2).length≤m.length:=by simp
  split at h
  ·simp only[Except.ok.injEq] at h
   rw[←h];exact⟨z3H N [] (by simp),(z2N sFile [] (m.drop 2) N 0 (by omega) (by simp) (by simp)).mono (by omega),hq⟩
  ·split at h
   ·simp at h
   ·rename_i ho hh
    simp only[Except.ok.injEq] at h;rw[←h];have:=zer _ _ hh;exact⟨z3H N ho (by omega),(z2N sFile [] (z0l (m.drop 2)).2 N 0 (by omega) (by simp) (by simp)).mono (by omega),hq⟩
 ·split at h
  ·simp only[Except.ok.injEq] at h
   rw[←h];exact⟨z3H N [] (by simp),(z2N sFile [] m N 0 (by omega) (by simp) (by simp)).mono (by omega),hq⟩
  ·rename_i b
   have hs:=hb b rfl;split at h
   ·simp only[Except.ok.injEq] at h
    rw[←h];exact⟨z3H N _ hs.host,(z2N sFile [] m N 0 (by omega) (by simp) (by simp)).mono (by omega),hq⟩
   ·split at h
    ·simp only[Except.ok.injEq] at h
     rw[←h];have hd:=zfT b.way.segs;exact⟨z3H N _ hs.host,z2N sFile _ m N M (by omega) (fun x hx=>hs.segs x (hd.2 x hx)) (Nat.le_trans hd.1 hs.count),hq⟩
    ·simp only[Except.ok.injEq] at h
     rw[←h];have hg:=zbp sFile m q b N M (by omega) hq hs;exact⟨z3H N _ hs.host,hg.1,hg.2⟩
theorem z7Y (m:Bs):(z0x m).length≤m.length:=(List.dropWhile_sublist _).length_le
theorem z9f (s m:Bs) (q:Option Bs) (b:Adr) (N M:Nat) (p:Auth×Moor.Way×Option Bs) (hN:3*m.length+90≤N) (hq:(q.getD []).length≤N) (hs:Small N M b) (h:z0U hostTell s m q b=.ok p):zeq N (M+m.length+1) p:=by
 unfold z0U at h;split at h
 ·have hd:(m.drop 2).length≤m.length:=by simp
  have ht:=z7Y (m.drop 2);have hx:(if z0b s=true then z0x (m.drop 2) else m.drop 2).length≤m.length:=by split<;>omega
  cases hf:z0Q hostTell s (if z0b s=true then z0x (m.drop 2) else m.drop 2) with
  |error e=>rw[hf] at h;simp at h
  |ok ay=>rw[hf] at h;simp only[Except.ok.injEq] at h;have hfs:=z63 s _ ay.1 ay.2 N (by omega) hf;rw[←h];exact⟨hfs.1,hfs.2.mono (by omega),hq⟩
 ·split at h
  ·simp only[Except.ok.injEq] at h
   rw[←h];exact⟨hs.auth,(z2N s [] m N 0 (by omega) (by simp) (by simp)).mono (by omega),hq⟩
  ·simp only[Except.ok.injEq] at h
   rw[←h];have hg:=zbp s m q b N M (by omega) hq hs;exact⟨hs.auth,hg.1,hg.2⟩
theorem zdy (t:Bs):(z0X t).length≤9*t.length:=by
 have h1:=z4T 0 t;have h2:∀l:Bs,(l.flatMap fun c=>if c=32 then [37,50,48] else [c]).length≤3*l.length:=by
  intro l;induction l with
  |nil=>simp
  |cons c l ih=>rw[List.flatMap_cons,List.length_append];split<;>simp only[List.length_cons,List.length_nil]<;>omega
 have:=h2 (esc 0 t);unfold z0X;omega
theorem zbq (s m:Bs) (a:Auth) (y:Moor.Way) (N:Nat) (hN:9*m.length+90≤N) (h:z1l hostTell s m=.ok (a,y)):SmallAuth N a∧SmallWay N (m.length+1) y:=by
 unfold z1l at h;split at h
 ·have hd:(m.drop 2).length≤m.length:=by simp
  have:=z63 s (m.drop 2) a y N (by omega) h;exact⟨this.1,this.2.mono (by omega)⟩
 ·split at h
  ·simp only[Except.ok.injEq,Prod.mk.injEq] at h
   obtain⟨rfl,rfl⟩:=h;exact⟨z9e N,(z2N s [] m N 0 (by omega) (by simp) (by simp)).mono (by omega)⟩
  ·simp only[Except.ok.injEq,Prod.mk.injEq] at h
   obtain⟨rfl,rfl⟩:=h;have:=zdy m;exact⟨z9e N,by simp only;omega,by simp,by simp⟩
theorem zaN (s m:Bs) (q:Option Bs) (ob:Option Adr) (N M:Nat) (p:Auth×Moor.Way×Option Bs) (hN:9*m.length+90≤N) (hq:(q.getD []).length≤N) (hb:∀b,ob=some b→Small N M b) (h:z17 hostTell s m q ob=.ok p):zeq N (M+m.length+1) p:=by
 unfold z17 at h;split at h
 ·exact zco m q ob N M p (by omega) hq hb h
 ·split at h
  ·rename_i b
   exact z9f s m q b N M p (by omega) hq (hb b rfl) h
  ·have ht:=z7Y m
   cases hf:(if z0b s=true then z0Q hostTell s (z0x m) else z1l hostTell s m) with
   |error e=>rw[hf] at h;simp at h
   |ok ay=>
    rw[hf] at h;simp only[Except.ok.injEq] at h;rw[←h];split at hf
    ·have hfs:=z63 s _ ay.1 ay.2 N (by omega) hf
     exact⟨hfs.1,hfs.2.mono (by omega),hq⟩
    ·have hfs:=zbq s m ay.1 ay.2 N (by omega) hf
     exact⟨hfs.1,hfs.2.mono (by omega),hq⟩
theorem z7r (s m:Bs):(z02 s m).length=m.length:=by unfold z02;split<;>simp
theorem z8m (s:Int) (o:Option Bs):((o.map (esc s)).getD []).length≤3*(o.getD []).length:=by
 cases o with
 |none=>simp
 |some t=>exact z4T s t
theorem z6V (s m:Bs) (q f:Option Bs) (ob:Option Adr) (N M:Nat) (a:Adr) (hs:s.length≤N) (hN:9*m.length+90≤N) (hq:3*(q.getD []).length≤N) (hf:3*(f.getD []).length≤N) (hb:∀b,ob=some b→Small N M b) (h:z1p hostTell s m q f ob=.ok a):Small N (M+m.length+1) a:=by
 unfold z1p at h;have hq2:=z8m (z0q s) q;have hf2:=z8m 1 f;cases hm:z17 hostTell s (z02 s m) (q.map (esc (z0q s))) ob with
 |error e=>rw[hm] at h;simp at h
 |ok p=>rw[hm] at h;simp only[Except.ok.injEq] at h;have hp:=zaN s (z02 s m) _ ob N M p (by rw[z7r];omega) (by omega) hb hm;rw[z7r] at hp;rw[←h];exact⟨hs,hp.1.user,hp.1.pass,hp.1.host,hp.1.port,hp.2.1.text,hp.2.1.count,hp.2.1.segs,hp.2.2,by simp only;omega⟩
theorem z2Q (t:Bs) (ob:Option Adr) (N M:Nat) (a:Adr) (hN:9*t.length+90≤N) (hb:∀b,ob=some b→Small N M b) (h:z0C hostTell t ob=.ok a):Small N (M+t.length+1) a:=by
 unfold z0C at h;have hs:=z9i t;obtain⟨c1,c2,c3,c4⟩:=z9j (z24 t);generalize z1K (z24 t)=c at*;have hup:∀{x:Adr} {M':Nat},Small N M' x→M'≤M+t.length+1→Small N (M+t.length+1) x:=fun h hm=>⟨h.scheme,h.user,h.pass,h.host,h.port,h.text,Nat.le_trans h.count hm,h.segs,h.query,h.frag⟩;unfold z3o at h;split at h
 ·refine hup (z6V c.scheme c.middle c.query c.frag _ N M a (by omega) (by omega) (by omega) (by omega) ?_ h) (by omega)
  intro b hbb;cases ob with
  |none=>simp at hbb
  |some b2=>
   simp only[Option.bind_some] at hbb;split at hbb
   ·simp only[Option.some.injEq] at hbb
    exact hb b (by rw[hbb])
   ·simp at hbb
 ·split at h
  ·simp at h
  ·rename_i b
   have hs:=hb b rfl;split at h
   ·split at h
    ·simp only[Except.ok.injEq] at h
     rw[←h];have hf:=z8m 1 c.frag;refine hup (M':=M) ?_ (by omega);exact⟨hs.scheme,hs.user,hs.pass,hs.host,hs.port,hs.text,hs.count,hs.segs,hs.query,by simp only;omega⟩
    ·simp at h
   ·exact hup (z6V b.scheme c.middle c.query c.frag _ N M a hs.scheme (by omega) (by omega) (by omega) hb h) (by omega)
end Go.Moor
namespace Go.Proofs
open Go.RowKit Go.Moor Go.Proofs.Tryz
def zbv (n:Int) (v:Value):Prop:=
 (∃(x y:ByteArray) (te:TypeId) (ve:Value),v=.iface 96 (.agg #[.int .i64 n,.string x,.string y,.iface te ve]))∨
 (∃(z x y:ByteArray) (te:TypeId) (ve:Value),v=.iface 104 (.agg #[.string z,.iface 96 (.agg #[.int .i64 n,.string x,.string y,.iface te ve])]))
def z2J (o:Except Int Adr) (e:Ending) (w':World):Prop:=
 match o with
 | .error n=>∃v,e=.returned (.tuple #[.agg z03,v])∧zbv n v
 | .ok a=>∃v,e=.returned (.tuple #[.agg (z0f a v),.nilIface])∧z1f w' v a.way.segs
theorem z73 {l:Bs} {o:Except Int Adr} {e:Ending} {w':World} (h:z72 l o e w'):z2J o e w':=by
 cases o with
 |error n=>obtain⟨x,y,te,ve,rfl⟩:=h;exact⟨_,rfl,Or.inr ⟨_,x,y,te,ve,rfl⟩⟩
 |ok a=>exact h
theorem z5I {o:Except Int Adr} {e:Ending} {w':World} (h:z2J o e w'):∃cs v,e=.returned (.tuple #[.agg cs,v])∧cs.size=13∧cs.all (·.oneCell')=true:=by
 cases o with
 |error n=>obtain⟨v,rfl,h1⟩:=h;exact⟨_,_,rfl,rfl,z3C⟩
 |ok a=>obtain⟨v,rfl,⟨sp,cap,rfl,_⟩,_⟩:=h;exact⟨_,_,rfl,rfl,z3g _ _ rfl⟩
theorem z9k {o:Except Int Adr} {e:Ending} {w':World} (h:z2J o e w') (g:Nat) (old cs:Array Value) (hg:w'.heap[g]?=some (.cells old 77 (0,0))):z2J o e (w'.setRow g cs):=by
 cases o with
 |error n=>exact h
 |ok a=>obtain⟨v,rfl,hs⟩:=h;refine⟨v,rfl,?_⟩;have hoff:=z5C hs.2 hg (by decide);have hbut:But g w' (w'.setRow g cs):=⟨rfl,rfl,rfl,by simp,fun j _ hn=>setRow_other w' g cs j hn⟩;exact z3x hs hbut hoff
theorem zex (B:Nat) (w:World) (hB:w.heap.size≤B) (res:Except Int Adr) (e:Ending) (w2:World) (h:z2J res e w2∧Below w.heap.size w w2∧w2.heap[B]?=some (.cells z03 77 (0,0))):∃cs v,e=.returned (.tuple #[.agg cs,v])∧Hid (w2.heap[B]?=some (.cells z03 77 (0,0)))∧Hid ((Tryz.prog.info? 77).map (·.size)=some cs.size)∧Hid (z03.size=cs.size)∧Hid (cs.all (·.oneCell')=true)∧Hid (z2J res (.returned (.tuple #[.agg cs,v])) (w2.setRow B cs)∧Below w.heap.size w (w2.setRow B cs)):=by obtain⟨h1,h3,h4⟩:=h;obtain⟨cs,v,rfl,h5,h6⟩:=z5I h1;exact⟨cs,v,rfl,h4,(by show _=_;rw[h5];exact z1n),(by show _=_;rw[h5];rfl),h6,z9k h1 _ _ cs h4,below_setRow h3 hB _⟩
theorem z92 (l b:Bs) (w:World) (hl:l.length≤2000) (hb:b.length≤2000) (henv:Tryz.Env2 w):Calls Tryz.prog 35 #[.string ⟨l.toArray⟩,.string ⟨b.toArray⟩] w fun e w'=>z2J (z1c hostTell l b) e w'∧Below w.heap.size w w':=by
 obtain⟨W,hW⟩:=z09 (w.alloc (.cells z03 77));have hBW:Below w.heap.size w W:=by rw[hW];exact(Below.refl _ _).alloc (Nat.le_refl _) _
 have HBW:=hI hBW;have hsize:W.heap.size=w.heap.size+1:=by rw[hW];simp
 have HSZ:=hI hsize;have hz0:W.heap[w.heap.size]?=some (.cells z03 77 (0,0)):=by rw[hW];exact z0K w _ _
 have HZ:Hid (∀w1,Below W.heap.size W w1→w1.heap[w.heap.size]?=some (.cells z03 77 (0,0))∧Below w.heap.size w w1):=fun w1 h1=>⟨(h1.block _ (by omega)).trans hz0,HBW.out.trans (h1.mono (by omega))⟩;have HR:Hid (∀(x:Bs) (ob:Option Adr) (bp:Option Go.Addr) (w1:World),x.length≤100000→Below W.heap.size W w1→Tryz.BaseAt w1 bp ob→Calls Tryz.prog 58 #[.string ⟨x.toArray⟩,.pointer bp] w1 fun e w'=>z72 x (z0C hostTell x ob) e w'∧Below W.heap.size W w'):=by intro x ob bp w1 hx h1 hba;refine(zdG x ob bp w1 hx hba ((henv.below hBW).below h1)).mono ?_;rintro e w' ⟨hr,hb⟩;exact⟨hr,h1.trans (hb.mono h1.size)⟩
 have HFIN:=hI fun res e w2 h=>zex w.heap.size w (Nat.le_refl _) res e w2 h;have HLL:Hid (l.length≤100000):=by show _≤_;omega
 have HLB:Hid (b.length≤100000):=by show _≤_;omega
 obtain⟨t,htd⟩:=z09 (⟨l.toArray⟩:ByteArray);have HT:=hI htd;rw[←htd];by_cases hbe:b=[]
 ·have e0:=z3B
  subst hbe;have HE:Hid (z1c hostTell l []=z0C hostTell l none):=rfl;have HRN:Hid (Calls Tryz.prog 58 #[.string t,.pointer none] W fun e w'=>z2J (z0C hostTell l none) e w'∧Below w.heap.size w w'∧w'.heap[w.heap.size]?=some (.cells z03 77 (0,0))):=by rw[htd];refine(HR.out l none none W HLL.out (Below.refl _ _) rfl).mono ?_;rintro e w' ⟨hr,hb'⟩;exact⟨z73 hr,(HZ.out w' hb').2,(HZ.out w' hb').1⟩
  clear hl hb henv hBW hsize hz0 htd;go_enter Tryz.func35,Tryz.ntmps35;go_upto_region 1 with fail;unfold z03 at hW;rw[←hW];clear hW;go_wp2_with fail;refine Calls.mono HRN.out ?_;intro e w2 hr;obtain⟨cs,v,rfl,HN,HZS,HZO,HON,HF⟩:=HFIN.out _ e w2 hr;clear hr;go_wp2_with(refine wpList_store_row rfl 77 _ _ rfl w.heap.size cs rfl rfl 77 z03 HN.out HZS.out HZO.out HON.out ?_);(try simp only[Exit.inBlock,Exit.then]);have hld:=run_loadVar_row (P:=Tryz.prog) (w2.setRow w.heap.size cs) w.heap.size 77 77 cs (0,0) _ (setRow_heap w2 w.heap.size z03 cs 77 (0,0) HN.out) Tryz.underlying77 rfl HZS.out;rw[HE.out];refine bodyPost_ret (v:=.tuple #[.agg cs,v]) ?_ rfl HF.out;rw[results_cell_tmp rfl];simp[asAddr,Result.andThen,hld]
 ·have e0:=z3Z _ hbe
  have HE:Hid (z1c hostTell l b=match z0C hostTell b none with| .error _=>.error 2| .ok a=>z0C hostTell l (some a)):=by show _=_;unfold z1c;rw[if_neg hbe];rfl
  have HSB:Hid (∀a,z0C hostTell b none=.ok a→Small 20000 2001 a):=fun a h=>(z2Q b none 20000 0 a (by omega) (by simp) h|>fun h=>⟨h.scheme,h.user,h.pass,h.host,h.port,h.text,by have:=h.count;omega,h.segs,h.query,h.frag⟩);have HRN:=hI (HR.out b none none W HLB.out (Below.refl _ _) rfl);obtain⟨bt,hbt⟩:=z09 (⟨b.toArray⟩:ByteArray);rw[←hbt] at e0 HRN⊢;have HBT:=hI hbt;clear hl hb henv hBW hsize hz0 htd hbt hbe;go_enter Tryz.func35,Tryz.ntmps35;go_upto_region 1 with fail;unfold z03 at hW;rw[←hW];clear hW;go_wp2_with fail;refine Calls.mono HRN.out ?_;rintro e w3 ⟨hr,b3⟩;have HB3:=hI b3;have HN3:=hI (HZ.out w3 b3);have HK:Hid ((w3.alloc (.cells z03 77)).heap[w3.heap.size]?=some (.cells z03 77 (0,0))):=z0K w3 _ _;have m3:w3.heap.size≠w.heap.size:=by have:=b3.size;have:=HSZ.out;omega
  have HM3:Hid (w.heap.size≠w3.heap.size∧w.heap.size<w3.heap.size):=⟨m3.symm,by have:=b3.size;have:=HSZ.out;omega⟩;cases hres:z0C hostTell b none with
  |error n=>
   rw[hres] at hr;have HE2:Hid (z1c hostTell l b=.error 2):=(by show _=_;rw[HE.out,hres]);obtain⟨x,y,te,ve,rfl⟩:=hr;have HW4:Hid (((w3.alloc (.cells z03 77)).setRow w3.heap.size z03).heap[w.heap.size]?=some (.cells z03 77 (0,0))∧Below w.heap.size w ((w3.alloc (.cells z03 77)).setRow w3.heap.size z03)):=by refine⟨?_,below_setRow (HN3.out.2.alloc HN3.out.2.size _) (Nat.le_of_lt HM3.out.2) _⟩;rw[setRow_other _ _ _ _ HM3.out.1];exact((Below.refl w3.heap.size w3).alloc (Nat.le_refl _) _).block _ HM3.out.2|>.trans HN3.out.1
   clear b3 hres;rw[←HBT.out];go_wp2_with(first|refine wpList_store_row rfl 77 _ _ rfl w3.heap.size z03 rfl rfl 77 z03 HK.out z1n rfl z3C ?_|refine wpList_store_row rfl 77 _ _ rfl w.heap.size z03 rfl rfl 77 z03 HW4.out.1 z1n rfl z3C ?_);(try simp only[Exit.inBlock,Exit.then]);have hld:=run_loadVar_row (P:=Tryz.prog) (((w3.alloc (.cells z03 77)).setRow w3.heap.size z03).setRow w.heap.size z03) w.heap.size 77 77 z03 (0,0) _ (setRow_heap _ w.heap.size z03 z03 77 (0,0) HW4.out.1) Tryz.underlying77 rfl z1n;rw[HE2.out];refine bodyPost_ret (v:=.tuple #[.agg z03,.iface 96 (.agg #[.int .i64 2,.string ⟨#[98,97,115,101]⟩,.string bt,.iface 104 (.agg #[.string bt,.iface 96 (.agg #[.int .i64 n,.string x,.string y,.iface te ve])])])]) ?_ rfl ⟨⟨_,rfl,Or.inl ⟨_,_,_,_,rfl⟩⟩,below_setRow HW4.out.2 (Nat.le_refl _) _⟩;rw[results_cell_tmp rfl];simp only[z03] at hld;simp[asAddr,Result.andThen,hld,z03]
  |ok a=>
   rw[hres] at hr;have HE2:Hid (z1c hostTell l b=z0C hostTell l (some a)):=(by show _=_;rw[HE.out,hres]);have hsm:=HSB.out a hres;obtain⟨v,rfl,hs⟩:=hr;have hv1:v.oneCell'=true:=(by obtain⟨⟨sp,cap,rfl,_⟩,_⟩:=hs;rfl);obtain⟨V,hV⟩:=z09 ((w3.alloc (.cells z03 77)).setRow w3.heap.size (z0f a v));have hVk:V.heap[w3.heap.size]?=some (.cells (z0f a v) 77 (0,0)):=(by rw[hV];exact setRow_heap _ w3.heap.size z03 (z0f a v) 77 (0,0) HK.out);have hVB:Below w3.heap.size w3 V:=(by rw[hV];exact below_setRow ((Below.refl w3.heap.size w3).alloc (Nat.le_refl _) _) (Nat.le_refl _) _);have hVA:Tryz.BaseAt V (some ⟨w3.heap.size,0,none⟩) (some a):=⟨w3.heap.size,v,rfl,hVk,z19 hs hVB,by have:=hsm.count;omega,fun x hx=>by have:=hsm.segs x hx;omega⟩;have hVW:=HB3.out.trans (hVB.mono HB3.out.size);have HRM:Hid (Calls Tryz.prog 58 #[.string t,.pointer (some ⟨w3.heap.size,0,none⟩)] V fun e w'=>z2J (z0C hostTell l (some a)) e w'∧Below w.heap.size w w'∧w'.heap[w.heap.size]?=some (.cells z03 77 (0,0))):=by rw[HT.out];refine(HR.out l (some a) _ V HLL.out hVW hVA).mono ?_;rintro e w' ⟨hr,hb'⟩;exact⟨z73 hr,(HZ.out w' hb').2,(HZ.out w' hb').1⟩
   have HON:Hid ((z0f a v).all (·.oneCell')=true):=z3g _ _ hv1;have HZS:Hid ((Tryz.prog.info? 77).map (·.size)=some (z0f a v).size):=z1n;have HZO:Hid (z03.size=(z0f a v).size):=rfl;have HV:=hI hV;generalize z0f a v=CS at*;clear b3 hres hs hV hVk hVB hVA hVW hsm hv1;go_wp2_with(refine wpList_store_row rfl 77 _ _ rfl w3.heap.size CS rfl rfl 77 z03 HK.out HZS.out HZO.out HON.out ?_);have HRM2:=HRM.out;rw[HV.out] at HRM2;refine Calls.mono HRM2 ?_;intro e w2 hr;clear HRM2 HRM HV;obtain⟨cs,v,rfl,HN,HZS,HZO,HON,HF⟩:=HFIN.out _ e w2 hr;clear hr;go_wp2_with(refine wpList_store_row rfl 77 _ _ rfl w.heap.size cs rfl rfl 77 z03 HN.out HZS.out HZO.out HON.out ?_);(try simp only[Exit.inBlock,Exit.then]);have hld:=run_loadVar_row (P:=Tryz.prog) (w2.setRow w.heap.size cs) w.heap.size 77 77 cs (0,0) _ (setRow_heap w2 w.heap.size z03 cs 77 (0,0) HN.out) Tryz.underlying77 rfl HZS.out;rw[HE2.out];refine bodyPost_ret (v:=.tuple #[.agg cs,v]) ?_ rfl HF.out;rw[results_cell_tmp rfl];simp[asAddr,Result.andThen,hld]
end Go.Proofs
