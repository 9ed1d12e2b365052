import Derived.Test.YtkcnageeamappaaGreatDoorXTk
import Derived.Test.YtkcnageeamappaaGreatDoorXU15
set_option maxHeartbeats 32000000
set_option maxRecDepth 8000
set_option linter.unusedSimpArgs false
namespace Go.Proofs
open Go.RowKit Go.Moor Go.Proofs.Tryz Go.Moor
theorem LA {B R k j:Nat} {s:ByteArray} {w0:World} {u:Adr} {pv:Value} (a:Nat) {w:World} {base:Option Adr} {b:Adr} {bj:Nat} {bpv:Value} {x:Bs} {r:List Bs} (hm:Mem B R k j (.pointer (some ⟨bj,0,none⟩)) s w0 u pv (a:Nat) 9 0 w) (hbu:UBase B w0 b bj bpv) (hf:b.s=sFile) (hfn:dA base=some b) (hsg:b.w.g=x::r) (ht:ek x=true) (hh:ax (ak u.s) (s.data.toList.drop a)=false) (hd:dr (s.data.toList.drop a)=false) (hob:b.w.o=false) (ho:u.w.o=false) (ha:a<=s.size) (hs:s.size<=1000000) (hn:u.w.g.length<=1000000):Calls prog 183 #[.pointer (some ⟨k,0,none⟩)] w λe w'=>e=.returned (.tuple #[])/\bl B R k j (.pointer (some ⟨bj,0,none⟩)) s w0 (dJ base ⟨u,s.data.toList.drop a,9,0⟩) w':=by
 obtain⟨i0,hi,hz0,hz1,hz2⟩:=fA kR;have y0:w.cell? ⟨k,0,none⟩=some (.pointer (some ⟨j,0,none⟩)):=aa hm.K 0;have y1:w.cell? ⟨k,1,none⟩=some (.pointer (some ⟨bj,0,none⟩)):=aa hm.K 1;have y3:w.cell? ⟨k,3,none⟩=some (.int .i64 (a:Nat)):=aa hm.K 3;have y4:w.cell? ⟨k,4,none⟩=some (.int .i64 9):=aa hm.K 4;have f3:=aj hm.K 3;have f4:=aj hm.K 4;have c3:w.cell? ⟨j,3,none⟩=some (.bool u.t.has):=aa hm.U 3;have c4:w.cell? ⟨j,4,none⟩=some (.string ⟨u.t.h.toArray⟩):=aa hm.U 4;have d3:=aj hm.U 3;have d4:=aj hm.U 4;have hkj:=hm.ne;have hjk:j≠k:=λe=>hm.ne e.symm;have HM0:Hid (Tryz.Mem B R k j (.pointer (some ⟨bj,0,none⟩)) s w0 (ed u) pv (a:Nat) 9 0 (w.setCell ⟨j,3,none⟩ (.bool true))):=hm.uset (u':=ed u) 3 (.bool true) rfl rfl;have HSL:Hid _:=gH a HM0.out (by omega);have hub:w.heap[bj]?=some (.cells (bD b bpv) 116 (0,0)):=(hm.below.block bj hbu.lt).trans hbu.U;have n1:bj≠j:=by have:=hbu.lt;have:=hm.bj;omega
 have n2:bj≠k:=by have:=hbu.lt;have:=hm.bk;omega
 clear hm;have HSL2:Hid (Calls Tryz.prog 178 #[.pointer (some ⟨k,0,none⟩)] (w.setCell ⟨j,3,none⟩ (.bool true)) λe w'=>e=.returned (.bool false)/\∃n,w'=(w.setCell ⟨j,3,none⟩ (.bool true)).drewN n):=by have:=HSL.out;rw[show ax (ak (ed u).s) (s.data.toList.drop a)=_ from hh] at this;exact this
 clear HSL;have b0:w.cell? ⟨bj,0,none⟩=some (.string ⟨b.s.toArray⟩):=aa hub 0;have b4:w.cell? ⟨bj,4,none⟩=some (.string ⟨b.t.h.toArray⟩):=aa hub 4;have e1:((⟨b.s.toArray⟩:ByteArray).toList==[102,105,108,101])=true:=fE b.s _ hf;have HM1:Hid (∀n,Tryz.Mem B R k j (.pointer (some ⟨bj,0,none⟩)) s w0 (cF u b.t.h) pv (a:Nat) 9 0 ((((w.setCell ⟨j,3,none⟩ (.bool true)).drewN n).drew).setCell ⟨j,4,none⟩ (.string ⟨b.t.h.toArray⟩))):=λn=>(HM0.out.drewN n).drew.uset (u':=cF u b.t.h) 4 _ rfl rfl;have HDV:Hid (∀W,Tryz.Mem B R k j (.pointer (some ⟨bj,0,none⟩)) s w0 (cF u b.t.h) pv (a:Nat) 9 0 W->Calls Tryz.prog 225 #[.pointer (some ⟨k,0,none⟩)] W λe w'=>e=.returned (.bool (dr (s.data.toList.drop a)))/\Tryz.Mem B R k j (.pointer (some ⟨bj,0,none⟩)) s w0 (cF u b.t.h) pv (a:Nat) 9 0 w'):=by intro W hW;refine(tN k a s W (aa hW.K 2) (aa hW.K 3) ha (by omega)).mono ?_;rintro e w' ⟨he,n,rfl⟩;exact⟨he,hW.drewN n⟩
 have HUB:Hid (∀w3,Below B w0 w3->w3.heap[bj]?=some (.cells (bD b bpv) 116 (0,0))):=λw3 h=>(h.block bj hbu.lt).trans hbu.U;have HB0:Hid _:=zM base b u (s.data.toList.drop a) 9 0 hh hfn;have hdx:aC x=true:=by
  cases h:aC x with
  |true=>rfl
  |false=>have h2:(aC x&&_)=true:=ht;rw[h] at h2;cases h2
 have HDR:Hid (∀W,Calls Tryz.prog 223 #[.string ⟨x.toArray⟩] W λe w'=>e=.returned (.bool true)/\w'=W):=λW=>by rw[<-hdx];exact ja _ W
 obtain⟨h58,htx⟩:=tP x hdx;have hc:(((⟨x.toArray⟩:ByteArray)[1]'h58).toNat:Int)=58:=by rw[ht] at htx;exact ik htx.symm
 have HF1:Hid (∀w3,Below B w0 w3->∃g cap,bpv=.slice (some ⟨g,0,none⟩) (r.length+1) cap/\w3.cell? ⟨g,0,none⟩=some (.string ⟨x.toArray⟩)/\g<B):=λw3 h=>hbu.first h hob x r hsg;have HE:Hid (dJ base ⟨u,s.data.toList.drop a,9,0⟩=⟨{cF u b.t.h with w:=⟨false,[],u.w.g++ [x]⟩},s.data.toList.drop a,6,0⟩):=by show _=_;rw[HB0.out,hd,ab (by decide),hsg,Ly x r ht]
 rw[hd] at HDV;have hbl:=hbu.lt;obtain⟨xb,hxb⟩:∃xb:ByteArray,xb=⟨x.toArray⟩:=⟨_,rfl⟩;have HXB:Hid (xb=⟨x.toArray⟩):=hxb;have hc2:∃h:1<xb.size,((xb[1]'h).toNat:Int)=58:=by rw[hxb];exact⟨h58,hc⟩
 obtain⟨h58b,hcb⟩:=hc2;rw[<-hxb] at HDR HF1;generalize(⟨b.s.toArray⟩:ByteArray)=bcb at*;clear hxb h58 htx hc hdx hsg ht hd hh hfn hf hob hub hbu HB0 y3 f3 HM0;go_enter gY,gZ;go_wp2_with fail;refine af HSL2.out ?_;rintro e w1 ⟨rfl,n,rfl⟩;go_wp2;go_region;go_wp2_with fail;refine af (HDV.out _ (HM1.out n)) ?_;rintro e w3 ⟨rfl,hm3⟩;have HM3:Hid _:=hm3;have t0:w3.cell? ⟨k,0,none⟩=some (.pointer (some ⟨j,0,none⟩)):=aa hm3.K 0;have t4:w3.cell? ⟨k,4,none⟩=some (.int .i64 9):=aa hm3.K 4;have t5:=aj hm3.K 4;have hub3:=HUB.out w3 hm3.below;have b7:w3.cell? ⟨bj,7,none⟩=some bpv:=aa hub3 7;obtain⟨g,gcap,hbv,g0,hgB⟩:=HF1.out w3 hm3.below;rw[hbv] at b7;obtain⟨sp,cap,hpv,_,_,_⟩:=dF (hm3.owned ho);subst hpv;have c7:w3.cell? ⟨j,7,none⟩=some (.slice sp u.w.g.length cap):=aa hm3.U 7;have d7:=aj hm3.U 7;have hjb:j≠bj:=λe=>n1 e.symm;have hjg:j≠g:=by have:=hm3.bj;omega
 have hkz:k<w3.heap.size:=hm3.kz;have hjz:j<w3.heap.size:=hm3.jz;have hbz:bj<w3.heap.size:=cq hbl hm3.bz;have hgz:g<w3.heap.size:=cq hgB hm3.bz;have HPU:Hid _:=λsp5 cap5 w5 h5 hg5=>hm3.push ho x sp5 cap5 w5 h5 hg5;obtain⟨hlo,hlr,hlz⟩:=hm3.lay ho x;have HLO:Hid _:=hlo;have HLR:Hid _:=hlr;have HLZ:Hid _:=hlz;have HL1:Hid _:=lw x;have HL63:Hid (u.w.g.length+1<=maxLen):=by unfold maxLen;show _<=_;omega
 have HLB:Hid ((u.w.g.length+1)*16<=140737488355328):=by show _<=_;omega
 rw[<-HXB.out] at HPU HLO HLR HLZ HL1;have HK4:Hid (∀w5,(w3.alloc (.cells #[.string xb] 9)).drew.grownBy w5 (Value.slice sp u.w.g.length cap).ownBlock->w5.cell? ⟨k,4,none⟩=some (.int .i64 9)/\w5.frozen? ⟨k,4,none⟩=false/\w5.cell? ⟨bj,7,none⟩=some (.slice (some ⟨g,0,none⟩) (r.length+1) gcap)/\w5.cell? ⟨g,0,none⟩=some (.string xb)):=by intro w5 hg5;have:=((hm3.alloc (.cells #[.string xb] 9)).drew).far ho hg5;obtain⟨g2,gcap2,hbv2,g02,_⟩:=HF1.out w5 this.2.2;rw[hbv] at hbv2;injection hbv2 with e1 e2 e3;injection e1 with e1;injection e1 with e1;subst e1;refine⟨aa this.1 4,aj this.1 4,?_,g02⟩;rw[<-hbv];exact aa (HUB.out w5 this.2.2) 7
 clear hlo hlr hlz hm3 hub3 hbv;go_wp2_with fail;refine af (HDR.out _) ?_;rintro e w5 ⟨rfl,hw5⟩;have hw5:=hw5.symm;subst hw5;go_wp2;refine wp_region_held_drew (S:=(λw'=>w'.cell? ⟨k,0,none⟩=some (.pointer (some ⟨j,0,none⟩))/\w'.cell? ⟨bj,7,none⟩=some (.slice (some ⟨g,0,none⟩) (r.length+1) gcap)/\w'.cell? ⟨g,0,none⟩=some (.string xb))) (by kernel_rfl) (by go_keep) (λhHeld=>?_);refine' aM 0 21 _ rfl (by kernel_rfl) (λ_ _ _ h=>h) (by rfl) ?h1 (by assumption) ?k1
 case h1=>(intro w hSw;(try dsimp only at hSw);go_simp;try with_reducible rfl)
 try simp only[Act.put,di]
 refine' aM 1 20 _ rfl (by kernel_rfl) (λ_ _ _ h=>h) (by rfl) ?h2 (by assumption) ?k2
 case h2=>(intro w hSw;(try dsimp only at hSw);go_simp;try with_reducible rfl)
 try simp only[Act.put,di]
 refine' aM 2 19 _ rfl (by kernel_rfl) (λ_ _ _ h=>h) (by rfl) ?h3 (by assumption) ?k3
 case h3=>(intro w hSw;(try dsimp only at hSw);go_simp;try with_reducible rfl)
 try simp only[Act.put,di]
 refine' aM 3 18 _ rfl (by kernel_rfl) (λ_ _ _ h=>h) (by rfl) ?h4 (by assumption) ?k4
 case h4=>(intro w hSw;(try dsimp only at hSw);go_simp;try with_reducible rfl)
 try simp only[Act.put,di]
 refine' aM 4 17 _ rfl (by kernel_rfl) (λ_ _ _ h=>h) (by rfl) ?h5 (by assumption) ?k5
 case h5=>(intro w hSw;(try dsimp only at hSw);go_simp;try with_reducible rfl)
 try simp only[Act.put,di]
 refine' aM 5 16 _ rfl (by kernel_rfl) (λ_ _ _ h=>h) (by rfl) ?h6 (by assumption) ?k6
 case h6=>(intro w hSw;(try dsimp only at hSw);go_simp;try with_reducible rfl)
 try simp only[Act.put,di]
 refine' aM 6 15 _ rfl (by kernel_rfl) (λ_ _ _ h=>h) (by rfl) ?h7 (by assumption) ?k7
 case h7=>(intro w hSw;(try dsimp only at hSw);go_simp;try with_reducible rfl)
 try simp only[Act.put,di]
 refine' aM 7 14 _ rfl (by kernel_rfl) (λ_ _ _ h=>h) (by rfl) ?h8 (by assumption) ?k8
 case h8=>(intro w hSw;(try dsimp only at hSw);go_simp;try with_reducible rfl)
 try simp only[Act.put,di]
 refine' aM 8 13 _ rfl (by kernel_rfl) (λ_ _ _ h=>h) (by rfl) ?h9 (by assumption) ?k9
 case h9=>(intro w hSw;(try dsimp only at hSw);go_simp;try with_reducible rfl)
 try simp only[Act.put,di]
 refine' aM 9 12 _ rfl (by kernel_rfl) (λ_ _ _ h=>h) (by rfl) ?h10 (by assumption) ?k10
 case h10=>(intro w hSw;(try dsimp only at hSw);go_simp;try with_reducible rfl)
 try simp only[Act.put,di]
 refine' aM 11 11 _ rfl (by kernel_rfl) (λ_ _ _ h=>h) (by rfl) ?h11 (by assumption) ?k11
 case h11=>(intro w hSw;(try dsimp only at hSw);go_simp;try with_reducible rfl)
 try simp only[Act.put,di]
 refine' aM 12 10 _ rfl (by kernel_rfl) (λ_ _ _ h=>h) (by rfl) ?h12 (by assumption) ?k12
 case h12=>(intro w hSw;(try dsimp only at hSw);go_simp;try with_reducible rfl)
 try simp only[Act.put,di]
 refine' aM 13 9 _ rfl (by kernel_rfl) (λ_ _ _ h=>h) (by rfl) ?h13 (by assumption) ?k13
 case h13=>(intro w hSw;(try dsimp only at hSw);go_simp;try with_reducible rfl)
 try simp only[Act.put,di]
 refine' aM 14 8 _ rfl (by kernel_rfl) (λ_ _ _ h=>h) (by rfl) ?h14 (by assumption) ?k14
 case h14=>(intro w hSw;(try dsimp only at hSw);go_simp;try with_reducible rfl)
 try simp only[Act.put,di]
 refine' aM 15 7 _ rfl (by kernel_rfl) (λ_ _ _ h=>h) (by rfl) ?h15 (by assumption) ?k15
 case h15=>(intro w hSw;(try dsimp only at hSw);go_simp;try with_reducible rfl)
 try simp only[Act.put,di]
 refine' aM 16 6 _ rfl (by kernel_rfl) (λ_ _ _ h=>h) (by rfl) ?h16 (by assumption) ?k16
 case h16=>(intro w hSw;(try dsimp only at hSw);go_simp;try with_reducible rfl)
 try simp only[Act.put,di]
 refine lL (fuel:=5) (rs:=[10,17]) (by kernel_rfl) (by simp) ?_;refine ld rfl (λK hK=>?_) (ld rfl (λK hK=>?_) lM)
 .go_simp
  refine hK.out _ _ (by go_keep) (λhHeld2=>?_);clear hK K hHeld;have hHeld:=hHeld2;clear hHeld2;try simp only[Act.put,di]
  refine lL (fuel:=4) (rs:=[17]) (by kernel_rfl) (by simp) ?_;refine ld rfl (λK hK=>?_) lM;go_simp;refine hK.out _ _ (by go_keep) (λhHeld2=>?_);clear hK K hHeld;have hHeld:=hHeld2;clear hHeld2;try simp only[Act.put,di]
  refine lL (fuel:=3) (rs:=[18]) (by kernel_rfl) (by simp) ?_;refine ld rfl (λK hK=>?_) lM;refine ka _ rfl (.tmp 186) (.tmp 193) 28 rfl R 9 i0 (.string ⟨#[]⟩) 16 jI hi hz0 hz1 hz2 rfl _ _ _ (by simp[Act.eval];rfl) HLO.out _ 1 [.string xb] (by simp[Act.eval]) HLR.out HL1.out HL63.out HLB.out HLZ.out ?_;intro sp5 cap5 w5 hown5 hgrow5;obtain⟨z4,x4,zb,zg⟩:=HK4.out w5 hgrow5;obtain⟨z0,z7,g7,z3,g3,HF⟩:=HPU.out sp5 cap5 w5 hown5 hgrow5;clear hown5 hgrow5;refine hK.out _ _ (by go_keep) (λhHeld2=>?_);clear hK K hHeld;have hHeld:=hHeld2;clear hHeld2;try simp only[Act.put,di]
  refine' aM 19 2 _ rfl (by kernel_rfl) (λ_ _ _ h=>h) (by rfl) ?h17 (by assumption) ?k17
  case h17=>(intro w hSw;(try dsimp only at hSw);go_simp;try with_reducible rfl)
  try simp only[Act.put,di]
  refine' aM 20 1 _ rfl (by kernel_rfl) (λ_ _ _ h=>h) (by rfl) ?h18 (by assumption) ?k18
  case h18=>(intro w hSw;(try dsimp only at hSw);go_simp;try with_reducible rfl)
  try simp only[Act.put,di]
  refine lL (fuel:=0) (rs:=[21]) (by kernel_rfl) (by simp) ?_;refine ld rfl (λK hK=>?_) lM;go_simp;refine hK.out _ _ (by go_keep) (λhHeld2=>?_);clear hK K hHeld;have hHeld:=hHeld2;clear hHeld2;try simp only[Act.put,di]
  refine wpAnyH_done (by kernel_rfl) ?_ _;go_wp2;exact bS (v:=.tuple #[]) (bf rfl _ _ _) rfl ⟨rfl,by rw[HE.out];exact bN (a:=a) (HF.out.set_st 6) ha _ rfl⟩
 .go_simp
  refine hK.out _ _ (by go_keep) (λhHeld2=>?_);clear hK K hHeld;have hHeld:=hHeld2;clear hHeld2;try simp only[Act.put,di]
  refine lL (fuel:=4) (rs:=[10]) (by kernel_rfl) (by simp) ?_;refine ld rfl (λK hK=>?_) lM;go_simp;refine hK.out _ _ (by go_keep) (λhHeld2=>?_);clear hK K hHeld;have hHeld:=hHeld2;clear hHeld2;try simp only[Act.put,di]
  refine lL (fuel:=3) (rs:=[18]) (by kernel_rfl) (by simp) ?_;refine ld rfl (λK hK=>?_) lM;refine ka _ rfl (.tmp 186) (.tmp 193) 28 rfl R 9 i0 (.string ⟨#[]⟩) 16 jI hi hz0 hz1 hz2 rfl _ _ _ (by simp[Act.eval];rfl) HLO.out _ 1 [.string xb] (by simp[Act.eval]) HLR.out HL1.out HL63.out HLB.out HLZ.out ?_;intro sp5 cap5 w5 hown5 hgrow5;obtain⟨z4,x4,zb,zg⟩:=HK4.out w5 hgrow5;obtain⟨z0,z7,g7,z3,g3,HF⟩:=HPU.out sp5 cap5 w5 hown5 hgrow5;clear hown5 hgrow5;refine hK.out _ _ (by go_keep) (λhHeld2=>?_);clear hK K hHeld;have hHeld:=hHeld2;clear hHeld2;try simp only[Act.put,di]
  refine' aM 19 2 _ rfl (by kernel_rfl) (λ_ _ _ h=>h) (by rfl) ?h19 (by assumption) ?k19
  case h19=>(intro w hSw;(try dsimp only at hSw);go_simp;try with_reducible rfl)
  try simp only[Act.put,di]
  refine' aM 20 1 _ rfl (by kernel_rfl) (λ_ _ _ h=>h) (by rfl) ?h20 (by assumption) ?k20
  case h20=>(intro w hSw;(try dsimp only at hSw);go_simp;try with_reducible rfl)
  try simp only[Act.put,di]
  refine lL (fuel:=0) (rs:=[21]) (by kernel_rfl) (by simp) ?_;refine ld rfl (λK hK=>?_) lM;go_simp;refine hK.out _ _ (by go_keep) (λhHeld2=>?_);clear hK K hHeld;have hHeld:=hHeld2;clear hHeld2;try simp only[Act.put,di]
  refine wpAnyH_done (by kernel_rfl) ?_ _;go_wp2;exact bS (v:=.tuple #[]) (bf rfl _ _ _) rfl ⟨rfl,by rw[HE.out];exact bN (a:=a) (HF.out.set_st 6) ha _ rfl⟩
end Go.Proofs
