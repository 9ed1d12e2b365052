import Derived.Test.YtkcnageeamappaaGreatDoorXU9
set_option maxHeartbeats 32000000
set_option maxRecDepth 8000
namespace Go.Proofs
open Go.RowKit Go.Moor Go.Proofs.Tryz
theorem zig (p:UInt8→Bool) (l:Bs) (a b:Nat) (hab:a≤b) (hno:∀i (h:i<l.length),a≤i→i<b→p l[i]=true) (hb:b≤l.length) (hst:b=l.length∨∃h:b<l.length,p l[b]=false):(l.drop a).takeWhile p=(l.drop a).take (b- a)∧(l.drop a).dropWhile p=l.drop b:=by
 have hsplit:l.drop a=(l.drop a).take (b- a)++l.drop b:=by conv=>lhs;rw[←List.take_append_drop (b- a) (l.drop a),List.drop_drop,show a+(b- a)=b by omega]
 have hpos:∀x∈(l.drop a).take (b- a),p x=true:=by intro x hx;obtain⟨i,hi,rfl⟩:=List.mem_iff_getElem.1 hx;rw[List.length_take,List.length_drop] at hi;rw[List.getElem_take,List.getElem_drop];exact hno (a+i) (by omega) (by omega) (by omega)
 have hhead:(l.drop b).takeWhile p=[]∧(l.drop b).dropWhile p=l.drop b:=by
  rcases hst with h|⟨h,h2⟩
  ·rw[h,List.drop_of_length_le (Nat.le_refl _)]
   exact⟨rfl,rfl⟩
  ·rw[List.drop_eq_getElem_cons h,List.takeWhile_cons,List.dropWhile_cons]
   simp only[h2];exact⟨rfl,rfl⟩
 constructor
 ·conv=>lhs;rw[hsplit]
  rw[List.takeWhile_append_of_pos hpos,hhead.1,List.append_nil]
 ·conv=>lhs;rw[hsplit]
  rw[List.dropWhile_append_of_pos hpos,hhead.2]
theorem zhb (l:Bs) (b:Nat) (h:b<l.length):z2n (l.drop b)=z2d l[b]:=by rw[List.drop_eq_getElem_cons h];rfl
theorem znn:∀c:Fin 256,¬c.val=32→z0X [c.val.toUInt8]=esc 0 [c.val.toUInt8]:=by decide+kernel
theorem zno (c:UInt8) (h:¬c=32):z0X [c]=esc 0 [c]:=by have:=znn ⟨c.toNat,c.toNat_lt⟩ (fun e=>h (UInt8.toNat_inj.1 e));simpa using this
theorem znp (x y:Bs):z0X (x++y)=z0X x++z0X y:=by unfold z0X esc;rw[List.flatMap_append,List.flatMap_append]
theorem znq (x:Bs):(z0X x).length≤9*x.length:=by
 have h1:∀l:Bs,(l.flatMap fun c=>if c=32 then [37,50,48] else [c]).length≤3*l.length:=by
  intro l;induction l with
  |nil=>simp
  |cons c l ih=>
   rw[List.flatMap_cons,List.length_append,List.length_cons];have:(if c=32 then [37,50,48] else [c]:Bs).length≤3:=by split<;>simp
   omega
 have h2:=z4T 0 x;have h3:=h1 (esc 0 x);unfold z0X;omega
theorem Tryz.Mem.opq {B R k j:Nat} {bv:Value} {s:ByteArray} {w0 w:World} {u:Adr} {pv:Value} {a st er:Int} (h:Mem B R k j bv s w0 u pv a st er w) (x:Bs):Mem B R k j bv s w0 {u with way:=⟨true,x,[]⟩} (.slice (some ⟨w.heap.size,0,none⟩) 1 1) a st er (((w.setCell ⟨j,6,none⟩ (.bool true)).setCell ⟨j,7,none⟩ (.slice (some ⟨w.heap.size,0,none⟩) 1 1)).alloc (.cells #[.string ⟨x.toArray⟩] 9)):=by
 have hz:((w.setCell ⟨j,6,none⟩ (.bool true)).setCell ⟨j,7,none⟩ (.slice (some ⟨w.heap.size,0,none⟩) 1 1)).heap.size=w.heap.size:=by simp
 have hjz:=h.jz;have hkz:=h.kz;have h6:=heap_setCell_same w j 6 _ _ (.bool true) h.url;have e6:(z1w u pv).setIfInBounds 6 (.bool true)=z1w {u with way:=⟨true,x,[]⟩} pv:=rfl;rw[e6] at h6;have h7:=heap_setCell_same _ j 7 _ _ (.slice (some ⟨w.heap.size,0,none⟩) 1 1) h6;have e7:(z1w {u with way:=⟨true,x,[]⟩} pv).setIfInBounds 7 (.slice (some ⟨w.heap.size,0,none⟩) 1 1)=z1w {u with way:=⟨true,x,[]⟩} (.slice (some ⟨w.heap.size,0,none⟩) 1 1):=rfl;rw[e7] at h7;refine⟨((h.below.setCell h.bj _).setCell h.bj _).alloc (by rw[hz];exact h.bz) _,?_,(Below.heap_alloc _ _ j (by rw[hz];exact hjz)).trans h7,h.bk,h.bj,h.ne,h.kr,h.jr,?_,?_⟩
 ·refine(Below.heap_alloc _ _ k (by rw[hz];exact hkz)).trans ?_
  refine(heap_setCell_other _ ⟨j,7,none⟩ k _ h.ne).trans ?_;exact(heap_setCell_other _ ⟨j,6,none⟩ k _ h.ne).trans h.mach
 ·have:=h.rz
  simp;omega
 ·refine Or.inr ⟨rfl,w.heap.size,1,rfl,Nat.le_refl _,by unfold maxLen;omega,?_,by simp,Or.inr h.rz⟩
  have:=World.cell?_alloc_new ((w.setCell ⟨j,6,none⟩ (.bool true)).setCell ⟨j,7,none⟩ (.slice (some ⟨w.heap.size,0,none⟩) 1 1)) #[.string ⟨x.toArray⟩] 9 0;rw[hz] at this;exact this
theorem zba {B R k j:Nat} {bv:Value} {s:ByteArray} {w0:World} {u:Adr} {pv:Value} (a st:Nat) {w:World} (hm:Mem B R k j bv s w0 u pv (a:Nat) (st:Nat) 0 w) (ha:a≤s.size) (hs:s.size≤1000000):CQ 182 #[.pointer (some ⟨k,0,none⟩)] w (.tuple #[]) (z3u B R k j bv s w0 (z3r ⟨u,s.data.toList.drop a,st,0⟩)):=by
 obtain⟨l,hl⟩:=z09 s.data.toList;have hlen:l.length=s.size:=by rw[hl,Array.length_toList];rfl
 have HG:Hid (∀(q:Nat) (h:q<s.size) (h2:q<l.length),l[q]=s[q]):=by intro q h h2;subst hl;simp;rfl
 have HX1:=hI fun q h=>z59 s q h;have HMK:Hid (∀(b:Nat) W,b≤s.size→Mem B R k j bv s w0 u pv (b:Nat) (st:Nat) 0 W→CQ 221 #[.pointer (some ⟨k,0,none⟩)] W (.bool (z2n (l.drop b))) (Mem B R k j bv s w0 u pv (b:Nat) (st:Nat) 0)):=by intro b W hb hW;rw[hl];refine(zo5 b hW (by omega)).mono ?_;rintro e w' ⟨he,n,rfl⟩;exact⟨he,hW.drewN n⟩
 have HES:=hI fun c W=>zb3 ⟨#[c]⟩ 0 W (by show 1≤_;omega);have HMD:Hid (∀(b:Nat) (u2:Adr) pv2 W,b≤s.size→Mem B R k j bv s w0 u2 pv2 (b:Nat) (st:Nat) 0 W→CQ 184 #[.pointer (some ⟨k,0,none⟩)] W (.tuple #[]) (z3u B R k j bv s w0 (z0L ⟨u2,l.drop b,st,0⟩))):=by intro b u2 pv2 W hb hW;rw[hl];exact z7G b st hW hb (by omega)
 have HEND:Hid (∀b,a≤b→b≤s.size→(∀i (h:i<l.length),a≤i→i<b→z2d l[i]=false)→z2n (l.drop b)=true→z3r ⟨u,s.data.toList.drop a,st,0⟩=z0L ⟨{u with way:=⟨true,z0X ((l.drop a).take (b- a)),[]⟩},l.drop b,st,0⟩):=by
  intro b hab hb hno hx;rw[←hl];have:=zig (fun c=>!z2d c) l a b hab (fun i h h1 h2=>by rw[hno i h h1 h2];rfl) (by omega) (by
   rcases Nat.lt_or_ge b l.length with h|h
   ·right
    refine⟨h,?_⟩;rw[zhb l b h] at hx;rw[hx];rfl
   ·left;omega)
  unfold z3r;simp only;rw[this.1,this.2]
 have HNEXT:Hid (∀b,a≤b→b≤s.size→(∀i (h:i<l.length),a≤i→i<b→z2d l[i]=false)→z2n (l.drop b)=false→∃h:b<s.size,(∀i (h:i<l.length),a≤i→i<b+1→z2d l[i]=false)∧z0X ((l.drop a).take (b+1- a))=z0X ((l.drop a).take (b- a))++(if(s[b].toNat:Int)=32 then [37,50,48] else esc 0 [s[b]])):=by
  intro b hab hb hno h2;have hlt:b<l.length:=by
   rcases Nat.lt_or_ge b l.length with h|h
   ·exact h
   ·rw[List.drop_of_length_le h] at h2
    cases h2
  refine⟨by omega,fun i h h3 h4=>?_,?_⟩
  ·rcases Nat.lt_or_ge i b with h5|h5
   ·exact hno i h h3 h5
   ·have:i=b:=by omega
    subst this;rw[←zhb l i hlt];exact h2
  ·have e:(l.drop a).take (b+1- a)=(l.drop a).take (b- a)++ [s[b]'(by omega)]:=by
    rw[show b+1- a=(b- a)+1 by omega,z3U _ (b- a) (by rw[List.length_drop];omega)];congr 2;rw[List.getElem_drop,←HG.out b (by omega) hlt];congr 1;omega
   rw[e,znp];congr 1;by_cases h32:(s[b].toNat:Int)=32
   ·rw[if_pos h32,(z1e s[b] 32 (by decide)).2 h32]
    decide+kernel
   ·rw[if_neg h32]
    exact zno _ (fun e=>h32 ((z1e s[b] 32 (by decide)).1 e))
 have HLEN:Hid (∀b,b≤s.size→(z0X ((l.drop a).take (b- a))).length≤9000000):=by intro b hb;have:=znq ((l.drop a).take (b- a));rw[List.length_take,List.length_drop] at this;show _≤_;omega
 have HM:=hI hm;clear hm hl HG;go_enter func182,ntmps182;go_wp2_with fail;refine Calls.mono (HMK.out a w ha HM.out) ?_;rintro e w1 ⟨rfl,hm1⟩;have HM1:Hid _:=hm1;clear hm1 HM;go_wp2_with fail;go_loopw [2,3] (fun x y wr=>∃b:Nat,a≤b∧b≤s.size∧x=.string ⟨(z0X ((l.drop a).take (b- a))).toArray⟩∧y=.bool (z2n (l.drop b))∧(∀i (h:i<l.length),a≤i→i<b→z2d l[i]=false)∧Mem B R k j bv s w0 u pv (b:Nat) (st:Nat) 0 wr) (fun x y wr=>s.size-((wr.cell? ⟨k,3,none⟩).map intOf).getD 0|>.toNat)
 case atStart=>exact⟨a,Nat.le_refl _,ha,by rw[Nat.sub_self];rfl,rfl,fun i h h1 h2=>by omega,HM1.out⟩
 case round=>
  clear HM1;obtain⟨b,hab,hb,rfl,rfl,hno,hmr⟩:=hrel;have HNO:=hI hno;have HMR:=hI hmr;have y0:=hmr.y0;have y3:=hmr.y3;have y2:=hmr.y2;have i3:=hmr.f 3;have HL:Hid _:=HLEN.out b hb;clear hno;cases hy:z2n (l.drop b) with
  |true=>have HE:Hid _:=HEND.out b hab hb HNO.out hy;have c6:wr.cell? ⟨j,6,none⟩=some (.bool u.way.opaq):=z00 hmr.url 6;have c7:=hmr.v7;have d6:=hmr.g 6;have d7:=hmr.g 7;have hjz:=hmr.jz;have hkz:=hmr.kz;have hkj:=hmr.ne;have hjk:j≠k:=fun e=>hmr.ne e.symm;have HOP:Hid _:=hmr.opq (z0X ((l.drop a).take (b- a)));clear hmr HEND HNEXT HMK HNO hy HES HX1 HLEN;generalize z0X ((l.drop a).take (b- a))=out at*;go_wp2_with fail;refine Calls.mono (HMD.out b _ _ _ hb HOP.out) ?_;rintro e w9 ⟨rfl,hf9⟩;have HF9:Hid _:=hf9;clear hf9;go_wp2;exact bodyPost_end (v:=.tuple #[]) (z05 rfl _ _ _) rfl ⟨rfl,by rw[HE.out];exact HF9.out⟩
  |false=>
   obtain⟨hlt,hno2,hesc⟩:=HNEXT.out b hab hb HNO.out hy;have HNO2:Hid _:=hno2;have HESC:Hid _:=hesc;have hx1:=HX1.out b hlt;have hsz:=HL.out;obtain⟨out,hout⟩:=z09 (z0X ((l.drop a).take (b- a)));rw[←hout] at HESC hsz⊢;obtain⟨out2,hout2⟩:=z09 (z0X ((l.drop a).take (b+1- a)));rw[←hout2] at HESC;have HO2:=hI hout2;have hlb:(b:Int)<(s.size:Int):=(by omega);by_cases h32:(s[b].toNat:Int)=32
   ·have HADD:Hid ((⟨out.toArray⟩:ByteArray)++⟨#[37,50,48]⟩=⟨out2.toArray⟩):=by
     show _=_;rw[HESC.out,if_pos h32];exact z0G out [37,50,48]
    have hadd:∀V:World,(Op.stringOp .add ⟨out.toArray⟩ ⟨#[37,50,48]⟩).run prog V=.ok (.string ⟨out2.toArray⟩) V:=fun V=>by
     rw[run_string_add_sum V _ _ (by rw[z07];show _+3≤_;omega),HADD.out]
    have HM3:Hid (∀n,Mem B R k j bv s w0 u pv ((b+1:Nat):Int) (st:Nat) 0 ((wr.drewN n).setCell ⟨k,3,none⟩ (.int .i64 ((b:Int)+1)))):=fun n=>(HMR.out.drewN n).set_a _;clear hmr HEND HNEXT HNO hno2 hy hesc HESC HADD hout hout2 HX1 HES HLEN hx1;go_wp2;go_quiet (fail);go_wp2_with fail;refine Calls.mono (HMK.out (b+1) _ hlt (HM3.out _)) ?_;rintro e w4 ⟨rfl,hm5⟩;have HM5:Hid _:=hm5;have z3:=hm5.y3;clear hm5;go_wp2;go_roundw
    case rel=>exact⟨b+1,by omega,hlt,by rw[←HO2.out],rfl,HNO2.out,HM5.out⟩
    case measure=>(simp[intOf,y3,z3];try omega)
   ·have HADD:Hid ((⟨out.toArray⟩:ByteArray)++⟨(esc 0 [s[b]]).toArray⟩=⟨out2.toArray⟩):=by
     show _=_;rw[HESC.out,if_neg h32];exact z0G out (esc 0 [s[b]])
    have he9:(esc 0 [s[b]]).length≤3:=z4T 0 [s[b]];have hadd:∀V:World,(Op.stringOp .add ⟨out.toArray⟩ ⟨(esc 0 [s[b]]).toArray⟩).run prog V=.ok (.string ⟨out2.toArray⟩) V:=fun V=>by
     rw[run_string_add_sum V _ _ (by rw[z07,z07];omega),HADD.out]
    have h32b:((s[b].toNat:Int)==32)=false:=(by simpa using h32);have HEC:Hid _:=HES.out s[b];have q6:IntKind.i64.wrap ((b:Int)+1)=(b:Int)+1:=(by rw[IntWalk.i64_left];unfold wrap64;omega);have q2:(b:Int)+1≤(s.size:Int):=(by omega);have q3:((b:Int)+1).toNat=b+1:=(by omega);have q4:(0:Int)≤(b:Int)+1:=(by omega);have q5:(b:Int)≤(b:Int)+1:=(by omega);have HCL:Hid (∀w5,Below wr.heap.size wr w5→w5.cell? ⟨k,2,none⟩=some (.string s)∧w5.cell? ⟨k,3,none⟩=some (.int .i64 (b:Nat))∧w5.frozen? ⟨k,3,none⟩=false∧Hid (∀n,Mem B R k j bv s w0 u pv ((b+1:Nat):Int) (st:Nat) 0 ((w5.drewN n).setCell ⟨k,3,none⟩ (.int .i64 ((b:Int)+1))))):=(by intro w5 h5;have h6:=hmr.off h5;exact⟨z00 h6.mach 2,z00 h6.mach 3,h6.f 3,fun n=>(h6.drewN n).set_a _⟩);generalize(⟨(esc 0 [s[b]]).toArray⟩:ByteArray)=eb at*;clear hmr HEND HNEXT HNO hno2 hy hesc HESC HADD hout hout2 HX1 HES HLEN h32 he9;go_wp2;go_quiet (fail);go_wp2;go_region_held3 (fun w'=>w'.cell? ⟨k,2,none⟩=some (.string s)∧w'.cell? ⟨k,3,none⟩=some (.int .i64 (b:Nat))) (go_keep) (first|(go_at_call 40;refine Calls.mono (HEC.out _) ?_;rintro e w5 ⟨rfl,hb5⟩;obtain⟨z2,z3,x3,HM3⟩:=HCL.out w5 ((z1x rfl rfl rfl rfl:Below wr.heap.size wr (wr.drewN _)).trans hb5);clear hb5))
    go_wp2_with fail;refine Calls.mono (HMK.out (b+1) _ hlt (HM3.out 0)) ?_;rintro e w4 ⟨rfl,hm5⟩;have HM5:Hid _:=hm5;have t3:=hm5.y3;clear hm5;go_wp2;go_roundw
    case rel=>exact⟨b+1,by omega,hlt,by rw[←HO2.out],rfl,HNO2.out,HM5.out⟩
    case measure=>(simp[intOf,y3,t3];try omega)
end Go.Proofs
