import Derived.Test.YtkcnageeamappaaGreatDoorXU9
import Derived.Test.YtkcnageeamappaaGreatDoorXU10
set_option maxHeartbeats 32000000
set_option maxRecDepth 8000
namespace Go.Proofs
open Go.RowKit Go.Moor Go.Proofs.Tryz
theorem z7D (w:World) (j i:Nat) (cs:Array Value) (t:TypeId) (v:Value) (h:w.heap[j]?=some (.cells cs t (0,0))):(w.drew.setCell ⟨j,i,none⟩ v).heap[j]?=some (.cells (cs.setIfInBounds i v) t (0,0)):=heap_setCell_same w.drew j i cs t v h
theorem Tryz.Mem.besideOpaque {B R k j:Nat} {bv:Value} {s:ByteArray} {w0 w:World} {u b:Adr} {bj:Nat} {pv bpv:Value} {a st er:Int} (h:Tryz.Mem B R k j bv s w0 u pv a st er w) (hb:Tryz.UBase B w0 b bj bpv) (ho:b.way.opaq=true):Tryz.Mem B R k j bv s w0 {u with scheme:=b.scheme,way:=b.way,query:=b.query} bpv a st er ((((((((w.drew.setCell ⟨j,0,none⟩ (.string ⟨b.scheme.toArray⟩)).setCell ⟨j,6,none⟩ (.bool true)).drew.setCell ⟨j,7,none⟩ bpv).drew).setCell ⟨j,8,none⟩ (.bool b.query.isSome)).drew).setCell ⟨j,9,none⟩ (.string ⟨(b.query.getD []).toArray⟩))):=by
 have o9:OnlyAt j w ((((((((w.drew.setCell ⟨j,0,none⟩ (.string ⟨b.scheme.toArray⟩)).setCell ⟨j,6,none⟩ (.bool true)).drew.setCell ⟨j,7,none⟩ bpv).drew).setCell ⟨j,8,none⟩ (.bool b.query.isSome)).drew).setCell ⟨j,9,none⟩ (.string ⟨(b.query.getD []).toArray⟩))):=(((((((OnlyAt.refl j w).drew.set 0 _).set 6 _).drew.set 7 _).drew).set 8 _).drew).set 9 _;have h0:=z7D w j 0 _ _ (.string ⟨b.scheme.toArray⟩) h.url;have e0:(z1w u pv).setIfInBounds 0 (.string ⟨b.scheme.toArray⟩)=z1w {u with scheme:=b.scheme} pv:=rfl;rw[e0] at h0;have h6:=heap_setCell_same _ j 6 _ _ (.bool true) h0;have e6:(z1w {u with scheme:=b.scheme} pv).setIfInBounds 6 (.bool true)=z1w {u with scheme:=b.scheme,way:=⟨true,[],[]⟩} pv:=rfl;rw[e6] at h6;have h7:=z7D _ j 7 _ _ bpv h6;have e7:(z1w {u with scheme:=b.scheme,way:=⟨true,[],[]⟩} pv).setIfInBounds 7 bpv=z1w {u with scheme:=b.scheme,way:=⟨true,[],[]⟩} bpv:=rfl;rw[e7] at h7;have h8:=z7D _ j 8 _ _ (.bool b.query.isSome) h7;have h9:=z7D _ j 9 _ _ (.string ⟨(b.query.getD []).toArray⟩) h8;have e9:((z1w {u with scheme:=b.scheme,way:=⟨true,[],[]⟩} bpv).setIfInBounds 8 (.bool b.query.isSome)).setIfInBounds 9 (.string ⟨(b.query.getD []).toArray⟩)=z1w {u with scheme:=b.scheme,way:=⟨true,[],[]⟩,query:=b.query} bpv:=rfl;rw[e9] at h9;have e10:z1w {u with scheme:=b.scheme,way:=⟨true,[],[]⟩,query:=b.query} bpv=z1w {u with scheme:=b.scheme,way:=b.way,query:=b.query} bpv:=by unfold z1w;rw[ho]
 rw[e10] at h9;refine h.upd o9 h9 ?_;rcases hb.row with⟨h2,_⟩|⟨_,g,cap,hv,h3,h4,hc,hg⟩
 ·rw[ho] at h2;cases h2
 ·have hbw:=o9.below h.below h.bj
  refine Or.inr ⟨ho,g,cap,hv,h3,h4,?_,?_,Or.inl hg⟩
  ·rw[←hc]
   exact hbw.cell hg
  ·have:=hbw.size
   rw[o9.size];exact Nat.lt_of_lt_of_le hg h.bz
theorem z9R {B R k j:Nat} {bv:Value} {s:ByteArray} {w0:World} {u:Adr} {pv:Value} (a st:Nat) {w:World} {base:Option Adr} (hm:Tryz.Mem B R k j bv s w0 u pv (a:Nat) (st:Nat) 0 w) (hb:z6s B w0 bv base) (ha:a≤s.size) (hs:s.size≤35184372088832):Calls Tryz.prog 175 #[.pointer (some ⟨k,0,none⟩)] w fun e w'=>e=.returned (.tuple #[])∧z6B B R k j bv s w0 (z3v base ⟨u,s.data.toList.drop a,st,0⟩) w':=by
 have y0:w.cell? ⟨k,0,none⟩=some (.pointer (some ⟨j,0,none⟩)):=z00 hm.mach 0;have y1:w.cell? ⟨k,1,none⟩=some bv:=z00 hm.mach 1;have y4:w.cell? ⟨k,4,none⟩=some (.int .i64 (st:Nat)):=z00 hm.mach 4;have y5:w.cell? ⟨k,5,none⟩=some (.int .i64 0):=z00 hm.mach 5;have f4:=z04 hm.mach 4;have f5:=z04 hm.mach 5;have HM:=hI hm;cases base with
 |none=>have hbv:bv=.pointer none:=hb;subst hbv;clear hm hb;go_enter Tryz.func175,Tryz.ntmps175;go_wp2;exact bodyPost_ret (v:=.tuple #[]) (z05 rfl _ _ _) rfl ⟨rfl,z3s (HM.out.set_er 3) _ rfl (by decide)⟩
 |some b=>
  obtain⟨bj,bpv,hbv,hbu⟩:=hb;subst hbv;have hub:=(hm.below.block bj hbu.lt).trans hbu.url;have HC:Hid _:=zgL k a s w (z00 hm.mach 2) (z00 hm.mach 3) (by omega);have hkj:=hm.ne;have hjk:j≠k:=fun e=>hm.ne e.symm;have hbjj:bj≠j:=by have:=hbu.lt;have:=hm.bj;omega
  have hbjk:bj≠k:=by have:=hbu.lt;have:=hm.bk;omega
  have b6:w.cell? ⟨bj,6,none⟩=some (.bool b.way.opaq):=z00 hub 6;have b0:w.cell? ⟨bj,0,none⟩=some (.string ⟨b.scheme.toArray⟩):=z00 hub 0;have c0:w.cell? ⟨j,0,none⟩=some (.string ⟨u.scheme.toArray⟩):=z00 hm.url 0;have d0:=z04 hm.url 0;obtain⟨ci,hci⟩:=z09 (z1I (s.data.toList.drop a));rw[←hci] at HC;cases hop:b.way.opaq with
  |true=>
   rw[hop] at b6;by_cases h35:(ci==35)=true
   ·have HE:Hid (z3v (some b) ⟨u,s.data.toList.drop a,st,0⟩=z0L ⟨{u with scheme:=b.scheme,way:=b.way,query:=b.query},s.data.toList.drop a,st,0⟩):=by
     show _=_;have hh:=(z6T _).2 (by rw[←hci];exact h35);unfold z3v;simp only;rw[if_neg (fun h=>h.2 hh),if_pos hop]
    have HB:Hid _:=fun n=>(hm.drewN n).besideOpaque hbu hop;have HMD:Hid (∀W,Tryz.Mem B R k j (.pointer (some ⟨bj,0,none⟩)) s w0 {u with scheme:=b.scheme,way:=b.way,query:=b.query} bpv (a:Nat) (st:Nat) 0 W→Calls Tryz.prog 184 #[.pointer (some ⟨k,0,none⟩)] W fun e w'=>e=.returned (.tuple #[])∧z3u B R k j (.pointer (some ⟨bj,0,none⟩)) s w0 (z0L ⟨{u with scheme:=b.scheme,way:=b.way,query:=b.query},s.data.toList.drop a,st,0⟩) w'):=fun W hW=>z7G a st hW ha hs;have b7:w.cell? ⟨bj,7,none⟩=some bpv:=z00 hub 7;obtain⟨bg,bcap,hbp⟩:∃g cap,bpv=.slice (some ⟨g,0,none⟩) 1 cap:=by
     rcases hbu.row with⟨h2,_⟩|⟨_,g,cap,hv,_⟩
     ·rw[hop] at h2;cases h2
     ·exact⟨g,cap,hv⟩
    have b8:w.cell? ⟨bj,8,none⟩=some (.bool b.query.isSome):=z00 hub 8;have b9:w.cell? ⟨bj,9,none⟩=some (.string ⟨(b.query.getD []).toArray⟩):=z00 hub 9;have c6:w.cell? ⟨j,6,none⟩=some (.bool u.way.opaq):=z00 hm.url 6;have c7:w.cell? ⟨j,7,none⟩=some pv:=z00 hm.url 7;have c8:w.cell? ⟨j,8,none⟩=some (.bool u.query.isSome):=z00 hm.url 8;have c9:w.cell? ⟨j,9,none⟩=some (.string ⟨(u.query.getD []).toArray⟩):=z00 hm.url 9;have d6:=z04 hm.url 6;have d7:=z04 hm.url 7;have d8:=z04 hm.url 8;have d9:=z04 hm.url 9;have n35:(ci !=35)=false:=(by unfold bne;rw[h35];rfl);rw[hbp] at b7;have HBP:=hI hbp;clear hm hbu hub hci hop h35 hbp y4 f4 y5 f5;go_enter Tryz.func175,Tryz.ntmps175;go_wp2_with fail;refine Calls.mono HC ?_;rintro e w1 ⟨rfl,n,rfl⟩;go_wp2;go_region;go_wp2;go_region;go_wp2;go_region;go_wp2;go_region;go_wp2_with fail;refine Calls.mono (HMD _ (by rw[←HBP.out];exact HB n)) ?_;rintro e w2 ⟨rfl,hf⟩;have HF:Hid _:=hf;clear hf;go_wp2;exact bodyPost_end (v:=.tuple #[]) (z05 rfl _ _ _) rfl ⟨rfl,by rw[HE.out];exact z4g HF rfl⟩
   ·have hno:(ci==35)=false:=by simpa using h35
    have HE:Hid ((z3v (some b) ⟨u,s.data.toList.drop a,st,0⟩).err=3):=(by show _=_;unfold z3v;simp only;rw[if_pos ⟨hop,z5x _ 35 _ (z6T _) (by rw[←hci];exact hno)⟩]);have n35:(ci !=35)=true:=(by unfold bne;rw[hno];rfl);clear hm hbu hub hci hop h35 hno b0 c0 d0;go_enter Tryz.func175,Tryz.ntmps175;go_wp2_with fail;refine Calls.mono HC ?_;rintro e w1 ⟨rfl,n,rfl⟩;go_wp2;exact bodyPost_ret (v:=.tuple #[]) (z05 rfl _ _ _) rfl ⟨rfl,z3s ((HM.out.drewN n).set_er 3) _ HE (by decide)⟩
  |false=>
   rw[hop] at b6;have HE:Hid (z3v (some b) ⟨u,s.data.toList.drop a,st,0⟩=⟨{u with scheme:=b.scheme},s.data.toList.drop a,(if b.scheme=sFile then 8 else 1),0⟩):=by show _=_;unfold z3v;simp only;rw[if_neg (fun h=>by rw[hop] at h;cases h.1),if_neg (by simp[hop])]
   have HB:Hid _:=hm.drew.uset (u':={u with scheme:=b.scheme}) 0 (.string ⟨b.scheme.toArray⟩) rfl rfl;by_cases hf:b.scheme=sFile
   ·have e1:((⟨b.scheme.toArray⟩:ByteArray).toList==[102,105,108,101])=true:=z4t b.scheme _ hf
    rw[if_pos hf] at HE;generalize(⟨b.scheme.toArray⟩:ByteArray)=bcb at*;clear hm hbu hub hci hop hf HC y5 f5;go_enter Tryz.func175,Tryz.ntmps175;go_wp2;go_region;go_wp2;exact bodyPost_end (v:=.tuple #[]) (z05 rfl _ _ _) rfl ⟨rfl,by rw[HE.out];exact z4g (z1S (a:=a) (HB.out.set_st 8) ha _ rfl) rfl⟩
   ·have e1:((⟨b.scheme.toArray⟩:ByteArray).toList==[102,105,108,101])=false:=z38 b.scheme _ hf
    rw[if_neg hf] at HE;generalize(⟨b.scheme.toArray⟩:ByteArray)=bcb at*;clear hm hbu hub hci hop hf HC y5 f5;go_enter Tryz.func175,Tryz.ntmps175;go_wp2;go_region;go_wp2;exact bodyPost_end (v:=.tuple #[]) (z05 rfl _ _ _) rfl ⟨rfl,by rw[HE.out];exact z4g (z1S (a:=a) (HB.out.set_st 1) ha _ rfl) rfl⟩
theorem zif (p:Bs):z1V p=0∨z1V p=1∨z1V p=2:=by
 unfold z1V;simp only;split
 ·exact Or.inr (Or.inl rfl)
 ·split
  ·exact Or.inr (Or.inr rfl)
  ·exact Or.inl rfl
theorem z5v (sc r:Bs):(z1i sc r).length≤r.length:=(List.takeWhile_sublist _).length_le
theorem Tryz.Mem.push {B R k j:Nat} {bv:Value} {s:ByteArray} {w0 w:World} {u:Adr} {pv:Value} {a st er:Int} (h:Mem B R k j bv s w0 u pv a st er w) (ho:u.way.opaq=false) (x:Bs) (sp:Option Go.Addr) (cap:Nat) (w5:World) (h5:w5.ownsRow R 9 1 (.slice sp (u.way.segs.length+1) cap) (u.way.segs.length+1) (z1J u.way.segs++ [.string ⟨x.toArray⟩])) (hg:(w.alloc (.cells #[.string ⟨x.toArray⟩] 9)).drew.grownBy w5 pv.ownBlock):w5.cell? ⟨k,0,none⟩=some (.pointer (some ⟨j,0,none⟩))∧w5.cell? ⟨j,7,none⟩=some pv∧w5.frozen? ⟨j,7,none⟩=false∧w5.cell? ⟨k,3,none⟩=some (.int .i64 a)∧w5.frozen? ⟨k,3,none⟩=false∧Hid (Mem B R k j bv s w0 {u with way:=⟨false,[],u.way.segs++ [x]⟩} (.slice sp (u.way.segs.length+1) cap) a st er (w5.setCell ⟨j,7,none⟩ (.slice sp (u.way.segs.length+1) cap))):=by obtain⟨f1,f2,f3⟩:=((h.alloc _).drew).far ho hg;refine⟨z00 f1 0,z00 f2 7,z04 f2 7,z00 f1 3,z04 f1 3,((h.alloc _).drew).grown ho hg (u.way.segs++ [x]) _ ?_⟩;rw[List.length_append,z4S];exact h5
theorem Tryz.Mem.lay {B R k j:Nat} {bv:Value} {s:ByteArray} {w0 w:World} {u:Adr} {pv:Value} {a st er:Int} (h:Mem B R k j bv s w0 u pv a st er w) (ho:u.way.opaq=false) (x:Bs):(w.alloc (.cells #[.string ⟨x.toArray⟩] 9)).drew.ownsRow R 9 1 pv u.way.segs.length (z1J u.way.segs)∧zem (w.alloc (.cells #[.string ⟨x.toArray⟩] 9)).drew (.slice (some ⟨w.heap.size,0,none⟩) 1 1) 1 [.string ⟨x.toArray⟩]∧R≤(w.alloc (.cells #[.string ⟨x.toArray⟩] 9)).drew.heap.size:=by
 refine⟨((h.alloc _).drew).owned ho,Or.inr ⟨⟨w.heap.size,0,none⟩,1,rfl,rfl,?_⟩,((h.alloc _).drew).rz⟩;intro q v hq;match q,hq with
 |0,hq=>simp at hq;subst hq;exact World.cell?_alloc_new w #[.string ⟨x.toArray⟩] 9 0
theorem z6j (x:Bs):∀q∈[Value.string ⟨x.toArray⟩],q.oneCell'=true:=by intro q hq;rw[List.mem_singleton] at hq;subst hq;rfl
theorem zaG (sc:Bs) (segs:List Bs) (p:Bs) (m:Bool) (h:z1V p=1):z1E sc segs p m=segs++(if m then [] else [[]]):=by unfold z1E;rw[if_neg (by omega),if_neg (by omega)]
theorem zaH (sc:Bs) (segs:List Bs) (p:Bs) (m:Bool) (h:z1V p=2):z1E sc segs p m=z08 sc segs++(if m then [] else [[]]):=by unfold z1E;rw[if_neg (by omega),if_pos h]
theorem ze5 (segs:List Bs) (p:Bs) (m:Bool) (h:z1V p=0) (h1:segs=[]) (h2:z0h p=true):z1E sFile segs p m=segs++ [p.take 1++ [58]]:=by unfold z1E z2G;rw[if_pos h,h1,h2];rfl
theorem z7W (sc:Bs) (segs:List Bs) (p:Bs) (m:Bool) (h:z1V p=0) (h1:¬(segs=[]∧sc=sFile∧z0h p=true)):z1E sc segs p m=segs++ [esc 4 p]:=by unfold z1E z2G;rw[if_pos h,if_neg];intro h2;rw[Bool.and_eq_true,Bool.and_eq_true,decide_eq_true_iff,List.isEmpty_iff] at h2;exact h1 ⟨h2.1.1,h2.1.2,h2.2⟩
section
variable {B R k j : Nat} {bv : Value} {s : ByteArray} {w0 w : World} {u : Adr} {pv : Value} {a : Nat}
theorem sSL (_:Tryz.Mem B R k j bv s w0 u pv a 6 0 w) (_:s.size≤1000000):∀(b:Nat) W,b≤s.size→Tryz.Mem B R k j bv s w0 u pv (b:Nat) 6 0 W→CN 178 #[.pointer (some ⟨k,0,none⟩)] W (.bool (z0o (z06 u.scheme) (s.data.toList.drop b))):=fun b _ hb hW=>z4i b hW (by omega)
theorem sSH (_:Tryz.Mem B R k j bv s w0 u pv a 6 0 w) (ho:u.way.opaq=false):∀(b:Nat) W,Tryz.Mem B R k j bv s w0 u pv (b:Nat) 6 0 W→Calls Tryz.prog 224 #[.pointer (some ⟨k,0,none⟩)] W fun e w'=>e=.returned (.tuple #[])∧∃pv2,Tryz.Mem B R k j bv s w0 {u with way:=⟨false,[],z08 u.scheme u.way.segs⟩} pv2 (b:Nat) 6 0 w':=fun _ _ hW=>zag hW ho
theorem sMD (_:Tryz.Mem B R k j bv s w0 u pv a 6 0 w) (_:s.size≤1000000):∀(b:Nat) (u2:Adr) pv2 W,b≤s.size→Tryz.Mem B R k j bv s w0 u2 pv2 (b:Nat) 6 0 W→CQ 184 #[.pointer (some ⟨k,0,none⟩)] W (.tuple #[]) (z3u B R k j bv s w0 (z0L ⟨u2,s.data.toList.drop b,6,0⟩)):=fun b _ _ _ hb hW=>z7G b 6 hW hb (by omega)
theorem sFT {p:Bs} (hp:p=z1i u.scheme (s.data.toList.drop a)):∀b:Nat,z23 u.scheme (s.data.toList.drop a)=s.data.toList.drop b→z0o (z06 u.scheme) (s.data.toList.drop b)=true→z2q ⟨u,s.data.toList.drop a,6,0⟩=⟨{u with way:=⟨false,[],z1E u.scheme u.way.segs p true⟩},s.data.toList.drop (b+1),6,0⟩:=by intro b hbe hmo;unfold z2q;simp only;rw[hbe,←hp,hmo,if_pos rfl,List.drop_drop]
theorem sFF {p:Bs} (hp:p=z1i u.scheme (s.data.toList.drop a)):∀b:Nat,z23 u.scheme (s.data.toList.drop a)=s.data.toList.drop b→z0o (z06 u.scheme) (s.data.toList.drop b)=false→z2q ⟨u,s.data.toList.drop a,6,0⟩=z0L ⟨{u with way:=⟨false,[],z1E u.scheme u.way.segs p false⟩},s.data.toList.drop b,6,0⟩:=by intro b hbe hmo;unfold z2q;simp only;rw[hbe,←hp,hmo,if_neg (by decide)]
end
end Go.Proofs
