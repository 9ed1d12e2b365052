import Derived.Test.YtkcnageeamappaaGreatDoorXU18b
set_option maxHeartbeats 32000000
set_option maxRecDepth 8000
namespace Go.Proofs
open Go.RowKit Go.Moor Go.Proofs.Tryz
theorem zhf (l:Bs) (b:Nat) (h:b<l.length):(z1I (l.drop b) !=35)=decide (l[b]≠35)∧0≤z1I (l.drop b):=by
 rw[List.drop_eq_getElem_cons h];have e:z1I (l[b]::l.drop (b+1))=(l[b].toNat:Int):=rfl;rw[e];refine⟨?_,by omega⟩;unfold bne;by_cases hx:l[b]=35
 ·rw[hx];rfl
 ·have:¬(l[b].toNat:Int)=35:=fun e=>hx ((z1e l[b] 35 (by decide)).2 e)
  rw[decide_eq_true hx,beq_eq_false_iff_ne.2 this];rfl
theorem zbg {B R k j:Nat} {bv:Value} {s:ByteArray} {w0:World} {u:Adr} {pv:Value} (a:Nat) {w:World} (hm:Mem B R k j bv s w0 u pv (a:Nat) 11 0 w) (ha:a≤s.size) (hs:s.size≤1000000):CQ 124 #[.pointer (some ⟨k,0,none⟩)] w (.tuple #[]) (z3u B R k j bv s w0 (z3G ⟨u,s.data.toList.drop a,11,0⟩)):=by
 obtain⟨l,hl⟩:=z09 s.data.toList;have hlen:l.length=s.size:=by rw[hl,Array.length_toList];rfl
 have HCC:Hid (∀(b:Nat) W,b≤s.size→Mem B R k j bv s w0 u pv (b:Nat) 11 0 W→CQ 176 #[.pointer (some ⟨k,0,none⟩)] W (.int .i64 (z1I (l.drop b))) (Mem B R k j bv s w0 u pv (b:Nat) 11 0)):=by intro b W hb hW;rw[hl];refine(zp9 b hW (by omega)).mono ?_;rintro e w' ⟨he,n,rfl⟩;exact⟨he,hW.drewN n⟩
 have HXT:Hid (∀i j:Nat,s.extract i j=⟨((l.drop i).take (j- i)).toArray⟩):=by intro i j;rw[hl];exact z1Z s i j
 have HSP:=hI fun W=>zae ⟨u.scheme.toArray⟩ W;have HMD:Hid (∀(b:Nat) (u2:Adr) W,b≤s.size→Mem B R k j bv s w0 u2 pv (b:Nat) 11 0 W→CQ 184 #[.pointer (some ⟨k,0,none⟩)] W (.tuple #[]) (z3u B R k j bv s w0 (z0L ⟨u2,s.data.toList.drop b,11,0⟩))):=fun b u2 W hb hW=>z7G b 11 hW hb (by omega);have HEND:Hid (∀b,a≤b→b≤s.size→(∀i (h:i<l.length),a≤i→i<b→decide (l[i]≠35)=true)→(b=l.length∨∃h:b<l.length,decide (l[b]≠35)=false)→z3G ⟨u,s.data.toList.drop a,11,0⟩=z0L ⟨{u with query:=some (esc (z0q u.scheme) ((l.drop a).take (b- a)))},s.data.toList.drop b,11,0⟩):=by intro b hab hb hno hx;rw[←hl];have:=zig (fun c=>decide (c≠35)) l a b hab hno (by omega) hx;unfold z3G;simp only;rw[this.1,this.2]
 have HES:Hid (∀(t:Bs) (set:Int) W,t.length≤1000000→CB 40 #[.string ⟨t.toArray⟩,.int .i64 set] W (.string ⟨(esc set t).toArray⟩)):=fun t set W ht=>zb3 ⟨t.toArray⟩ set W (by rw[z07];omega);have y3:=hm.y3;have y4:=hm.y4;have HM:=hI hm;clear hm hl;go_enter func124,ntmps124;go_wp2_with fail;go_loopw [] (fun wr=>∃b:Nat,a≤b∧b≤s.size∧(∀i (h:i<l.length),a≤i→i<b→decide (l[i]≠35)=true)∧Mem B R k j bv s w0 u pv (b:Nat) 11 0 wr) (fun wr=>s.size-((wr.cell? ⟨k,3,none⟩).map intOf).getD 0|>.toNat)
 case atStart=>exact⟨a,Nat.le_refl _,ha,fun i h h1 h2=>by omega,HM⟩
 case round=>
  clear HM y3 y4;obtain⟨b,hab,hb,hno,hmr⟩:=hrel;have HNO:=hI hno;have HMR:=hI hmr;have m3:=hmr.y3;clear hno hmr;by_cases hgo:∃h:b<l.length,decide (l[b]≠35)=true
  ·obtain⟨hlt,hd⟩:=hgo
   have hma:=zhf l b hlt;have hn35:(z1I (l.drop b) !=35)=true:=(by rw[hma.1];exact hd);have hge:=hma.2;have HNO2:Hid (∀i (h:i<l.length),a≤i→i<b+1→decide (l[i]≠35)=true):=by
    intro i h h1 h2;rcases Nat.lt_or_ge i b with h3|h3
    ·exact HNO i h h1 h3
    ·have:i=b:=by omega
     subst this;exact hd
   have hlb:b+1≤s.size:=(by omega);have HCB:Hid _:=fun W=>HCC b W hb;generalize z1I (l.drop b)=c at*;clear HEND HNO hma hd HSP HMD HES HXT;go_wp2_with fail;refine Calls.mono (HCB _ HMR) ?_;rintro e w1 ⟨rfl,hm1⟩;have HM1:Hid _:=hm1;clear hm1;go_wp2_with fail;refine Calls.mono (HCB _ HM1) ?_;rintro e w2 ⟨rfl,hm2⟩;have HM2:Hid _:=hm2;have z3:=hm2.y3;have x3:=hm2.f 3;clear hm2;go_wp2;go_roundw
   case rel=>exact⟨b+1,by omega,hlb,HNO2,HM2.out.set_a _⟩
   case measure=>have e3:(w2.setCell ⟨k,3,none⟩ (.int .i64 ((b:Int)+1))).cell? ⟨k,3,none⟩=some (.int .i64 ((b:Int)+1)):=z00 (HM2.out.set_a ((b:Int)+1)).mach 3;simp[intOf,m3,e3];try omega
  ·have hst:b=l.length∨∃h:b<l.length,decide (l[b]≠35)=false:=by
    rcases Nat.lt_or_ge b l.length with h|h
    ·right
     refine⟨h,?_⟩;cases hd:decide (l[b]≠35) with
     |false=>rfl
     |true=>exact absurd ⟨h,hd⟩ hgo
    ·left;omega
   have HE:Hid _:=HEND b hab hb HNO hst;have hcc:(¬0≤z1I (l.drop b))∨(0≤z1I (l.drop b)∧(z1I (l.drop b) !=35)=false):=by
    rcases hst with h|⟨h,h2⟩
    ·left
     rw[List.drop_of_length_le (by omega)];decide
    ·right
     have hma:=zhf l b h;exact⟨hma.2,by rw[hma.1];exact h2⟩
   have hx:=HXT a b;have HCB:Hid _:=fun W=>HCC b W hb;have hab2:(a:Int)≤(b:Int):=(by omega);have hbs:(b:Int)≤(s.size:Int):=(by omega);have htl:((l.drop a).take (b- a)).length≤1000000:=(by rw[List.length_take,List.length_drop];omega);obtain⟨t,ht⟩:=z09 ((l.drop a).take (b- a));rw[←ht] at hx HE htl;have HESC:=hI fun set W=>HES t set W htl;have HM9:Hid (∀w2,Mem B R k j bv s w0 u pv (b:Nat) 11 0 w2→∀(set:Int) w5,Below (w2.setCell ⟨j,8,none⟩ (.bool true)).heap.size (w2.setCell ⟨j,8,none⟩ (.bool true)) w5→w5.cell? ⟨k,0,none⟩=some (.pointer (some ⟨j,0,none⟩))∧w5.cell? ⟨k,2,none⟩=some (.string s)∧w5.cell? ⟨k,3,none⟩=some (.int .i64 (b:Nat))∧(∃v,w5.cell? ⟨j,9,none⟩=some v)∧w5.frozen? ⟨j,9,none⟩=false∧Hid (Mem B R k j bv s w0 {u with query:=some (esc set t)} pv (b:Nat) 11 0 (w5.setCell ⟨j,9,none⟩ (.string ⟨(esc set t).toArray⟩)))):=(by intro w2 hm2 set w5 h5;have h1:=hm2.uset (u':={u with query:=some (u.query.getD [])}) 8 (.bool true) rfl rfl;have h2:=h1.off h5;exact⟨z00 h2.mach 0,z00 h2.mach 2,z00 h2.mach 3,⟨_,z00 h2.url 9⟩,h2.g 9,h2.uset 9 _ rfl rfl⟩);have HQS:Hid (z0q u.scheme=if z0b u.scheme then 3 else 2):=rfl;rw[HQS.out] at HE;clear HEND HNO hgo hst HES HXT HCC ht htl HQS;generalize z1I (l.drop b)=c at*;rcases hcc with hneg|⟨hge,h35⟩
   ·cases hsp:z0b u.scheme with
    |true=>
     rw[hsp,if_pos rfl] at HE;rw[hsp] at HSP;clear hsp;go_wp2_with fail;refine Calls.mono (HCB _ HMR) ?_;rintro e w2 ⟨rfl,hm2⟩;have HM2:Hid _:=hm2;have z0:=hm2.y0;have z2:=hm2.y2;have z3:=hm2.y3;have c0:=hm2.v0;have c8:w2.cell? ⟨j,8,none⟩=some (.bool u.query.isSome):=z00 hm2.url 8;have d8:=hm2.g 8;have hkj:=hm2.ne;have hjk:j≠k:=fun e=>hm2.ne e.symm;have HM10:Hid _:=HM9 w2 hm2 3;clear hm2 HM9;go_wp2_with fail;refine Calls.mono (HSP _) ?_;rintro e w3 ⟨rfl,hw3⟩;obtain rfl:=hw3.symm;go_wp2;go_region_held3 (fun w'=>w'.cell? ⟨k,0,none⟩=some (.pointer (some ⟨j,0,none⟩))∧w'.cell? ⟨k,2,none⟩=some (.string s)∧w'.cell? ⟨k,3,none⟩=some (.int .i64 (b:Nat))) (go_keep) (first|(go_at_call 40;refine Calls.mono (HESC _ _) ?_;rintro e w5 ⟨rfl,hb5⟩;obtain⟨v0,v2,v3,⟨v9,z9⟩,x9,HM3⟩:=HM10 w5 ((z1x rfl rfl rfl rfl:Below (w2.setCell ⟨j,8,none⟩ (.bool true)).heap.size (w2.setCell ⟨j,8,none⟩ (.bool true)) (w2.setCell ⟨j,8,none⟩ (.bool true)).drew).trans hb5);clear hb5))
     all_goals
      go_wp2_with fail;refine Calls.mono (HMD b _ _ hb HM3) ?_;rintro e w9 ⟨rfl,hf9⟩;have HF9:Hid _:=hf9;clear hf9;go_wp2;exact bodyPost_end (v:=.tuple #[]) (z05 rfl _ _ _) rfl ⟨rfl,by rw[HE.out];exact HF9⟩
    |false=>
     rw[hsp,if_neg (by decide)] at HE;rw[hsp] at HSP;clear hsp;go_wp2_with fail;refine Calls.mono (HCB _ HMR) ?_;rintro e w2 ⟨rfl,hm2⟩;have HM2:Hid _:=hm2;have z0:=hm2.y0;have z2:=hm2.y2;have z3:=hm2.y3;have c0:=hm2.v0;have c8:w2.cell? ⟨j,8,none⟩=some (.bool u.query.isSome):=z00 hm2.url 8;have d8:=hm2.g 8;have hkj:=hm2.ne;have hjk:j≠k:=fun e=>hm2.ne e.symm;have HM10:Hid _:=HM9 w2 hm2 2;clear hm2 HM9;go_wp2_with fail;refine Calls.mono (HSP _) ?_;rintro e w3 ⟨rfl,hw3⟩;obtain rfl:=hw3.symm;go_wp2;go_region_held3 (fun w'=>w'.cell? ⟨k,0,none⟩=some (.pointer (some ⟨j,0,none⟩))∧w'.cell? ⟨k,2,none⟩=some (.string s)∧w'.cell? ⟨k,3,none⟩=some (.int .i64 (b:Nat))) (go_keep) (first|(go_at_call 40;refine Calls.mono (HESC _ _) ?_;rintro e w5 ⟨rfl,hb5⟩;obtain⟨v0,v2,v3,⟨v9,z9⟩,x9,HM3⟩:=HM10 w5 ((z1x rfl rfl rfl rfl:Below (w2.setCell ⟨j,8,none⟩ (.bool true)).heap.size (w2.setCell ⟨j,8,none⟩ (.bool true)) (w2.setCell ⟨j,8,none⟩ (.bool true)).drew).trans hb5);clear hb5))
     all_goals
      go_wp2_with fail;refine Calls.mono (HMD b _ _ hb HM3) ?_;rintro e w9 ⟨rfl,hf9⟩;have HF9:Hid _:=hf9;clear hf9;go_wp2;exact bodyPost_end (v:=.tuple #[]) (z05 rfl _ _ _) rfl ⟨rfl,by rw[HE.out];exact HF9⟩
   ·cases hsp:z0b u.scheme with
    |true=>
     rw[hsp,if_pos rfl] at HE;rw[hsp] at HSP;clear hsp;go_wp2_with fail;refine Calls.mono (HCB _ HMR) ?_;rintro e w1 ⟨rfl,hm1⟩;have HM1:Hid _:=hm1;clear hm1;go_wp2_with fail;refine Calls.mono (HCB _ HM1) ?_;rintro e w2 ⟨rfl,hm2⟩;have HM2:Hid _:=hm2;have z0:=hm2.y0;have z2:=hm2.y2;have z3:=hm2.y3;have c0:=hm2.v0;have c8:w2.cell? ⟨j,8,none⟩=some (.bool u.query.isSome):=z00 hm2.url 8;have d8:=hm2.g 8;have hkj:=hm2.ne;have hjk:j≠k:=fun e=>hm2.ne e.symm;have HM10:Hid _:=HM9 w2 hm2 3;clear hm2 HM9;go_wp2_with fail;refine Calls.mono (HSP _) ?_;rintro e w3 ⟨rfl,hw3⟩;obtain rfl:=hw3.symm;go_wp2;go_region_held3 (fun w'=>w'.cell? ⟨k,0,none⟩=some (.pointer (some ⟨j,0,none⟩))∧w'.cell? ⟨k,2,none⟩=some (.string s)∧w'.cell? ⟨k,3,none⟩=some (.int .i64 (b:Nat))) (go_keep) (first|(go_at_call 40;refine Calls.mono (HESC _ _) ?_;rintro e w5 ⟨rfl,hb5⟩;obtain⟨v0,v2,v3,⟨v9,z9⟩,x9,HM3⟩:=HM10 w5 ((z1x rfl rfl rfl rfl:Below (w2.setCell ⟨j,8,none⟩ (.bool true)).heap.size (w2.setCell ⟨j,8,none⟩ (.bool true)) (w2.setCell ⟨j,8,none⟩ (.bool true)).drew).trans hb5);clear hb5))
     all_goals
      go_wp2_with fail;refine Calls.mono (HMD b _ _ hb HM3) ?_;rintro e w9 ⟨rfl,hf9⟩;have HF9:Hid _:=hf9;clear hf9;go_wp2;exact bodyPost_end (v:=.tuple #[]) (z05 rfl _ _ _) rfl ⟨rfl,by rw[HE.out];exact HF9⟩
    |false=>
     rw[hsp,if_neg (by decide)] at HE;rw[hsp] at HSP;clear hsp;go_wp2_with fail;refine Calls.mono (HCB _ HMR) ?_;rintro e w1 ⟨rfl,hm1⟩;have HM1:Hid _:=hm1;clear hm1;go_wp2_with fail;refine Calls.mono (HCB _ HM1) ?_;rintro e w2 ⟨rfl,hm2⟩;have HM2:Hid _:=hm2;have z0:=hm2.y0;have z2:=hm2.y2;have z3:=hm2.y3;have c0:=hm2.v0;have c8:w2.cell? ⟨j,8,none⟩=some (.bool u.query.isSome):=z00 hm2.url 8;have d8:=hm2.g 8;have hkj:=hm2.ne;have hjk:j≠k:=fun e=>hm2.ne e.symm;have HM10:Hid _:=HM9 w2 hm2 2;clear hm2 HM9;go_wp2_with fail;refine Calls.mono (HSP _) ?_;rintro e w3 ⟨rfl,hw3⟩;obtain rfl:=hw3.symm;go_wp2;go_region_held3 (fun w'=>w'.cell? ⟨k,0,none⟩=some (.pointer (some ⟨j,0,none⟩))∧w'.cell? ⟨k,2,none⟩=some (.string s)∧w'.cell? ⟨k,3,none⟩=some (.int .i64 (b:Nat))) (go_keep) (first|(go_at_call 40;refine Calls.mono (HESC _ _) ?_;rintro e w5 ⟨rfl,hb5⟩;obtain⟨v0,v2,v3,⟨v9,z9⟩,x9,HM3⟩:=HM10 w5 ((z1x rfl rfl rfl rfl:Below (w2.setCell ⟨j,8,none⟩ (.bool true)).heap.size (w2.setCell ⟨j,8,none⟩ (.bool true)) (w2.setCell ⟨j,8,none⟩ (.bool true)).drew).trans hb5);clear hb5))
     all_goals
      go_wp2_with fail;refine Calls.mono (HMD b _ _ hb HM3) ?_;rintro e w9 ⟨rfl,hf9⟩;have HF9:Hid _:=hf9;clear hf9;go_wp2;exact bodyPost_end (v:=.tuple #[]) (z05 rfl _ _ _) rfl ⟨rfl,by rw[HE.out];exact HF9⟩
end Go.Proofs
