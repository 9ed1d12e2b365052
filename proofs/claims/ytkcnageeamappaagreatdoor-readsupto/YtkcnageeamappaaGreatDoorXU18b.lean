import Derived.Test.YtkcnageeamappaaGreatDoorXU18a
import Derived.Test.YtkcnageeamappaaGreatDoorXU13
set_option maxHeartbeats 32000000
set_option maxRecDepth 8000
namespace Go.Proofs
open Go.RowKit Go.Moor Go.Proofs.Tryz
theorem zfC (sc l:Bs) (b:Nat) (h:b<l.length):z0o (z06 sc) (l.drop b)=z06 sc l[b]:=by rw[List.drop_eq_getElem_cons h];rfl
theorem zcb {B R k j:Nat} {bv:Value} {s:ByteArray} {w0:World} {u:Adr} {pv:Value} (a:Nat) {w:World} (hm:Tryz.Mem B R k j bv s w0 u pv (a:Nat) 3 0 w) (ha:a≤s.size) (hs:s.size≤1000000):Calls Tryz.prog 124 #[.pointer (some ⟨k,0,none⟩)] w fun e w'=>e=.returned (.tuple #[])∧z3u B R k j bv s w0 (z4H ⟨u,s.data.toList.drop a,3,0⟩) w':=by
 obtain⟨l,hl⟩:=z09 s.data.toList;have hlen:l.length=s.size:=by rw[hl,Array.length_toList];rfl
 have HSL:Hid (∀(b:Nat) W,b≤s.size→Tryz.Mem B R k j bv s w0 u pv (b:Nat) 3 0 W→Calls Tryz.prog 178 #[.pointer (some ⟨k,0,none⟩)] W fun e w'=>e=.returned (.bool (z0o (z06 u.scheme) (l.drop b)))∧Tryz.Mem B R k j bv s w0 u pv (b:Nat) 3 0 w'):=by intro b W hb hW;rw[hl];refine(z4i b hW (by omega)).mono ?_;rintro e w' ⟨he,n,rfl⟩;exact⟨he,hW.drewN n⟩
 have HEND:Hid (∀b,a≤b→b≤s.size→(∀i (h:i<l.length),a≤i→i<b→z06 u.scheme l[i]=true)→z0o (z06 u.scheme) (l.drop b)=false→z4H ⟨u,s.data.toList.drop a,3,0⟩=⟨u,s.data.toList.drop b,4,0⟩):=by
  intro b hab hb hno hx;rw[←hl];have:=zig (z06 u.scheme) l a b hab hno (by omega) (by
   rcases Nat.lt_or_ge b l.length with h|h
   ·right
    exact⟨h,by rw[←zfC u.scheme l b h];exact hx⟩
   ·left;omega)
  unfold z4H;simp only;rw[this.2]
 have HNEXT:Hid (∀b,b≤s.size→(∀i (h:i<l.length),a≤i→i<b→z06 u.scheme l[i]=true)→z0o (z06 u.scheme) (l.drop b)=true→b<s.size∧∀i (h:i<l.length),a≤i→i<b+1→z06 u.scheme l[i]=true):=by
  intro b hb hno h1;have hlt:b<l.length:=by
   rcases Nat.lt_or_ge b l.length with h|h
   ·exact h
   ·rw[List.drop_of_length_le h] at h1
    cases h1
  refine⟨by omega,fun i h h3 h4=>?_⟩;rcases Nat.lt_or_ge i b with h5|h5
  ·exact hno i h h3 h5
  ·have:i=b:=by omega
   subst this;rw[←zfC u.scheme l i hlt];exact h1
 have y4:w.cell? ⟨k,4,none⟩=some (.int .i64 3):=z00 hm.mach 4;have HM:=hI hm;clear hm hl;go_enter Tryz.func124,Tryz.ntmps124;go_wp2_with fail;refine Calls.mono (HSL a w ha HM) ?_;rintro e w1 ⟨rfl,hm1⟩;have HM1:Hid _:=hm1;clear hm1 HM y4;go_wp2_with fail;go_loopw [4] (fun x wr=>∃b:Nat,a≤b∧b≤s.size∧x=.bool (z0o (z06 u.scheme) (l.drop b))∧(∀i (h:i<l.length),a≤i→i<b→z06 u.scheme l[i]=true)∧Tryz.Mem B R k j bv s w0 u pv (b:Nat) 3 0 wr) (fun x wr=>s.size-((wr.cell? ⟨k,3,none⟩).map intOf).getD 0|>.toNat)
 case atStart=>exact⟨a,Nat.le_refl _,ha,rfl,fun i h h1 h2=>by omega,HM1⟩
 case round=>
  clear HM1;obtain⟨b,hab,hb,rfl,hno,hmr⟩:=hrel;have HNO:=hI hno;have HMR:=hI hmr;have y3:wr.cell? ⟨k,3,none⟩=some (.int .i64 (b:Nat)):=z00 hmr.mach 3;have y4:wr.cell? ⟨k,4,none⟩=some (.int .i64 3):=z00 hmr.mach 4;have i3:=z04 hmr.mach 3;have i4:=z04 hmr.mach 4;clear hno hmr;cases hx:z0o (z06 u.scheme) (l.drop b) with
  |false=>have HE:Hid _:=HEND b hab hb HNO hx;clear HEND HNEXT HSL HNO hx;go_wp2;exact bodyPost_end (v:=.tuple #[]) (z05 rfl _ _ _) rfl ⟨rfl,by rw[HE.out];exact z1S (a:=b) (HMR.out.set_st 4) hb _ rfl⟩
  |true=>
   obtain⟨hlt,hno2⟩:=HNEXT b hb HNO hx;have HNO2:Hid _:=hno2;have HM3:Hid (Tryz.Mem B R k j bv s w0 u pv ((b+1:Nat):Int) 3 0 (wr.setCell ⟨k,3,none⟩ (.int .i64 ((b:Int)+1)))):=HMR.out.set_a _;clear HEND HNEXT HNO hno2 hx HMR;go_wp2_with fail;refine Calls.mono (HSL (b+1) _ hlt HM3) ?_;rintro e w4 ⟨rfl,hm5⟩;have HM5:Hid _:=hm5;have z3:w4.cell? ⟨k,3,none⟩=some (.int .i64 ((b+1:Nat):Int)):=z00 hm5.mach 3;clear hm5;go_wp2;go_roundw
   case rel=>exact⟨b+1,by omega,hlt,rfl,HNO2,HM5⟩
   case measure=>(simp[intOf,y3,z3];try omega)
end Go.Proofs
