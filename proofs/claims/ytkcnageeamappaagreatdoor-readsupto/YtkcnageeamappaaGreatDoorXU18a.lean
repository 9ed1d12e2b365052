import Derived.Test.YtkcnageeamappaaGreatDoorXU9
import Derived.Test.YtkcnageeamappaaGreatDoorXU10
set_option maxHeartbeats 32000000
set_option maxRecDepth 8000
namespace Go.Proofs
open Go.RowKit Go.Moor Go.Proofs.Tryz
theorem zp9 {B R k j:Nat} {bv:Value} {s:ByteArray} {w0:World} {u:Adr} {pv:Value} (a:Nat) {st er:Int} {w:World} (hm:Mem B R k j bv s w0 u pv (a:Nat) st er w) (ha:a≤s.size+1):CN 176 #[.pointer (some ⟨k,0,none⟩)] w (.int .i64 (z1I (s.data.toList.drop a))):=
 zgL k a s w (z00 hm.mach 2) (z00 hm.mach 3) ha
theorem zk2 (s:ByteArray) (a:Nat) (h:(z1I (s.data.toList.drop a)==47)=true):a<s.size:=by
 rcases Nat.lt_or_ge a s.size with h2|h2
 ·exact h2
 ·rw[zfL s a h2] at h
  cases h
theorem zbe {B R k j:Nat} {bv:Value} {s:ByteArray} {w0:World} {u:Adr} {pv:Value} (a:Nat) {w:World} (hm:Mem B R k j bv s w0 u pv (a:Nat) 15 0 w) (ha:a≤s.size) (hs:s.size≤1000000):CQ 124 #[.pointer (some ⟨k,0,none⟩)] w (.tuple #[]) (z3u B R k j bv s w0 (z2B ⟨u,s.data.toList.drop a,15,0⟩)):=by
 have y3:=hm.y3;have y4:=hm.y4;have f3:=hm.f 3;have f4:=hm.f 4;have HM7:Hid _:=hm.set_st 7;have HC1:Hid _:=zp9 a HM7 (by omega);clear hm;cases h1:(z1I (s.data.toList.drop a)==47) with
 |false=>
  have HE:Hid (z2B ⟨u,s.data.toList.drop a,15,0⟩=⟨u,s.data.toList.drop a,7,0⟩):=by show _=_;unfold z2B;rw[if_neg (z5x _ 47 _ (za2 _) h1)]
  generalize z1I (s.data.toList.drop a)=c at*;go_enter func124,ntmps124;go_wp2_with fail;refine Calls.mono HC1 ?_;rintro e w1 ⟨rfl,n,rfl⟩;go_wp2;exact bodyPost_end (v:=.tuple #[]) (z05 rfl _ _ _) rfl ⟨rfl,by rw[HE.out];exact z1S (a:=a) (HM7.out.drewN n) ha _ rfl⟩
 |true=>
  have hlt:=zk2 s a h1;have HM5:Hid (∀n,Mem B R k j bv s w0 u pv ((a+1:Nat):Int) 5 0 ((((w.setCell ⟨k,4,none⟩ (.int .i64 7)).drewN n).setCell ⟨k,3,none⟩ (.int .i64 ((a:Int)+1))).setCell ⟨k,4,none⟩ (.int .i64 5))):=fun n=>((HM7.out.drewN n).set_a _).set_st _;have HC2:=hI fun n=>zp9 (a+1) (HM5 n) (by omega);have hhead:=(za2 _).2 h1;have hdd:(s.data.toList.drop a).drop 1=s.data.toList.drop (a+1):=List.drop_drop ..;cases h2:(z1I (s.data.toList.drop (a+1))==47) with
  |true=>have hlt2:=zk2 s (a+1) h2;have HE:Hid (z2B ⟨u,s.data.toList.drop a,15,0⟩=⟨u,s.data.toList.drop (a+2),4,0⟩):=(by show _=_;unfold z2B;simp only;rw[if_pos hhead,hdd,if_pos ((za2 _).2 h2),List.drop_drop]);clear hhead hdd;generalize z1I (s.data.toList.drop a)=c at*;generalize z1I (s.data.toList.drop (a+1))=c2 at*;go_enter func124,ntmps124;go_wp2_with fail;refine Calls.mono HC1 ?_;rintro e w1 ⟨rfl,n,rfl⟩;go_wp2_with fail;refine Calls.mono (HC2 n) ?_;rintro e w2 ⟨rfl,m,rfl⟩;go_wp2;exact bodyPost_end (v:=.tuple #[]) (z05 rfl _ _ _) rfl ⟨rfl,by rw[HE.out];exact z1S (a:=a+2) ((((HM5 n).drewN m).set_a _).set_st _) hlt2 _ rfl⟩
  |false=>have HE:Hid (z2B ⟨u,s.data.toList.drop a,15,0⟩=⟨u,s.data.toList.drop a,5,0⟩):=(by show _=_;unfold z2B;simp only;rw[if_pos hhead,hdd,if_neg (z5x _ 47 _ (za2 _) h2)]);clear hhead hdd;generalize z1I (s.data.toList.drop a)=c at*;generalize z1I (s.data.toList.drop (a+1))=c2 at*;go_enter func124,ntmps124;go_wp2_with fail;refine Calls.mono HC1 ?_;rintro e w1 ⟨rfl,n,rfl⟩;go_wp2_with fail;refine Calls.mono (HC2 n) ?_;rintro e w2 ⟨rfl,m,rfl⟩;go_wp2;exact bodyPost_end (v:=.tuple #[]) (z05 rfl _ _ _) rfl ⟨rfl,by rw[HE.out];exact z1S (a:=a) (((HM5 n).drewN m).set_a _) ha _ rfl⟩
theorem zbf {B R k j:Nat} {bv:Value} {s:ByteArray} {w0:World} {u:Adr} {pv:Value} (a:Nat) {w:World} (hm:Mem B R k j bv s w0 u pv (a:Nat) 12 0 w) (ha:a≤s.size) (hs:s.size≤1000000):CQ 124 #[.pointer (some ⟨k,0,none⟩)] w (.tuple #[]) (z3u B R k j bv s w0 (z5k ⟨u,s.data.toList.drop a,12,0⟩)):=by
 have y0:=hm.y0;have y2:=hm.y2;have y3:=hm.y3;have y4:=hm.y4;have c10:w.cell? ⟨j,10,none⟩=some (.bool u.frag.isSome):=z00 hm.url 10;have d10:=hm.g 10;have hkj:=hm.ne;have hjk:j≠k:=fun e=>hm.ne e.symm;obtain⟨l,hl⟩:=z09 s.data.toList;have hlen:l.length=s.size:=by rw[hl,Array.length_toList];rfl
 have hx:s.extract a s.size=⟨(l.drop a).toArray⟩:=by rw[z1Z,←hl,List.take_of_length_le (by rw[List.length_drop];omega)]
 have HES:=hI fun W=>zb3 ⟨(l.drop a).toArray⟩ 1 W (by rw[z07,List.length_drop];omega);have HM1:Hid (∀w5,Below (w.setCell ⟨j,10,none⟩ (.bool true)).heap.size (w.setCell ⟨j,10,none⟩ (.bool true)) w5→w5.cell? ⟨k,0,none⟩=some (.pointer (some ⟨j,0,none⟩))∧w5.cell? ⟨k,2,none⟩=some (.string s)∧w5.cell? ⟨k,3,none⟩=some (.int .i64 (a:Nat))∧w5.cell? ⟨k,4,none⟩=some (.int .i64 12)∧w5.frozen? ⟨k,4,none⟩=false∧(∃v,w5.cell? ⟨j,11,none⟩=some v)∧w5.frozen? ⟨j,11,none⟩=false∧Hid (Mem B R k j bv s w0 {u with frag:=some (esc 1 (l.drop a))} pv (a:Nat) 12 0 (w5.setCell ⟨j,11,none⟩ (.string ⟨(esc 1 (l.drop a)).toArray⟩)))):=by intro w5 h5;have h1:=hm.uset (u':={u with frag:=some (u.frag.getD [])}) 10 (.bool true) rfl rfl;have h2:=h1.off h5;exact⟨z00 h2.mach 0,z00 h2.mach 2,z00 h2.mach 3,z00 h2.mach 4,h2.f 4,⟨_,z00 h2.url 11⟩,h2.g 11,h2.uset 11 _ rfl rfl⟩
 have HE:Hid (z5k ⟨u,s.data.toList.drop a,12,0⟩=⟨{u with frag:=some (esc 1 (l.drop a))},s.data.toList.drop a,13,0⟩):=by rw[hl];rfl
 have q1:(a:Int)≤(s.size:Int):=by omega
 clear hm hl hlen;generalize(⟨(esc 1 (l.drop a)).toArray⟩:ByteArray)=eb at*;generalize(⟨(l.drop a).toArray⟩:ByteArray)=lb at*;go_enter func124,ntmps124;go_wp2;go_region_held3 (fun w'=>w'.cell? ⟨k,0,none⟩=some (.pointer (some ⟨j,0,none⟩))∧w'.cell? ⟨k,2,none⟩=some (.string s)∧w'.cell? ⟨k,3,none⟩=some (.int .i64 (a:Nat))) (go_keep) (first|(go_at_call 40;refine Calls.mono (HES _) ?_;rintro e w5 ⟨rfl,hb5⟩;obtain⟨z0,z2,z3,z4,x4,⟨v11,z11⟩,x11,HM3⟩:=HM1 w5 ((z1x rfl rfl rfl rfl:Below (w.setCell ⟨j,10,none⟩ (.bool true)).heap.size (w.setCell ⟨j,10,none⟩ (.bool true)) (w.setCell ⟨j,10,none⟩ (.bool true)).drew).trans hb5);clear hb5))
 all_goals
  go_wp2;exact bodyPost_end (v:=.tuple #[]) (z05 rfl _ _ _) rfl ⟨rfl,by rw[HE.out];exact z1S (a:=a) (HM3.out.set_st 13) ha _ rfl⟩
end Go.Proofs
