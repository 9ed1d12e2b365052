import Derived.Test.YtkcnageeamappaaGreatDoorXARead3
import Derived.Test.YtkcnageeamappaaGreatDoorXAs3
import Derived.Deep.DeepHandedRow
import Derived.ChangeSlices
set_option maxHeartbeats 32000000
set_option maxRecDepth 8000
namespace Go.Proofs
open Go.RowKit Go.Moor Go.Proofs.Tryz
theorem za7 (z:ByteArray) (n:Int) (x y:ByteArray) (t:TypeId) (v:Value) (w:World) (henv:Tryz.Env w):Calls Tryz.prog 33 #[.iface 104 (.agg #[.string z,.iface 96 (.agg #[.int .i64 n,.string x,.string y,.iface t v])])] w fun e w'=>e=.returned (.int .i64 n)∧Below w.heap.size w w':=by
 have HV:Hid (Tryz.Env (w.alloc (.cells #[.int .i64 0,.string ⟨#[]⟩,.string ⟨#[]⟩,.nilIface] 96))):=henv.below ((Below.refl _ _).alloc (Nat.le_refl _) _);have hgz:=henv.size;have HC:=
  hI (zeE w.heap.size z n x y ⟨#[]⟩ ⟨#[]⟩ t v .nilIface 0 _ HV.out.errType (by first|(simp;done)|(simp;omega)) (by simp) (by simp) (by simp) (by simp) (by simp) (by simp) (by simp) (by simp) (by simp))
 clear henv hgz;go_enter Tryz.func33,Tryz.ntmps33;go_wp2_with(go_at_call 56;refine HC.out.mono ?_);rintro e W1 ⟨rfl,hc,hb⟩;go_wp2;go_ret;exact⟨rfl,((Below.refl _ _).alloc (Nat.le_refl _) _).trans hb⟩
theorem zaU (n:Int) (v:Value) (w:World) (h:zbv n v) (henv:Tryz.Env w):Calls Tryz.prog 33 #[v] w fun e w'=>e=.returned (.int .i64 n)∧Below w.heap.size w w':=by
 rcases h with⟨x,y,te,ve,rfl⟩|⟨z,x,y,te,ve,rfl⟩
 ·exact z6z n x y te ve w henv
 ·exact za7 z n x y te ve w henv
theorem zkj (a:Auth) (w:World) (hu:a.user.length<1000000000) (hp:a.pass.length<1000000000) (hh:a.host.length<1000000000) (hpo:a.port= -1∨(0≤a.port∧a.port≤65535)) (henv:Tryz.Env2 w):Calls Tryz.prog 90 #[.agg (z1G a)] w fun e w'=>e=.returned (.string ⟨(z3K a).toArray⟩)∧Below w.heap.size w w':=by
 obtain⟨W,hW⟩:=z09 (w.alloc (.cells (z1G a) 71));have hBW:Below w.heap.size w W:=by rw[hW];exact(Below.refl _ _).alloc (Nat.le_refl _) _
 have hz0:W.heap[w.heap.size]?=some (.cells (z1G a) 71 (0,0)):=by rw[hW];exact z0K w _ _
 have hsize:W.heap.size=w.heap.size+1:=by rw[hW];simp
 have HBW:Hid (∀w1,Below W.heap.size W w1→Below w.heap.size w w1):=fun w1 h1=>hBW.trans (h1.mono (by omega));have HL:Hid (∀w1,Below W.heap.size W w1→Calls Tryz.prog 150 #[.agg (z1G a)] w1 fun e w'=>e=.returned (.string ⟨(z16 a).toArray⟩)∧Below W.heap.size W w'):=by intro w1 h1;refine(z9n a w1 (by omega) (by omega)).mono ?_;rintro e w' ⟨rfl,hb⟩;exact⟨rfl,h1.trans (hb.mono h1.size)⟩
 have HP:Hid (∀w1,Below W.heap.size W w1→Calls Tryz.prog 127 #[.agg (z1G a)] w1 fun e w'=>e=.returned (.string ⟨(z1m a).toArray⟩)∧Below W.heap.size W w'):=by intro w1 h1;refine(z9o a w1 (by omega) hpo ((henv.below hBW).below h1)).mono ?_;rintro e w' ⟨rfl,hb⟩;exact⟨rfl,h1.trans (hb.mono h1.size)⟩
 have hl1:(z16 a).length≤2000000010:=by
  unfold z16;split
  ·simp;omega
  ·split
   ·simp;omega
   ·simp
 have hl2:(z1m a).length≤1000000020:=by
  unfold z1m;split
  ·omega
  ·have:(z42 a.port).length≤10:=by
    rcases hpo with h|h
    ·contradiction
    ·unfold z42
     exact z74 _ (by omega)
   simp;omega
 have HC:Hid (∀w1,Below W.heap.size W w1→w1.cell? ⟨w.heap.size,0,none⟩=some (.string ⟨a.user.toArray⟩)∧w1.cell? ⟨w.heap.size,1,none⟩=some (.string ⟨a.pass.toArray⟩)∧w1.cell? ⟨w.heap.size,2,none⟩=some (.bool a.has)∧w1.cell? ⟨w.heap.size,3,none⟩=some (.string ⟨a.host.toArray⟩)∧w1.cell? ⟨w.heap.size,4,none⟩=some (.int .i64 a.port)):=by intro w1 h1;have k0:=(h1.block w.heap.size (by omega)).trans hz0;exact⟨z00 k0 0,z00 k0 1,z00 k0 2,z00 k0 3,z00 k0 4⟩
 have HE:Hid (z3K a=if a.has then 47::47::(z16 a++z1m a) else []):=rfl;have HW:=hI hW;obtain⟨us,pa,ha,ho,po⟩:=a;simp only at HE HC HW;unfold z1G at HL HP HW⊢;simp only at HL HP HW⊢;obtain⟨d0,d1,d2,d3,d4⟩:=HC W (Below.refl _ _);clear hW hBW hz0 hsize henv hu hp hh hpo;cases ha with
 |false=>clear HL HP;go_enter Tryz.func90,Tryz.ntmps90;go_upto_region 1 with fail;rw[←HW.out];clear HW;go_wp2_with fail;go_ret;rw[HE.out];exact⟨rfl,HBW W (Below.refl _ _)⟩
 |true=>
  have HA:Hid (((⟨#[47,47]⟩:ByteArray)++⟨(z16 ⟨us,pa,true,ho,po⟩).toArray⟩)++⟨(z1m ⟨us,pa,true,ho,po⟩).toArray⟩=⟨(z3K ⟨us,pa,true,ho,po⟩).toArray⟩):=by show _=_;have h1:(⟨#[47,47]⟩:ByteArray)++⟨(z16 ⟨us,pa,true,ho,po⟩).toArray⟩=⟨([47,47]++z16 ⟨us,pa,true,ho,po⟩).toArray⟩:=z0G [47,47] _;rw[h1,z0G,HE.out];simp
  have z1:(⟨(z16 ⟨us,pa,true,ho,po⟩).toArray⟩:ByteArray).size=_:=z07 _;have z2:(⟨(z1m ⟨us,pa,true,ho,po⟩).toArray⟩:ByteArray).size=_:=z07 _;rw[←z1] at hl1;rw[←z2] at hl2;clear z1 z2 HE;generalize(⟨(z16 ⟨us,pa,true,ho,po⟩).toArray⟩:ByteArray)=t1 at*;generalize(⟨(z1m ⟨us,pa,true,ho,po⟩).toArray⟩:ByteArray)=t2 at*;generalize(⟨us.toArray⟩:ByteArray)=x0 at*;generalize(⟨pa.toArray⟩:ByteArray)=x1 at*;generalize(⟨ho.toArray⟩:ByteArray)=x3 at*;generalize(⟨(z3K ⟨us,pa,true,ho,po⟩).toArray⟩:ByteArray)=t3 at*;have g1:∀W:World,(Op.stringOp .add ⟨#[47,47]⟩ t1).run Tryz.prog W=.ok (.string (⟨#[47,47]⟩++t1)) W:=fun W=>run_string_add_sum W _ _ (by have:(⟨#[47,47]⟩:ByteArray).size=2:=rfl;omega);have g2:∀W:World,(Op.stringOp .add (⟨#[47,47]⟩++t1) t2).run Tryz.prog W=.ok (.string (⟨#[47,47]⟩++t1++t2)) W:=fun W=>run_string_add_sum W _ _ (by rw[ByteArray.size_append];have:(⟨#[47,47]⟩:ByteArray).size=2:=rfl;omega);clear hl1 hl2;go_enter Tryz.func90,Tryz.ntmps90;go_upto_region 1 with fail;rw[←HW.out];clear HW;go_upto_region 3 with fail;go_region_held3 (fun w'=>w'.cell? ⟨w.heap.size,0,none⟩=some (.string x0)∧w'.cell? ⟨w.heap.size,1,none⟩=some (.string x1)∧w'.cell? ⟨w.heap.size,2,none⟩=some (.bool true)∧w'.cell? ⟨w.heap.size,3,none⟩=some (.string x3)∧w'.cell? ⟨w.heap.size,4,none⟩=some (.int .i64 po)) (go_keep) (first|(go_at_call 150;refine Calls.mono (HL _ (by exact z1x rfl rfl rfl rfl)) ?_;rintro e w1 ⟨rfl,b1⟩;obtain⟨y0,y1,y2,y3,y4⟩:=HC w1 b1;have HB1:=hI b1;clear b1)|(go_at_call 127;refine Calls.mono (HP _ (by first|exact HB1|exact HB1.out.trans (z1x rfl rfl rfl rfl))) ?_;rintro e w2 ⟨rfl,b2⟩;obtain⟨u0,u1,u2,u3,u4⟩:=HC w2 b2;have HB2:=hI b2;clear b2))
  all_goals
   go_wp2_with fail;go_ret;rw[HA.out];exact⟨rfl,HBW w2 HB2⟩
theorem zeB (segs:List Bs) (hx:∀x∈segs,x.length≤1000000):(z0F segs).length≤1000001*segs.length:=by have:=zan segs hx segs.length;rwa[List.take_length] at this
theorem zcw (a:Adr) (v:Value) (w:World) (hv:z1f w v a.way.segs) (hs:Small 1000000 1000000 a) (henv:Env2 w):CB 57 #[.agg (z0f a v)] w (.string ⟨(z3p a).toArray⟩):=by
 obtain⟨W,hW⟩:=z09 (w.alloc (.cells (z0f a v) 77));have hBW:Below w.heap.size w W:=by rw[hW];exact(Below.refl _ _).alloc (Nat.le_refl _) _
 have hz0:W.heap[w.heap.size]?=some (.cells (z0f a v) 77 (0,0)):=by rw[hW];exact z0K w _ _
 have hsize:W.heap.size=w.heap.size+1:=by rw[hW];simp
 have HBW:Hid (∀w1,Below W.heap.size W w1→Below w.heap.size w w1):=fun w1 h1=>hBW.trans (h1.mono (by omega));have HAU:Hid (∀w1,Below W.heap.size W w1→CQ 90 #[.agg (z1G a.auth)] w1 (.string ⟨(z3K a.auth).toArray⟩) (Below W.heap.size W)):=by intro w1 h1;refine(zkj a.auth w1 (by have:=hs.user;omega) (by have:=hs.pass;omega) (by have:=hs.host;omega) hs.port ((henv.below hBW).below h1)).mono ?_;rintro e w' ⟨rfl,hb⟩;exact⟨rfl,h1.trans (hb.mono h1.size)⟩
 have HG:Hid (∀w1,Below W.heap.size W w1→CQ 91 #[.agg (z0f a v)] w1 (.string ⟨(z3h a).toArray⟩) (Below W.heap.size W)):=by intro w1 h1;refine(zmw a v w1 (z19 (z19 hv hBW) h1)).mono ?_;rintro e w' ⟨rfl,hb⟩;exact⟨rfl,h1.trans (hb.mono h1.size)⟩
 have HP:Hid (∀w1,Below W.heap.size W w1→CQ 59 #[.agg #[.bool a.way.opaq,.string ⟨a.way.text.toArray⟩,v]] w1 (.string ⟨(z1X a.way).toArray⟩) (Below W.heap.size W)):=by intro w1 h1;refine(zkh a.way v w1 (z19 (z19 hv hBW) h1) (by have:=hs.count;omega) hs.segs).mono ?_;rintro e w' ⟨rfl,hb⟩;exact⟨rfl,h1.trans (hb.mono h1.size)⟩
 have HO:Hid (∀(o:Option Bs) (m:UInt8) w1,(o.getD []).length≤1000000→Below W.heap.size W w1→CQ 92 #[.agg #[.bool o.isSome,.string ⟨(o.getD []).toArray⟩],.string ⟨#[m]⟩] w1 (.string ⟨(z1b m o).toArray⟩) (Below W.heap.size W)):=by intro o m w1 ho h1;refine(zkB o m w1 (by omega)).mono ?_;rintro e w' ⟨rfl,hb⟩;exact⟨rfl,h1.trans (hb.mono h1.size)⟩
 have HQ:=hI fun w1 h1=>HO a.query 63 w1 hs.query h1;have HF:=hI fun w1 h1=>HO a.frag 35 w1 hs.frag h1;have l1:(z3K a.auth).length≤10000000:=by
  have h1:=hs.user;have h2:=hs.pass;have h3:=hs.host;have hd:(z42 a.auth.port).length≤10∨a.auth.port= -1:=by
   rcases hs.port with h|h
   ·exact Or.inr h
   ·exact Or.inl (z74 _ (by omega))
  unfold z3K;split
  ·have hl:(z16 a.auth).length≤2000010:=by
    unfold z16;split
    ·simp;omega
    ·split
     ·simp;omega
     ·simp
   have hp:(z1m a.auth).length≤1000020:=by
    unfold z1m;split
    ·omega
    ·rcases hd with h|h
     ·simp;omega
     ·contradiction
   simp;omega
  ·simp
 have l2:(z3h a).length≤2:=by unfold z3h;split<;>simp
 have l3:(z1X a.way).length≤1000001*1000000:=by
  unfold z1X;split
  ·have:=hs.text
   omega
  ·have h1:=zeB a.way.segs hs.segs
   have h2:=hs.count;exact Nat.le_trans h1 (Nat.mul_le_mul_left _ h2)
 have l4:∀(o:Option Bs) (m:UInt8),(o.getD []).length≤1000000→(z1b m o).length≤1000001:=by
  intro o m ho;cases o with
  |none=>simp[z1b]
  |some t=>have:t.length≤1000000:=ho;simp only[z1b,List.length_cons];omega
 have l5:=l4 a.query 63 hs.query;have l6:=l4 a.frag 35 hs.frag;have l0:=hs.scheme;have HA:Hid ((((((⟨a.scheme.toArray⟩:ByteArray)++⟨#[58]⟩)++⟨(z3K a.auth).toArray⟩)++⟨(z3h a).toArray⟩)++⟨(z1X a.way).toArray⟩)++⟨(z1b 63 a.query).toArray⟩++⟨(z1b 35 a.frag).toArray⟩=⟨(z3p a).toArray⟩):=by show _=_;have h1:(⟨a.scheme.toArray⟩:ByteArray)++⟨#[58]⟩=⟨(a.scheme++ [58]).toArray⟩:=z0G _ [58];rw[h1,z0G,z0G,z0G,z0G,z0G];unfold z3p;simp
 have HW:=hI hW;have HC:Hid (∀w1,Below W.heap.size W w1→w1.heap[w.heap.size]?=some (.cells (z0f a v) 77 (0,0))):=fun w1 h1=>(h1.block w.heap.size (by omega)).trans hz0;rw[←z07] at l0 l1 l2 l3 l5 l6;generalize(⟨(z3K a.auth).toArray⟩:ByteArray)=t1 at*;generalize(⟨(z3h a).toArray⟩:ByteArray)=t2 at*;generalize(⟨(z1X a.way).toArray⟩:ByteArray)=t3 at*;generalize(⟨(z1b 63 a.query).toArray⟩:ByteArray)=t4 at*;generalize(⟨(z1b 35 a.frag).toArray⟩:ByteArray)=t5 at*;generalize(⟨(z3p a).toArray⟩:ByteArray)=t6 at*;unfold z1G at HAU;unfold z0f at HG HW HC⊢;generalize(⟨a.scheme.toArray⟩:ByteArray)=x0 at*;generalize(⟨a.auth.user.toArray⟩:ByteArray)=x1 at*;generalize(⟨a.auth.pass.toArray⟩:ByteArray)=x2 at*;generalize a.auth.has=x3 at*;generalize(⟨a.auth.host.toArray⟩:ByteArray)=x4 at*;generalize a.auth.port=x5 at*;generalize a.way.opaq=x6 at*;generalize(⟨a.way.text.toArray⟩:ByteArray)=x7 at*;generalize a.query.isSome=x9 at*;generalize(⟨(a.query.getD []).toArray⟩:ByteArray)=x10 at*;generalize a.frag.isSome=x11 at*;generalize(⟨(a.frag.getD []).toArray⟩:ByteArray)=x12 at*;have HD:Hid (∀w1,Below W.heap.size W w1→w1.cell? ⟨w.heap.size,0,none⟩=some (.string x0)∧w1.cell? ⟨w.heap.size,1,none⟩=some (.string x1)∧w1.cell? ⟨w.heap.size,2,none⟩=some (.string x2)∧w1.cell? ⟨w.heap.size,3,none⟩=some (.bool x3)∧w1.cell? ⟨w.heap.size,4,none⟩=some (.string x4)∧w1.cell? ⟨w.heap.size,5,none⟩=some (.int .i64 x5)∧w1.cell? ⟨w.heap.size,6,none⟩=some (.bool x6)∧w1.cell? ⟨w.heap.size,7,none⟩=some (.string x7)∧w1.cell? ⟨w.heap.size,8,none⟩=some v∧w1.cell? ⟨w.heap.size,9,none⟩=some (.bool x9)∧w1.cell? ⟨w.heap.size,10,none⟩=some (.string x10)∧w1.cell? ⟨w.heap.size,11,none⟩=some (.bool x11)∧w1.cell? ⟨w.heap.size,12,none⟩=some (.string x12)):=by intro w1 h1;have k:=HC w1 h1;exact⟨z00 k 0,z00 k 1,z00 k 2,z00 k 3,z00 k 4,z00 k 5,z00 k 6,z00 k 7,z00 k 8,z00 k 9,z00 k 10,z00 k 11,z00 k 12⟩
 obtain⟨d0,d1,d2,d3,d4,d5,d6,d7,d8,d9,d10,d11,d12⟩:=HD W (Below.refl _ _);have z58:(⟨#[58]⟩:ByteArray).size=1:=rfl;have g0:∀W:World,(Op.stringOp .add x0 ⟨#[58]⟩).run prog W=.ok (.string (x0++⟨#[58]⟩)) W:=fun W=>run_string_add_sum W _ _ (by omega);have g1:∀W:World,(Op.stringOp .add (x0++⟨#[58]⟩) t1).run prog W=.ok (.string (x0++⟨#[58]⟩++t1)) W:=fun W=>run_string_add_sum W _ _ (by simp only[ByteArray.size_append];omega);have g2:∀W:World,(Op.stringOp .add (x0++⟨#[58]⟩++t1) t2).run prog W=.ok (.string (x0++⟨#[58]⟩++t1++t2)) W:=fun W=>run_string_add_sum W _ _ (by simp only[ByteArray.size_append];omega);have g3:∀W:World,(Op.stringOp .add (x0++⟨#[58]⟩++t1++t2) t3).run prog W=.ok (.string (x0++⟨#[58]⟩++t1++t2++t3)) W:=fun W=>run_string_add_sum W _ _ (by simp only[ByteArray.size_append];omega);have g4:∀W:World,(Op.stringOp .add (x0++⟨#[58]⟩++t1++t2++t3) t4).run prog W=.ok (.string (x0++⟨#[58]⟩++t1++t2++t3++t4)) W:=fun W=>run_string_add_sum W _ _ (by simp only[ByteArray.size_append];omega);have g5:∀W:World,(Op.stringOp .add (x0++⟨#[58]⟩++t1++t2++t3++t4) t5).run prog W=.ok (.string (x0++⟨#[58]⟩++t1++t2++t3++t4++t5)) W:=fun W=>run_string_add_sum W _ _ (by simp only[ByteArray.size_append];omega);clear l0 l1 l2 l3 l4 l5 l6 z58 HO hW hBW hz0 hsize henv hs hv HC;go_enter func57,ntmps57;go_upto_region 1 with fail;rw[←HW.out];clear HW;go_region_held3 (fun w'=>w'.cell? ⟨w.heap.size,0,none⟩=some (.string x0)∧w'.cell? ⟨w.heap.size,1,none⟩=some (.string x1)∧w'.cell? ⟨w.heap.size,2,none⟩=some (.string x2)∧w'.cell? ⟨w.heap.size,3,none⟩=some (.bool x3)∧w'.cell? ⟨w.heap.size,4,none⟩=some (.string x4)∧w'.cell? ⟨w.heap.size,5,none⟩=some (.int .i64 x5)∧w'.cell? ⟨w.heap.size,6,none⟩=some (.bool x6)∧w'.cell? ⟨w.heap.size,7,none⟩=some (.string x7)∧w'.cell? ⟨w.heap.size,8,none⟩=some v∧w'.cell? ⟨w.heap.size,9,none⟩=some (.bool x9)∧w'.cell? ⟨w.heap.size,10,none⟩=some (.string x10)∧w'.cell? ⟨w.heap.size,11,none⟩=some (.bool x11)∧w'.cell? ⟨w.heap.size,12,none⟩=some (.string x12)) (go_keep) (first|(go_at_call 90;refine Calls.mono (HAU _ (by exact z1x rfl rfl rfl rfl)) ?_;rintro e w1 ⟨rfl,b1⟩;obtain⟨y0,y1,y2,y3,y4,y5,y6,y7,y8,y9,y10,y11,y12⟩:=HD w1 b1;have HB1:=hI b1;clear b1)|(go_at_call 91;refine Calls.mono (HG _ (by first|exact HB1|exact HB1.out.trans (z1x rfl rfl rfl rfl))) ?_;rintro e w2 ⟨rfl,b2⟩;obtain⟨u0,u1,u2,u3,u4,u5,u6,u7,u8,u9,u10,u11,u12⟩:=HD w2 b2;have HB2:=hI b2;clear b2)|(go_at_call 59;refine Calls.mono (HP _ (by first|exact HB2|exact HB2.out.trans (z1x rfl rfl rfl rfl))) ?_;rintro e w3 ⟨rfl,b3⟩;obtain⟨v0,v1,v2,v3,v4,v5,v6,v7,v8,v9,v10,v11,v12⟩:=HD w3 b3;have HB3:=hI b3;clear b3)|(go_at_call_of 92 (Value.string ⟨#[63]⟩);refine Calls.mono (HQ _ (by first|exact HB3|exact HB3.out.trans (z1x rfl rfl rfl rfl))) ?_;rintro e w4 ⟨rfl,b4⟩;obtain⟨p0,p1,p2,p3,p4,p5,p6,p7,p8,p9,p10,p11,p12⟩:=HD w4 b4;have HB4:=hI b4;clear b4)|(go_at_call 92;refine Calls.mono (HF _ (by first|exact HB4|exact HB4.out.trans (z1x rfl rfl rfl rfl))) ?_;rintro e w5 ⟨rfl,b5⟩;obtain⟨q0,q1,q2,q3,q4,q5,q6,q7,q8,q9,q10,q11,q12⟩:=HD w5 b5;have HB5:=hI b5;clear b5))
 all_goals
  go_wp2_with fail;go_ret;rw[HA.out];exact⟨rfl,HBW w5 HB5⟩
def z68 (o:Except Int Bs):Ending:=
 match o with
 | .error n=>.returned (.tuple #[.string ⟨#[]⟩,.int .i64 n])
 | .ok t=>.returned (.tuple #[.string ⟨t.toArray⟩,.int .i64 0])
def zew (o:Except Int Adr):Except Int Bs:=
 match o with
 | .error n=>.error n
 | .ok a=>.ok (z3p a)
theorem za3 (o:Except Int Adr) (cs:Array Value) (v:Value) (w:World) (h:z2J o (.returned (.tuple #[.agg cs,v])) w) (hs:∀a,o=.ok a→Small 1000000 1000000 a) (henv:Tryz.Env2 w):Calls Tryz.prog 34 #[.agg cs,v] w fun e w'=>e=z68 (zew o)∧Below w.heap.size w w':=by
 obtain⟨W,hW⟩:=z09 (w.alloc (.cells cs 77));have hBW:Below w.heap.size w W:=by rw[hW];exact(Below.refl _ _).alloc (Nat.le_refl _) _
 have hz0:W.heap[w.heap.size]?=some (.cells cs 77 (0,0)):=by rw[hW];exact z0K w _ _
 have HZ:=hI hz0;have hsize:W.heap.size=w.heap.size+1:=by rw[hW];simp
 have HBW:Hid (∀w1,Below W.heap.size W w1→Below w.heap.size w w1):=fun w1 h1=>hBW.trans (h1.mono (by omega));obtain⟨cs',v',he,hsz,hone⟩:=z5I h;injection he with he;injection he with he;simp at he;obtain⟨rfl,rfl⟩:=he;have HZS:Hid ((Tryz.prog.info? 77).map (·.size)=some cs.size):=by show _=_;rw[hsz];exact z1n
 have hval:∃i,Tryz.prog.info? 77=some i∧i.size=13:=by
  have h1:=z1n;cases hi:Tryz.prog.info? 77 with
  |none=>rw[hi] at h1;simp at h1
  |some i=>rw[hi] at h1;simp at h1;exact⟨i,rfl,h1⟩
 cases o with
 |error n=>
  obtain⟨v2,he,hv⟩:=h;injection he with he;injection he with he;simp at he;obtain⟨rfl,rfl⟩:=he;have HE:=hI (zaU n v W hv (henv.below hBW).env);have HN:Hid (∃t u,v=.iface t u):=by rcases hv with⟨_,_,_,_,rfl⟩|⟨_,_,_,_,_,rfl⟩<;>exact⟨_,_,rfl⟩
  clear hs henv hBW hz0 hsize hval hone hsz hv;obtain⟨t,u,rfl⟩:=HN.out;clear HN;go_enter Tryz.func34,Tryz.ntmps34;go_upto_region 1 with fail;rw[←hW];clear hW;go_wp2_with fail;refine Calls.mono HE.out ?_;rintro e w1 ⟨rfl,b1⟩;go_wp2_with fail;go_ret2;exact⟨rfl,HBW.out w1 b1⟩
 |ok a=>
  have hsm:=hs a rfl;obtain⟨v2,he,hv⟩:=h;injection he with he;injection he with he;simp at he;obtain⟨hcs,rfl⟩:=he;have HE:Hid (Calls Tryz.prog 57 #[.agg cs] W fun e w'=>e=.returned (.string ⟨(z3p a).toArray⟩)∧Below W.heap.size W w'):=by rw[hcs];exact zcw a v2 W (z19 hv hBW) hsm (henv.below hBW)
  clear hs henv hBW hz0 hsize hval hone hsz hv hcs hsm;go_enter Tryz.func34,Tryz.ntmps34;go_upto_region 1 with fail;rw[←hW];clear hW;go_wp2_with(refine wpList_load_row rfl 77 _ rfl w.heap.size rfl 77 cs (0,0) _ HZ.out Tryz.underlying77 rfl HZS.out ?_);refine Calls.mono HE.out ?_;rintro e w1 ⟨rfl,b1⟩;go_wp2_with fail;go_ret2;exact⟨rfl,HBW.out w1 b1⟩
theorem zbs (t b:Bs) (h1:t.length≤2000) (h2:b.length≤2000):z5H hostTell t b=zew (z1c hostTell t b):=by unfold z5H zew;rw[if_neg (by omega)];cases z1c hostTell t b<;>rfl
theorem zaR (t b:Bs) (h1:t.length≤2000) (h2:b.length≤2000) (a:Adr) (h:z1c hostTell t b=.ok a):Small 1000000 1000000 a:=by
 have up:∀{M:Nat} {x:Adr},Small 20000 M x→M≤1000000→Small 1000000 1000000 x:=fun{M x} h hm=>⟨by have:=h.scheme;omega,by have:=h.user;omega,by have:=h.pass;omega,by have:=h.host;omega,h.port,by have:=h.text;omega,Nat.le_trans h.count hm,fun x hx=>by have:=h.segs x hx;omega,by have:=h.query;omega,by have:=h.frag;omega⟩;unfold z1c at h;split at h
 ·exact up (z2Q t none 20000 0 a (by omega) (by simp) h) (by omega)
 ·cases hb:z0C hostTell b none with
  |error n=>rw[hb] at h;simp at h
  |ok x=>rw[hb] at h;have hx:=z2Q b none 20000 0 x (by omega) (by simp) hb;exact up (z2Q t (some x) 20000 _ a (by omega) (by rintro y hy;simp at hy;rw[←hy];exact hx) h) (by omega)
theorem zcr (t b:Bs) (w:World) (ht:t.length≤maxLen) (hb:b.length≤maxLen) (henv:Tryz.Env2 w):Calls Tryz.prog 20 #[.string ⟨t.toArray⟩,.string ⟨b.toArray⟩] w fun e w'=>e=z68 (z5H hostTell t b)∧Below w.heap.size w w':=by
 by_cases h1:t.length≤2000
 ·by_cases h2:b.length≤2000
  ·have HL:=hI fun w1=>z4c _ w1 (by rw[z07];exact h1)
   have HM:=hI fun w1=>z4c _ w1 (by rw[z07];exact h2);have HR:=hI (z92 t b w h1 h2 henv);have HP:=hI (zbs t b h1 h2);have HT:Hid (∀cs v w1,Below w.heap.size w w1→z2J (z1c hostTell t b) (.returned (.tuple #[.agg cs,v])) w1→Calls Tryz.prog 34 #[.agg cs,v] w1 fun e w'=>e=z68 (zew (z1c hostTell t b))∧Below w.heap.size w w'):=(by intro cs v w1 hb1 hr;refine(za3 _ cs v w1 hr (fun a h=>zaR t b h1 h2 a h) (henv.below hb1)).mono ?_;rintro e w' ⟨rfl,hb2⟩;exact⟨rfl,hb1.trans (hb2.mono hb1.size)⟩);have HX:Hid (∃x y,z68 (zew (z1c hostTell t b))=.returned (.tuple #[x,y])):=(by cases z1c hostTell t b<;>exact⟨_,_,rfl⟩);rw[HP.out];generalize z1c hostTell t b=res at*;generalize(⟨t.toArray⟩:ByteArray)=x at*;generalize(⟨b.toArray⟩:ByteArray)=y at*;clear ht hb h1 h2 henv HP;go_enter Tryz.func20,Tryz.ntmps20;go_wp2_with(first|(go_at_call_of 31 (Value.string x);refine(HL _).mono ?_;rintro e W0 ⟨rfl,hw0⟩;have hw0:=hw0.symm;subst hw0)|(go_at_call_of 31 (Value.string y);refine(HM _).mono ?_;rintro e W0 ⟨rfl,hw0⟩;have hw0:=hw0.symm;subst hw0));refine HR.out.mono ?_;rintro e w1 ⟨hr,b1⟩;obtain⟨cs,v,rfl,_,_⟩:=z5I hr;have HT2:=hI (HT cs v w1 b1 hr);clear hr b1;go_wp2_with fail;refine HT2.out.mono ?_;rintro e w2 ⟨he,b2⟩;obtain⟨p,q,hpq⟩:=HX;rw[hpq] at he;subst he;go_wp2_with fail;go_ret2;exact⟨hpq.symm,b2⟩
  ·have HL:=hI fun w1=>z4c _ w1 (by rw[z07];exact h1)
   have HM:Hid (∀w1,Calls Tryz.prog 31 #[.string ⟨b.toArray⟩] w1 fun e w'=>e=.returned (.bool true)∧w'=w1):=fun w1=>z5Q _ w1 (by rw[z07];omega) (by rw[z07];exact hb);have HP:Hid (z5H hostTell t b=.error 1):=(by show _=_;unfold z5H;rw[if_pos (by omega)]);rw[HP.out];generalize(⟨t.toArray⟩:ByteArray)=x at*;generalize(⟨b.toArray⟩:ByteArray)=y at*;clear ht hb h1 h2 henv HP;go_enter Tryz.func20,Tryz.ntmps20;go_wp2_with(first|(go_at_call_of 31 (Value.string x);refine(HL _).mono ?_;rintro e W0 ⟨rfl,hw0⟩;have hw0:=hw0.symm;subst hw0)|(go_at_call_of 31 (Value.string y);refine(HM _).mono ?_;rintro e W0 ⟨rfl,hw0⟩;have hw0:=hw0.symm;subst hw0));go_ret2;exact⟨rfl,Below.refl _ _⟩
 ·have HL:Hid (∀w1,Calls Tryz.prog 31 #[.string ⟨t.toArray⟩] w1 fun e w'=>e=.returned (.bool true)∧w'=w1):=fun w1=>z5Q _ w1 (by rw[z07];omega) (by rw[z07];exact ht)
  have HP:Hid (z5H hostTell t b=.error 1):=by show _=_;unfold z5H;rw[if_pos (by omega)]
  rw[HP.out];generalize(⟨t.toArray⟩:ByteArray)=x at*;generalize(⟨b.toArray⟩:ByteArray)=y at*;clear ht hb h1 henv HP;go_enter Tryz.func20,Tryz.ntmps20;go_wp2_with(go_at_call 31;refine(HL _).mono ?_;rintro e W0 ⟨rfl,hw0⟩;have hw0:=hw0.symm;subst hw0);go_ret2;exact⟨rfl,Below.refl _ _⟩
end Go.Proofs
namespace Go.Moor
open Go
def zoe (c:UInt8):Prop:=97≤c.toNat∧c.toNat≤122
def zoS (l:Bs):Prop:=l≠[]∧∀c∈l,zoe c
theorem zeC (s:Int):∀l:Bs,(∀c∈l,z0n s c.toNat=false)→esc s l=l
 | [],_=>rfl
 |c::l,h=>by
  have ih:=zeC s l (fun x hx=>h x (by simp[hx]));have e:esc s (c::l)=z43 s c++esc s l:=rfl;rw[e,ih,z43,h c (by simp)];rfl
theorem tellSegs_app (a b:List Bs):z0F (a++b)=z0F a++z0F b:=by unfold z0F;rw[List.flatMap_append]
theorem z4k (c:UInt8):∀l:Bs,(∀x∈l,x≠c)→z1a c l=none
 | [],_=>rfl
 |b::l,h=>by
  rw[z1a,if_neg (h b (by simp)),z4k c l (fun x hx=>h x (by simp[hx]))];rfl
theorem z3E (c:UInt8) (r:Bs):∀p:Bs,(∀x∈p,x≠c)→z1a c (p++c::r)=some (p,r)
 | [],_=>by simp[z1a]
 |b::p,h=>by
  show z1a c (b::(p++c::r))=_;rw[z1a,if_neg (h b (by simp)),z3E c r p (fun x hx=>h x (by simp[hx]))];rfl
end Go.Moor
namespace Go.Proofs.YtkcnageeamappaaGreatDoor
open Go.Proofs.Tryz Go.ChangeShapes Go.WideShapes Go.ChangeAt Go.RowKit Go.Moor
theorem zpu:prog.globalNamed "unicode/utf8.first" =some 21:=by kernel_rfl
theorem zpw:prog.globalNamed "unicode/utf8.acceptRanges" =some 22:=by kernel_rfl
theorem zp3:(prog.globals[21]?).map (·.type)=some 288:=by kernel_rfl
theorem zpq:(prog.globals[22]?).map (·.type)=some 291:=by kernel_rfl
theorem zhI:prog.cellsOf 288=256:=by kernel_rfl
theorem zeX:prog.cellsOf 290=2:=by kernel_rfl
theorem zhJ:(Rows.laid_unicode_utf8_first:DataW Unit)=Lib.firstData:=by kernel_rfl
theorem zg9:(Rows.laid_unicode_utf8_acceptRanges:DataW Unit)=Lib.acceptData:=by kernel_rfl
theorem zga {w:World} (h3:Lib.VarReads prog w "unicode/utf8.first" Rows.laid_unicode_utf8_first) (h4:Lib.VarReads prog w "unicode/utf8.acceptRanges" Rows.laid_unicode_utf8_acceptRanges):Lib.Utf8Tabs 21 22 w:=by
 rw[zhJ] at h3;rw[zg9] at h4;refine⟨fun c hc=>?_,fun i hi=>?_⟩
 ·obtain⟨g,t,cs,fuel,p,hg,hty,hvar,hd⟩:=h3
  obtain rfl:=Option.some.inj (zpu.symm.trans hg);obtain rfl:=Option.some.inj (zp3.symm.trans hty);have hcs:=Lib.cells_of_tab underlying288 underlying5 z7w zhI hd;have:=World.var?_cell hg hvar c;rw[this,←Array.getElem?_toList,hcs];simp[Lib.firstTab,hc]
 ·obtain⟨g,t,cs,fuel,p,hg,hty,hvar,hd⟩:=h4
  obtain rfl:=Option.some.inj (zpw.symm.trans hg);obtain rfl:=Option.some.inj (zpq.symm.trans hty);obtain⟨fuel',d,q,hdi,he⟩:=Lib.array_elem underlying291 hd i hi;simp only[List.getElem?_map,List.getElem?_range hi,Option.map_some,Option.some.injEq] at hdi;subst hdi;rw[zeX] at he;have hcs:=Lib.ints_of_struct underlying290 (fun j f hj=>by
   match j,hj with
   |0,hj=>simp at hj;subst hj;exact⟨underlying5,rfl,z7w⟩
   |1,hj=>simp at hj;subst hj;exact⟨underlying5,rfl,z7w⟩
   |j+2,hj=>simp at hj) (by rw[zeX];rfl) he
  have e0:=congrArg (·[0]?) hcs;have e1:=congrArg (·[1]?) hcs;simp only[List.getElem?_take,List.getElem?_drop] at e0 e1;constructor
  ·rw[World.var?_cell hg hvar (2*i),←Array.getElem?_toList]
   simpa[Nat.mul_comm] using e0
  ·rw[World.var?_cell hg hvar (2*i+1),←Array.getElem?_toList]
   simpa[Nat.mul_comm] using e1
def z4V:List (String×DataW Unit):=[("strconv.ErrRange",Rows.laid_strconv_ErrRange),("strconv.ErrSyntax",Rows.laid_strconv_ErrSyntax),("moor/address.errNoBase",Rows.laid_moor_address_errNoBase),("moor/address.errOpaqueBase",Rows.laid_moor_address_errOpaqueBase),("moor/address.errNoHost",Rows.laid_moor_address_errNoHost)]
theorem zdW {W:World} (hp:∀x∈z2C,Lib.VarReads prog W x.1 x.2) (hq:∀x∈z4V,Lib.VarReads prog W x.1 x.2) (hh:handlesMet prog [("errors.errorType",Rows.laid_errors_errorType)] W) (hsh:W.ShapedOpen prog):Env2 W:=by
 have h:Env W:=⟨zdV hsh,zdT (hp ("moor/escape.sets",_) (by simp[z2C];rfl)),zbI hsh,
  z1H (by kernel_rfl) (by kernel_rfl) (hp ("moor/host.errEmpty",_) (by simp[z2C];rfl)),z1H (by kernel_rfl) (by kernel_rfl) (hp ("moor/host.errBracket",_) (by simp[z2C];rfl)),
  z1H (by kernel_rfl) (by kernel_rfl) (hp ("moor/host.errCount",_) (by simp[z2C];rfl)),z1H (by kernel_rfl) (by kernel_rfl) (hp ("moor/host.errLength",_) (by simp[z2C];rfl)),
  z1H (by kernel_rfl) (by kernel_rfl) (hp ("moor/host.errNought",_) (by simp[z2C];rfl)),z1H (by kernel_rfl) (by kernel_rfl) (hp ("moor/host.errTooGreat",_) (by simp[z2C];rfl)),
  zeW (hp ("internal/strconv.uint64pow10",_) (by simp[z2C];rfl)),zdU hh⟩
 exact⟨h,zgb (hp ("math/bits.deBruijn64tab",_) (by simp[z2C];rfl)),zga (hp ("unicode/utf8.first",_) (by simp[z2C];rfl)) (hp ("unicode/utf8.acceptRanges",_) (by simp[z2C];rfl)),
  z1H (by kernel_rfl) (by kernel_rfl) (hq ("moor/address.errNoBase",_) (by simp[z4V];rfl)),z1H (by kernel_rfl) (by kernel_rfl) (hq ("moor/address.errOpaqueBase",_) (by simp[z4V];rfl)),
  z1H (by kernel_rfl) (by kernel_rfl) (hq ("moor/address.errNoHost",_) (by simp[z4V];rfl)),z1H (by kernel_rfl) (by kernel_rfl) (hq ("strconv.ErrSyntax",_) (by simp[z4V];rfl)),z1H (by kernel_rfl) (by kernel_rfl) (hq ("strconv.ErrRange",_) (by simp[z4V];rfl))⟩
end Go.Proofs.YtkcnageeamappaaGreatDoor
namespace Go.Moor
open Go
theorem zal:z0W sFile=true∧Lib.toLowerA sFile=sFile∧∀c∈sFile,c≠58∧33≤c.toNat:=by decide+kernel
def zoa (c:UInt8):Prop:=65≤c.toNat∧c.toNat≤90
theorem zby:∀(l r:Bs) (n:Nat),z1g n (l++r)=z1g (z1g n l) r
 | [],_,_=>rfl
 |c::l,r,n=>by
  show z1g (n*10+(c.toNat- 48)) (l++r)=_;rw[zby l r];rfl
structure HostLaws (H:Bs→Bool→Option Bs):Prop where
 again:∀t sp h,H t sp=some h→H h sp=some h
 bytes:∀t sp h,H t sp=some h→∀c∈h,33≤c.toNat∧c.toNat≤126∧c≠35∧c≠47∧c≠63∧c≠64∧c≠92∧c≠124
 marks:∀t sp h,H t sp=some h→(∀c∈h,c≠58∧c≠91)∨∃x,h=91::(x++ [93])∧∀c∈x,c≠93
 ne:∀t h,H t true=some h→h≠[]
 none:H [] false=some []
 nil:∀t sp,H t sp=some []→t=[]
def z6P (s p:Bs):Prop:=z1V p=0∧∀c∈p,z0n 4 c.toNat=false∧c≠47∧(z0b s=true→c≠92)
structure Good (H:Bs→Bool→Option Bs) (a:Adr):Prop where
 scheme:z0W a.scheme=true
 low:Lib.toLowerA a.scheme=a.scheme
 user:∀c∈a.auth.user,z0n 5 c.toNat=false
 pass:∀c∈a.auth.pass,z0n 5 c.toNat=false
 bare:a.auth.has=false→a.auth=noAuth
 host:a.auth.has=true→a.scheme≠sFile→H a.auth.host (z0b a.scheme)=some a.auth.host
 hostF:a.scheme=sFile→z1v H a.auth.host=some a.auth.host
 empty:a.auth.host=[]→a.auth.user=[]∧a.auth.pass=[]∧a.auth.port= -1
 file:a.scheme=sFile→a.auth.user=[]∧a.auth.pass=[]∧a.auth.port= -1
 port:a.auth.port= -1∨(0≤a.auth.port∧a.auth.port≤65535∧a.auth.port≠(z1z a.scheme).1)
 spec:z0b a.scheme=true→a.auth.has=true∧a.way.opaq=false∧a.way.segs≠[]
 opaq:a.way.opaq=true→a.auth.has=false∧a.way.segs=[]∧(∀c∈a.way.text,33≤c.toNat∧c.toNat≤126∧c≠35∧c≠63)∧a.way.text.head?≠some 47
 text:a.way.opaq=false→a.way.text=[]∧(a.auth.has=false→a.way.segs≠[])
 seg:∀p∈a.way.segs,z6P a.scheme p
 drive:a.scheme=sFile→z0h (a.way.segs.headD [])=true→z15 (a.way.segs.headD [])=true
 query:∀q,a.query=some q→∀c∈q,z0n (z0q a.scheme) c.toNat=false
 frag:∀f,a.frag=some f→∀c∈f,z0n 1 c.toNat=false
theorem z1d (c:UInt8) (k:Nat) (h:c.toNat≠k) (hk:k<256):c≠k.toUInt8:=by intro e;apply h;rw[e,show k.toUInt8.toNat=k%256 from rfl];omega
section
variable (H : Bs → Bool → Option Bs)
theorem zeG:z0b sFile=true:=by decide
end
theorem zhx:∀(s:Fin 6) (k:Fin 16),z0n (s.val:Int) (z0T k.val).toNat=false:=by decide+kernel
theorem zmI:∀(s:Fin 6),z0n (s.val:Int) 37=false:=by decide+kernel
theorem z8a (s:Int):∀(l:Bs) (c:UInt8),c∈esc s l→(c∈l∧z0n s c.toNat=false)∨c=37∨∃k:Fin 16,c=z0T k.val
 | [],c,h=>by cases h
 |b::l,c,h=>by
  have e:esc s (b::l)=z43 s b++esc s l:=rfl;rw[e] at h;rcases List.mem_append.1 h with h|h
  ·unfold z43 at h
   cases hb:z0n s b.toNat with
   |true=>
    rw[hb] at h;simp only[if_true,List.mem_cons,List.not_mem_nil,or_false] at h;rcases h with rfl|rfl|rfl
    ·exact Or.inr (Or.inl rfl)
    ·exact Or.inr (Or.inr ⟨⟨b.toNat/16,by have:=b.toNat_lt;omega⟩,rfl⟩)
    ·exact Or.inr (Or.inr ⟨⟨b.toNat%16,by omega⟩,rfl⟩)
   |false=>rw[hb] at h;simp at h;subst h;exact Or.inl ⟨by simp,hb⟩
  ·rcases z8a s l c h with⟨h1,h2⟩|h
   ·exact Or.inl ⟨by simp[h1],h2⟩
   ·exact Or.inr h
theorem z6Q (s:Nat) (hs:s<6) (l:Bs) (c:UInt8) (h:c∈esc (s:Int) l):z0n (s:Int) c.toNat=false:=by
 rcases z8a _ l c h with⟨_,h⟩|rfl|⟨k,rfl⟩
 ·exact h
 ·exact zmI ⟨s,hs⟩
 ·exact zhx ⟨s,hs⟩ k
theorem zg1 (s:Bs):∃k:Nat,k<6∧z0q s=(k:Int):=by
 unfold z0q;split
 ·exact⟨3,by omega,rfl⟩
 ·exact⟨2,by omega,rfl⟩
theorem zkL (s:Bs) (l:Bs) (c:UInt8) (h:c∈esc (z0q s) l):z0n (z0q s) c.toNat=false:=by obtain⟨k,hk,e⟩:=zg1 s;rw[e] at h⊢;exact z6Q k hk l c h
theorem zmJ:∀c:Fin 256,z0c c.val<16→z0n 4 c.val=false∧c.val≠37:=by decide+kernel
theorem z8v (c:UInt8) (h:z0c c.toNat<16):z0n 4 c.toNat=false∧c≠37:=by have:=zmJ ⟨c.toNat,c.toNat_lt⟩ h;exact⟨this.1,z1d c 37 this.2 (by omega)⟩
theorem zhy (c:UInt8) (l:Bs):z1u (z0T (c.toNat/16)::z0T (c.toNat%16)::l)=true:=by have:=zbJ c;simp only[z1u,Bool.and_eq_true,decide_eq_true_eq];exact this.2
theorem z3F (s:Int) (c:UInt8) (l:Bs) (h:z0n s c.toNat=true):esc s (c::l)=37::z0T (c.toNat/16)::z0T (c.toNat%16)::esc s l:=by show z43 s c++esc s l=_;unfold z43;rw[h];rfl
theorem z2K (s:Int) (c:UInt8) (l:Bs) (h:z0n s c.toNat=false):esc s (c::l)=c::esc s l:=by show z43 s c++esc s l=_;unfold z43;rw[h];rfl
theorem zhz (l:Bs) (h:z1u l=false):z1u (esc 4 l)=false:=by
 match l with
 | []=>rfl
 | [a]=>
  cases ha:z0n 4 a.toNat with
  |true=>rw[z3F 4 a [] ha];rfl
  |false=>rw[z2K 4 a [] ha];rfl
 |a::b::r=>
  cases ha:z0n 4 a.toNat with
  |true=>rw[z3F 4 a _ ha];rfl
  |false=>
   rw[z2K 4 a _ ha];cases hb:z0n 4 b.toNat with
   |true=>rw[z3F 4 b _ hb];simp[z1u];intro _;decide
   |false=>rw[z2K 4 b _ hb];exact h
theorem z5M:∀(n:Nat) (l:Bs),l.length≤n→z0t (esc 4 l)=z0t l
 |_,[],_=>rfl
 |0,c::l,h=>by simp at h
 |n+1,c::l,h=>by
  have hl:l.length≤n:=by simpa using h
  cases hc:z0n 4 c.toNat with
  |true=>have h37:c≠37:=(by rintro rfl;exact absurd hc (by decide+kernel));rw[z3F 4 c l hc,z37 _ _ _ (zhy c _),(zbJ c).1,z3M c l h37,z5M n l hl]
  |false=>
   rw[z2K 4 c l hc];by_cases h37:c=37
   ·subst h37
    cases ht:z1u l with
    |false=>rw[z3S _ (zhz l ht),z3S _ ht,z5M n l hl]
    |true=>
     match l,ht,hl with
     |a::b::r,ht,hl=>have ht2:=ht;simp only[z1u,Bool.and_eq_true,decide_eq_true_eq] at ht2;rw[z2K 4 a _ (z8v a ht2.1).1,z2K 4 b _ (z8v b ht2.2).1,z37 a b _ (by simp[z1u,ht2]),z37 a b r ht,z5M n r (by simp at hl;omega)]
   ·rw[z3M c _ h37,z3M c l h37,z5M n l hl]
theorem zd3 (l:Bs) (h:z0t l=[]):l=[]:=by
 match l with
 | []=>rfl
 |c::l=>
  by_cases h37:c=37
  ·subst h37
   cases ht:z1u l with
   |false=>rw[z3S _ ht] at h;cases h
   |true=>
    match l,ht with
    |a::b::r,ht=>rw[z37 a b r ht] at h;cases h
  ·rw[z3M c l h37] at h;cases h
theorem zmK:∀c:Fin 256,z0c c.val=2→c.val=50:=by decide+kernel
theorem zp0:∀c:Fin 256,z0c c.val=14→c.val=69∨c.val=101:=by decide+kernel
theorem z79 (c:UInt8) (k:Nat) (h:c.toNat=k):c=k.toUInt8:=by subst h;simp
theorem zmL (a b:UInt8) (ha:z0c a.toNat<16) (hb:z0c b.toNat<16) (h:z49 a b=46):a=50∧(b=69∨b=101):=by
 have h1:=z1q (a.toNat:Int);have h2:=z1q (b.toNat:Int);have hx:(16*(z0c a.toNat).toNat+(z0c b.toNat).toNat)%256=46:=by have:=congrArg UInt8.toNat h;exact this
 have e1:z0c a.toNat=2:=by omega
 have e2:z0c b.toNat=14:=by omega
 refine⟨z79 a 50 (zmK ⟨a.toNat,a.toNat_lt⟩ e1),?_⟩;rcases zp0 ⟨b.toNat,b.toNat_lt⟩ e2 with h|h
 ·exact Or.inl (z79 b 69 h)
 ·exact Or.inr (z79 b 101 h)
theorem zaV (l r:Bs) (h:z0t l=46::r):∃l',z0t l'=r∧(l=46::l'∨l=37::50::69::l'∨l=37::50::101::l'):=by
 match l with
 | []=>cases h
 |c::l=>
  by_cases h37:c=37
  ·subst h37
   cases ht:z1u l with
   |false=>rw[z3S _ ht] at h;injection h with h _;exact absurd h (by decide)
   |true=>
    match l,ht with
    |a::b::q,ht=>
     rw[z37 a b q ht] at h;injection h with h h2;simp only[z1u,Bool.and_eq_true,decide_eq_true_eq] at ht;obtain⟨rfl,hb⟩:=zmL a b ht.1 ht.2 h;refine⟨q,h2,?_⟩;rcases hb with rfl|rfl
     ·exact Or.inr (Or.inl rfl)
     ·exact Or.inr (Or.inr rfl)
  ·rw[z3M c l h37] at h
   injection h with h h2;subst h;exact⟨l,h2,Or.inl rfl⟩
theorem zdO (l:Bs) (h:z0t l=[46]∨z0t l=[46,46]):z1V l≠0:=by
 rcases h with h|h
 ·obtain⟨l',h1,h2⟩:=zaV l _ h
  have:=zd3 l' h1;subst this;rcases h2 with rfl|rfl|rfl<;>decide
 ·obtain⟨l',h1,h2⟩:=zaV l _ h
  obtain⟨l2,h3,h4⟩:=zaV l' _ h1;have:=zd3 l2 h3;subst this;rcases h2 with rfl|rfl|rfl<;>rcases h4 with rfl|rfl|rfl<;>decide
theorem zeK (c:UInt8) (l:Bs):∃r,z0r (c::l)=c::r:=by
 by_cases h:pE.isPrefixOf (c::l)=false
 ·exact⟨_,z6W c l h⟩
 ·have h:pE.isPrefixOf (c::l)=true:=by simpa using h
  obtain⟨t,ht⟩:=List.isPrefixOf_iff_prefix.1 h;injection ht with h1 h2;subst h1;rw[←h2];exact⟨_,rfl⟩
theorem z8b (c:UInt8) (l:Bs) (h:c≠37):z0r (c::l)=c::z0r l:=by refine z6W c l ?_;simp[pE,List.isPrefixOf];intro h2;exact absurd h2.symm h
theorem zhA (l:Bs) (h:z1u l=false):z1u (z0r l)=false:=by
 match l with
 | []=>rfl
 | [a]=>
  by_cases ha:a=37
  ·subst ha;rfl
  ·rw[z8b a [] ha];rfl
 |a::b::r=>
  by_cases ha:a=37
  ·subst ha
   obtain⟨q,hq⟩:=zeK 37 (b::r);rw[hq];cases q with
   |nil=>rfl
   |cons x q=>rfl
  ·rw[z8b a _ ha]
   obtain⟨q,hq⟩:=zeK b r;rw[hq];exact h
theorem z6w:∀(n:Nat) (l:Bs),l.length≤n→z0t (z0r l)=z0t l
 |_,[],_=>rfl
 |0,c::l,h=>by simp at h
 |n+1,c::l,h=>by
  have hl:l.length≤n:=by simpa using h
  by_cases hp:pE.isPrefixOf (c::l)=false
  ·rw[z6W c l hp]
   by_cases h37:c=37
   ·subst h37
    cases ht:z1u l with
    |false=>rw[z3S _ (zhA l ht),z3S _ ht,z6w n l hl]
    |true=>
     match l,ht,hl with
     |a::b::r,ht,hl=>have ht2:=ht;simp only[z1u,Bool.and_eq_true,decide_eq_true_eq] at ht2;rw[z8b a _ (z8v a ht2.1).2,z8b b _ (z8v b ht2.2).2,z37 a b _ (by simp[z1u,ht2]),z37 a b r ht,z6w n r (by simp at hl;omega)]
   ·rw[z3M c _ h37,z3M c l h37,z6w n l hl]
  ·have hp:pE.isPrefixOf (c::l)=true:=by simpa using hp
   obtain⟨t,ht⟩:=List.isPrefixOf_iff_prefix.1 hp;rw[←ht];show z0t (37::50::101::z0r t)=z0t (37::50::69::t);rw[z37 _ _ _ (by simp[z1u];decide),z37 _ _ _ (by simp[z1u];decide),z6w n t]
   ·rfl
   ·have:=congrArg List.length ht
    simp[pE] at this;omega
theorem zdP (l:Bs) (h:z1V l≠0):z0t l=[46]∨z0t l=[46,46]:=by
 rw[←z6w l.length l (Nat.le_refl _)];unfold z1V at h;simp only at h;split at h
 ·rename_i h1;rcases h1 with h1|h1<;>rw[h1]<;>decide
 ·split at h
  ·rename_i h1;rcases h1 with h1|h1|h1|h1<;>rw[h1]<;>decide
  ·exact absurd rfl h
theorem zkM (p:Bs) (h:z1V p=0):z1V (esc 4 p)=0:=by
 cases Nat.decEq (z1V (esc 4 p)) 0 with
 |isTrue h=>exact h
 |isFalse h2=>have:=zdP _ h2;rw[z5M p.length p (Nat.le_refl _)] at this;exact absurd h (zdO p this)
theorem zj9 (p:Bs) (h:z0h (esc 4 p)=true):z0h p=true:=by
 match p with
 | []=>exact h
 | [a]=>
  cases ha:z0n 4 a.toNat with
  |true=>rw[z3F 4 a _ ha] at h;cases h
  |false=>rw[z2K 4 a _ ha] at h;exact h
 | [a,b]=>
  cases ha:z0n 4 a.toNat with
  |true=>rw[z3F 4 a _ ha] at h;cases h
  |false=>
   rw[z2K 4 a _ ha] at h;cases hb:z0n 4 b.toNat with
   |true=>rw[z3F 4 b _ hb] at h;cases h
   |false=>rw[z2K 4 b _ hb] at h;exact h
 |a::b::c::r=>
  have hl:=za0 4 (a::b::c::r);match hx:esc 4 (a::b::c::r),h with
  | [x,y],_=>rw[hx] at hl;simp at hl;omega
def z2j (s:Bs) (l:List Bs):Prop:=(∀p∈l,z6P s p)∧(s=sFile→z0h (l.headD [])=true→z15 (l.headD [])=true)
theorem z3i (s:Bs):z2j s []:=⟨fun p hp=>(by cases hp),fun _ h=>(by cases h)⟩
theorem zg2 (s:Bs):z6P s []:=⟨rfl,fun c hc=>by cases hc⟩
theorem zbE:∀k:Fin 16,z0T k.val≠47∧z0T k.val≠92:=by decide+kernel
theorem zhB:∀c:Fin 256,z18 c.val.toUInt8=true→z0n 4 c.val=false∧c.val≠47∧c.val≠92∧c.val≠37∧c.val≠46:=by decide+kernel
theorem zbF (c:UInt8) (h:z18 c=true):z0n 4 c.toNat=false∧c≠47∧c≠92∧c≠37∧c≠46:=by have:=zhB ⟨c.toNat,c.toNat_lt⟩ (by simpa using h);exact⟨this.1,z1d c 47 this.2.1 (by omega),z1d c 92 this.2.2.1 (by omega),z1d c 37 this.2.2.2.1 (by omega),z1d c 46 this.2.2.2.2 (by omega)⟩
theorem zhC (s:Bs) (a:UInt8) (h:z18 a=true):z6P s [a,58]:=by
 have ha:=zbF a h;refine⟨?_,fun c hc=>?_⟩
 ·unfold z1V
  rw[z8b a _ ha.2.2.2.1,z8b 58 _ (by decide)];have:=ha.2.2.2.2;have h37:=ha.2.2.2.1;simp[z0r,this,h37]
 ·simp only[List.mem_cons,List.not_mem_nil,or_false] at hc
  rcases hc with rfl|rfl
  ·exact⟨ha.1,ha.2.1,fun _=>ha.2.2.1⟩
  ·exact⟨by decide+kernel,by decide,fun _=>by decide⟩
theorem zeL (s p:Bs) (first:Bool) (hd:z1V p=0) (hb:∀c∈p,c≠47∧(z0b s=true→c≠92)):z6P s (z2G s p first)∧(first=true→s=sFile→z0h (z2G s p first)=true→z15 (z2G s p first)=true):=by
 unfold z2G;cases hx:(first&&decide (s=sFile)&&z0h p) with
 |true=>
  rw[if_pos rfl];simp only[Bool.and_eq_true,decide_eq_true_eq] at hx;match p,hx.2 with
  | [a,b],h2=>simp[z0h] at h2;refine⟨zhC s a h2.1,fun _ _ _=>?_⟩;simp[z15,z0h,h2.1]
 |false=>
  rw[if_neg (by simp)];refine⟨⟨zkM p hd,fun c hc=>?_⟩,fun h1 h2 h3=>?_⟩
  ·refine⟨z6Q 4 (by omega) p c hc,?_⟩
   rcases z8a _ p c hc with⟨h,_⟩|rfl|⟨k,rfl⟩
   ·exact hb c h
   ·exact⟨by decide,fun _=>by decide⟩
   ·exact⟨(zbE k).1,fun _=>(zbE k).2⟩
  ·rw[h1,h2] at hx
   have:=zj9 p h3;rw[this] at hx;simp at hx
theorem z8O (s:Bs) (l:List Bs) (p:Bs) (h:z2j s l) (hp:z6P s p) (hd:l=[]→s=sFile→z0h p=true→z15 p=true):z2j s (l++ [p]):=by
 refine⟨fun q hq=>?_,?_⟩
 ·rcases List.mem_append.1 hq with hq|hq
  ·exact h.1 q hq
  ·rw[List.mem_singleton] at hq;subst hq;exact hp
 ·cases l with
  |nil=>exact hd rfl
  |cons x l=>exact h.2
theorem za9 (s:Bs) (l:List Bs) (h:z2j s l):z2j s l.dropLast:=by
 refine⟨fun p hp=>h.1 p (List.dropLast_subset l hp),?_⟩;match l,h with
 | [],_=>exact fun _ h=>by cases h
 | [x],_=>exact fun _ h=>by cases h
 |x::y::l,h=>exact h.2
theorem z7a (s:Bs) (l:List Bs) (h:z2j s l):z2j s (z08 s l):=by
 unfold z08;split
 ·exact h
 ·exact za9 s l h
theorem z9u (s:Bs):∀(ps segs:List Bs),z2j s segs→(∀p∈ps,∀c∈p,c≠47∧(z0b s=true→c≠92))→z2j s (z0R s segs ps)∧(ps≠[]→z0R s segs ps≠[])
 | [],segs,h,_=>⟨h,fun h=>absurd rfl h⟩
 |p::ps,segs,h,hb=>by
  have hrec:=fun segs h=>z9u s ps segs h (fun q hq=>hb q (by simp[hq]));by_cases hd:z1V p=0
  ·rw[z0R,if_pos hd]
   have ht:=zeL s p segs.isEmpty hd (hb p (by simp));have h2:=hrec _ (z8O s segs _ h ht.1 (fun he=>by subst he;exact ht.2 rfl));refine⟨h2.1,fun _=>?_⟩;cases ps with
   |nil=>simp[z0R]
   |cons q ps=>exact h2.2 (by simp)
  ·rw[z0R,if_neg hd]
   have hw:z2j s (if z1V p=2 then z08 s segs else segs):=by
    split
    ·exact z7a s segs h
    ·exact h
   cases ps with
   |nil=>have h2:=hrec _ (z8O s _ [] hw (zg2 s) (fun _ _ h=>by cases h));exact⟨h2.1,fun _=>by simp[z0R]⟩
   |cons q ps=>have h2:=hrec _ hw;have e:(if List.isEmpty (q::ps)=true then [([]:Bs)] else [])=[]:=rfl;rw[e,List.append_nil];exact⟨h2.1,fun _=>h2.2 (by simp)⟩
theorem z5h (c:UInt8):∀(l x:Bs),x∈z0a c l→∀b∈x,b∈l∧b≠c
 | [],x,h=>by
  simp[z0a] at h;subst h;exact fun b hb=>by cases hb
 |a::l,x,h=>by
  intro b hb;by_cases ha:a=c
  ·rw[z0a,if_pos ha] at h
   rcases List.mem_cons.1 h with rfl|h
   ·cases hb
   ·have:=z5h c l x h b hb
    exact⟨by simp[this.1],this.2⟩
  ·rw[z0a,if_neg ha] at h
   cases hs:z0a c l with
   |nil=>exact absurd hs (z26 c l)
   |cons y ys=>
    rw[hs] at h;rcases List.mem_cons.1 h with rfl|h
    ·rcases List.mem_cons.1 hb with rfl|hb
     ·exact⟨by simp,ha⟩
     ·have:=z5h c l y (by rw[hs];simp) b hb
      exact⟨by simp[this.1],this.2⟩
    ·have:=z5h c l x (by rw[hs];simp[h]) b hb
     exact⟨by simp[this.1],this.2⟩
theorem zdQ (t:Bs) (c:UInt8) (h:c∈z0v t):c∈t:=by
 unfold z0v at h;split at h
 ·simp[h]
 ·exact h
theorem z3R (s:Bs) (begun:List Bs) (t:Bs) (h:z2j s begun) (ht:z0b s=true→∀c∈t,c≠92):z2j s (z0z s begun t)∧(z0b s=true∨t≠[]→z0z s begun t≠[]):=by
 unfold z0z;split
 ·rename_i hx
  refine⟨h,fun h2=>?_⟩;rcases h2 with h2|h2
  ·rw[hx.2] at h2;cases h2
  ·exact absurd hx.1 h2
 ·have:=z9u s (z0a 47 (z0v t)) begun h (fun p hp c hc=>by
   have hb:=z5h 47 _ p hp c hc;exact⟨hb.2,fun hs=>ht hs c (zdQ t c hb.1)⟩)
  exact⟨this.1,fun _=>this.2 (z26 47 _)⟩
end Go.Moor
