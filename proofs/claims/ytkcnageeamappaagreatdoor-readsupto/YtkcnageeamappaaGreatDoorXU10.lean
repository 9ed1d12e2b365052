import Derived.Test.YtkcnageeamappaaGreatDoorXU8
set_option maxHeartbeats 32000000
set_option maxRecDepth 8000
namespace Go.Proofs
open Go.RowKit Go.Moor Go.Proofs.Tryz
def z6s (B:Nat) (w0:World) (bv:Value) (base:Option Adr):Prop:=
 match base with
 |none=>bv=.pointer none
 |some b=>∃bj bpv,bv=.pointer (some ⟨bj,0,none⟩)∧UBase B w0 b bj bpv
def z6B (B R k j:Nat) (bv:Value) (s:ByteArray) (w0:World) (c:Mc) (w:World):Prop:=
 (c.err=0∧z3u B R k j bv s w0 c w)∨(c.err≠0∧Below B w0 w∧∃x0 x1 x2 x3,∃st:Int,w.heap[k]?=some (.cells #[x0,x1,x2,x3,.int .i64 st,.int .i64 c.err] 168 (0,0)))
theorem z3s {B R k j:Nat} {bv:Value} {s:ByteArray} {w0 w:World} {u:Adr} {pv:Value} {a st er:Int} (h:Mem B R k j bv s w0 u pv a st er w) (c:Mc) (hc:c.err=er) (he:er≠0):z6B B R k j bv s w0 c w:=
 Or.inr ⟨by rw[hc];exact he,h.below,_,_,_,_,_,by rw[hc];exact h.mach⟩
theorem z4g {B R k j:Nat} {bv:Value} {s:ByteArray} {w0 w:World} {c:Mc} (h:z3u B R k j bv s w0 c w) (hc:c.err=0):z6B B R k j bv s w0 c w:=Or.inl ⟨hc,h⟩
theorem zdr (base:Option Adr) (s:Bs) (h:s=sFile):z2u base s=8:=if_pos h
theorem zds (base:Option Adr) (s:Bs) (h:¬s=sFile) (h2:z0b s=false):z2u base s=15:=by unfold z2u;rw[if_neg h,if_neg (by simp[h2])]
theorem zlE (b:Adr) (s:Bs) (h:¬s=sFile) (h2:z0b s=true) (h3:b.scheme=s):z2u (some b) s=1:=by unfold z2u;rw[if_neg h,if_pos h2,if_pos (by simp[h3])]
theorem zfz (base:Option Adr) (s:Bs) (h:¬s=sFile) (h2:z0b s=true) (h3:∀b,base=some b→¬b.scheme=s):z2u base s=3:=by
 unfold z2u;rw[if_neg h,if_pos h2,if_neg];cases base with
 |none=>simp
 |some b=>simpa using h3 b rfl
theorem znm {B R k j:Nat} {bv:Value} {s:ByteArray} {w0:World} {u:Adr} {pv:Value} {a st er:Int} {w:World} {base:Option Adr} (hm:Mem B R k j bv s w0 u pv a st er w) (hb:z6s B w0 bv base):CN 123 #[.pointer (some ⟨k,0,none⟩)] w (.int .i64 (z2u base u.scheme:Nat)):=by
 have HSP:Hid (∀W,C0 129 #[.string ⟨u.scheme.toArray⟩] W (.bool (z0b u.scheme))):=fun W=>zae ⟨u.scheme.toArray⟩ W;have y0:=hm.y0;have y1:=hm.y1;have c0:=hm.v0;have hbase:(bv=.pointer none∧base=none)∨∃bj b,bv=.pointer (some ⟨bj,0,none⟩)∧base=some b∧w.cell? ⟨bj,0,none⟩=some (.string ⟨b.scheme.toArray⟩):=by
  cases base with
  |none=>exact Or.inl ⟨hb,rfl⟩
  |some b=>obtain⟨bj,bpv,h1,h2⟩:=hb;have hub:=(hm.below.block bj h2.lt).trans h2.url;exact Or.inr ⟨bj,b,h1,rfl,z00 hub 0⟩
 clear hm hb;rcases hbase with⟨rfl,rfl⟩|⟨bj,b,rfl,rfl,b0⟩
 ·by_cases hf:u.scheme=sFile
  ·have HE:Hid (z2u none u.scheme=8):=zdr _ _ hf
   have e1:((⟨u.scheme.toArray⟩:ByteArray).toList==[102,105,108,101])=true:=z4t u.scheme _ hf;rw[HE.out];generalize(⟨u.scheme.toArray⟩:ByteArray)=scb at*;clear hf HSP HE;go_enter func123,ntmps123;go_wp2;go_quiet (fail);go_wp2;go_ret;exact⟨rfl,_,rfl⟩
  ·have e1:((⟨u.scheme.toArray⟩:ByteArray).toList==[102,105,108,101])=false:=z38 u.scheme _ hf
   have HR1:=hI fun h=>zfz none u.scheme hf h (fun b hb=>by cases hb);have HR2:=hI fun h=>zds none u.scheme hf h;generalize(⟨u.scheme.toArray⟩:ByteArray)=scb at*;clear hf;cases hsp:z0b u.scheme with
   |true=>rw[HR1.out hsp];rw[hsp] at HSP;clear HR1 HR2 hsp;go_enter func123,ntmps123;go_wp2;go_quiet (fail);go_wp2_with fail;refine Calls.mono (HSP.out _) ?_;rintro e w1 ⟨rfl,hw1⟩;obtain rfl:=hw1.symm;go_wp2_with fail;refine Calls.mono (HSP.out _) ?_;rintro e w1 ⟨rfl,hw1⟩;obtain rfl:=hw1.symm;go_wp2;go_ret;exact⟨rfl,_,rfl⟩
   |false=>rw[HR2.out hsp];rw[hsp] at HSP;clear HR1 HR2 hsp;go_enter func123,ntmps123;go_wp2;go_quiet (fail);go_wp2_with fail;refine Calls.mono (HSP.out _) ?_;rintro e w1 ⟨rfl,hw1⟩;obtain rfl:=hw1.symm;go_wp2_with fail;refine Calls.mono (HSP.out _) ?_;rintro e w1 ⟨rfl,hw1⟩;obtain rfl:=hw1.symm;go_wp2;go_ret;exact⟨rfl,_,rfl⟩
 ·have HB:Hid (((⟨b.scheme.toArray⟩:ByteArray).toList==(⟨u.scheme.toArray⟩:ByteArray).toList)=decide (b.scheme=u.scheme)):=by
   show _=_;rw[Lib.toList_data,Lib.toList_data];show(b.scheme==u.scheme)=_;rw[Bool.eq_iff_iff,beq_iff_eq,decide_eq_true_iff]
  by_cases hf:u.scheme=sFile
  ·have HE:Hid (z2u (some b) u.scheme=8):=zdr _ _ hf
   have e1:((⟨u.scheme.toArray⟩:ByteArray).toList==[102,105,108,101])=true:=z4t u.scheme _ hf;rw[HE.out];generalize(⟨u.scheme.toArray⟩:ByteArray)=scb at*;generalize(⟨b.scheme.toArray⟩:ByteArray)=bcb at*;clear hf HSP HE HB;go_enter func123,ntmps123;go_wp2;go_quiet (fail);go_wp2;go_ret;exact⟨rfl,_,rfl⟩
  ·have e1:((⟨u.scheme.toArray⟩:ByteArray).toList==[102,105,108,101])=false:=z38 u.scheme _ hf
   have HR0:=hI fun h h2=>zlE b u.scheme hf h h2;have HR1:=hI fun h h2=>zfz (some b) u.scheme hf h (fun b' hb'=>by injection hb' with hb';subst hb';exact h2);have HR2:=hI fun h=>zds (some b) u.scheme hf h;clear hf;cases hsp:z0b u.scheme with
   |true=>
    rw[hsp] at HSP;by_cases hsame:b.scheme=u.scheme
    ·have hbb:=HB.out
     rw[decide_eq_true hsame] at hbb;rw[HR0.out hsp hsame];generalize(⟨u.scheme.toArray⟩:ByteArray)=scb at*;generalize(⟨b.scheme.toArray⟩:ByteArray)=bcb at*;clear HR0 HR1 HR2 hsp hsame HB;go_enter func123,ntmps123;go_wp2;go_quiet (fail);go_wp2_with fail;refine Calls.mono (HSP.out _) ?_;rintro e w1 ⟨rfl,hw1⟩;obtain rfl:=hw1.symm;go_wp2;go_ret;exact⟨rfl,_,rfl⟩
    ·have hbb:=HB.out
     rw[decide_eq_false hsame] at hbb;rw[HR1.out hsp hsame];generalize(⟨u.scheme.toArray⟩:ByteArray)=scb at*;generalize(⟨b.scheme.toArray⟩:ByteArray)=bcb at*;clear HR0 HR1 HR2 hsp hsame HB;go_enter func123,ntmps123;go_wp2;go_quiet (fail);go_wp2_with fail;refine Calls.mono (HSP.out _) ?_;rintro e w1 ⟨rfl,hw1⟩;obtain rfl:=hw1.symm;go_wp2_with fail;refine Calls.mono (HSP.out _) ?_;rintro e w1 ⟨rfl,hw1⟩;obtain rfl:=hw1.symm;go_wp2;go_ret;exact⟨rfl,_,rfl⟩
   |false=>rw[HR2.out hsp];rw[hsp] at HSP;generalize(⟨u.scheme.toArray⟩:ByteArray)=scb at*;generalize(⟨b.scheme.toArray⟩:ByteArray)=bcb at*;clear HR0 HR1 HR2 hsp HB;go_enter func123,ntmps123;go_wp2;go_quiet (fail);go_wp2_with fail;refine Calls.mono (HSP.out _) ?_;rintro e w1 ⟨rfl,hw1⟩;obtain rfl:=hw1.symm;go_wp2_with fail;refine Calls.mono (HSP.out _) ?_;rintro e w1 ⟨rfl,hw1⟩;obtain rfl:=hw1.symm;go_wp2;go_ret;exact⟨rfl,_,rfl⟩
end Go.Proofs
