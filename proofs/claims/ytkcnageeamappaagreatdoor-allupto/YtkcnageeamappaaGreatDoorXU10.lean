import Derived.Test.YtkcnageeamappaaGreatDoorXU8
set_option maxHeartbeats 32000000
set_option maxRecDepth 8000
set_option linter.unusedSimpArgs false
namespace Go.Proofs
open Go.RowKit Go.Moor Go.Proofs.Tryz Go.Moor
def iY (B:Nat) (w0:World) (bv:Value) (base:Option Adr):Prop:=
 match base with
 |none=>bv=.pointer none
 |some b=>∃bj bpv,bv=.pointer (some ⟨bj,0,none⟩)/\Tryz.UBase B w0 b bj bpv
def iD (B R k j:Nat) (bv:Value) (s:ByteArray) (w0:World) (c:Mc) (w:World):Prop:=
 (c.err=0/\bl B R k j bv s w0 c w)\/(c.err≠0/\Below B w0 w/\∃x0 x1 x2 x3,∃st:Int,w.heap[k]?=some (.cells #[x0,x1,x2,x3,.int .i64 st,.int .i64 c.err] 168 (0,0)))
theorem kJ {B R k j:Nat} {d:Value} {s:ByteArray} {w0 w:World} {u:Adr} {e:Value} {a g b:Int} (h:Mem B R k j d s w0 u e a g b w) (c:Mc) (f:c.err=b) (i:b≠0):iD B R k j d s w0 c w:=
 .inr ⟨by omega,h.below,_,_,_,_,_,by rw[f];exact h.K⟩
theorem iZ {B R k j:Nat} {a:Value} {s:ByteArray} {w0 w:World} {c:Mc} (h:bl B R k j a s w0 c w) (b:c.err=0):iD B R k j a s w0 c w:=.inl ⟨b,h⟩
theorem zD (base:Option Adr) (s:Bs) (h:s=sFile):dI base s=8:=ae h
theorem zE (base:Option Adr) (s:Bs) (h:¬s=sFile) (a:ao s=false):dI base s=15:=by simp_all[dI]
theorem Lc (b:Adr) (s:Bs) (h:¬s=sFile) (c:ao s=true) (a:b.s=s):dI (some b) s=1:=by simp_all[dI]
theorem zF (base:Option Adr) (s:Bs) (h:¬s=sFile) (a:ao s=true) (c:∀b,base=some b->¬b.s=s):dI base s=3:=by
 unfold dI;rw[ab h,ae a,ab];cases base with
 |none=>simp
 |some b=>grind
theorem Ld {B R k j:Nat} {t:Value} {s:ByteArray} {w0:World} {u:Adr} {L:Value} {a J K:Int} {w:World} {base:Option Adr} (y:Mem B R k j t s w0 u L a J K w) (v:iY B w0 t base):Calls prog 123 #[.pointer (some ⟨k,0,none⟩)] w fun e w'=>e=.returned (.int .i64 (dI base u.s:Nat))/\∃n,w'=w.drewN n:=by
 have f:Hid (∀W,Calls Tryz.prog 129 #[.string ⟨u.s.toArray⟩] W fun e w'=>e=.returned (.bool (ao u.s))/\w'=W):=fun W=>kI ⟨u.s.toArray⟩ W;have y0:w.cell? ⟨k,0,none⟩=some (.pointer (some ⟨j,0,none⟩)):=aa y.K 0;have y1:w.cell? ⟨k,1,none⟩=some t:=aa y.K 1;have N:w.cell? ⟨j,0,none⟩=some (.string ⟨u.s.toArray⟩):=aa y.U 0;have I:(t=.pointer none/\base=none)\/∃q b,t=Pt q/\base=some b/\Ce w q 0 (.string ⟨b.s.toArray⟩):=by
  cases base with
  |none=>exact .inl ⟨v,rfl⟩
  |some b=>obtain⟨q,O,H,o⟩:=v;have G:=(y.below.block q o.lt).trans o.U;exact .inr ⟨q,b,H,rfl,aa G 0⟩
 clear y v;obtain⟨rfl,rfl⟩|⟨q,b,rfl,rfl,M⟩:=I
 .by_cases d:u.s=sFile
  .have z:Hid (dI none u.s=8):=zD _ _ d
   have E:((⟨u.s.toArray⟩:ByteArray).toList==[102,105,108,101])=true:=fE u.s _ d;rw[z.out];generalize(⟨u.s.toArray⟩:ByteArray)=x at*;clear d f z;go_enter func123,ntmps123;go_wp2;go_quiet (fail);go_wp2;go_ret;exact⟨rfl,_,rfl⟩
  .have E:((⟨u.s.toArray⟩:ByteArray).toList==[102,105,108,101])=false:=dV u.s _ d
   have i:=hI fun h=>zF none u.s d h (fun b v=>by cases v);have l:=hI fun h=>zE none u.s d h;generalize(⟨u.s.toArray⟩:ByteArray)=x at*;clear d;cases g:ao u.s with
   |true=>rw[i.out g];rw[g] at f;clear i l g;go_enter Tryz.func123,uC;go_wp2;go_quiet (fail);go_wp2_with fail;refine af (f.out _) ?_;rintro e m ⟨rfl,c⟩;have c:=c.symm;subst c;go_wp2_with fail;refine af (f.out _) ?_;rintro e m ⟨rfl,c⟩;have c:=c.symm;subst c;go_wp2;go_ret;exact⟨rfl,_,rfl⟩
   |false=>rw[l.out g];rw[g] at f;clear i l g;go_enter func123,ntmps123;go_wp2;go_quiet (fail);go_wp2_with fail;refine mR (f _) fun m c=>?_;obtain rfl:=c.symm;go_wp2_with fail;refine mR (f _) fun m c=>?_;obtain rfl:=c.symm;go_wp2;go_ret;exact⟨rfl,_,rfl⟩
 .have r:Hid (((⟨b.s.toArray⟩:ByteArray).toList==(⟨u.s.toArray⟩:ByteArray).toList)=decide (b.s=u.s)):=by
   show _=_;rw[cG,cG];show(b.s==u.s)=_;rw[ki,dM,oD]
  by_cases d:u.s=sFile
  .have z:Hid (dI (some b) u.s=8):=zD _ _ d
   have E:((⟨u.s.toArray⟩:ByteArray).toList==[102,105,108,101])=true:=fE u.s _ d;rw[z.out];generalize(⟨u.s.toArray⟩:ByteArray)=x at*;generalize(⟨b.s.toArray⟩:ByteArray)=D at*;clear d f z r;go_enter func123,ntmps123;go_wp2;go_quiet (fail);go_wp2;go_ret;exact⟨rfl,_,rfl⟩
  .have E:((⟨u.s.toArray⟩:ByteArray).toList==[102,105,108,101])=false:=dV u.s _ d
   have A:Hid (ao u.s=true->b.s=u.s->dI (some b) u.s=1):=fun h o=>Lc b u.s d h o;have i:Hid (ao u.s=true->¬b.s=u.s->dI (some b) u.s=3):=fun h o=>zF (some b) u.s d h (fun P F=>by injection F with F;subst F;exact o);have l:Hid (ao u.s=false->dI (some b) u.s=15):=fun h=>zE (some b) u.s d h;clear d;cases g:ao u.s with
   |true=>
    rw[g] at f;by_cases p:b.s=u.s
    .have C:=r.out
     rw[dC p] at C;rw[A.out g p];generalize(⟨u.s.toArray⟩:ByteArray)=x at*;generalize(⟨b.s.toArray⟩:ByteArray)=D at*;clear A i l g p r;go_enter Tryz.func123,uC;go_wp2;go_quiet (fail);go_wp2_with fail;refine af (f.out _) ?_;rintro e m ⟨rfl,c⟩;have c:=c.symm;subst c;go_wp2;go_ret;exact⟨rfl,_,rfl⟩
    .have C:=r.out
     rw[ee p] at C;rw[i.out g p];generalize(⟨u.s.toArray⟩:ByteArray)=x at*;generalize(⟨b.s.toArray⟩:ByteArray)=D at*;clear A i l g p r;go_enter Tryz.func123,uC;go_wp2;go_quiet (fail);go_wp2_with fail;refine af (f.out _) ?_;rintro e m ⟨rfl,c⟩;have c:=c.symm;subst c;go_wp2_with fail;refine af (f.out _) ?_;rintro e m ⟨rfl,c⟩;have c:=c.symm;subst c;go_wp2;go_ret;exact⟨rfl,_,rfl⟩
   |false=>rw[l.out g];rw[g] at f;generalize(⟨u.s.toArray⟩:ByteArray)=x at*;generalize(⟨b.s.toArray⟩:ByteArray)=D at*;clear A i l g r;go_enter Tryz.func123,uC;go_wp2;go_quiet (fail);go_wp2_with fail;refine af (f.out _) ?_;rintro e m ⟨rfl,c⟩;have c:=c.symm;subst c;go_wp2_with fail;refine af (f.out _) ?_;rintro e m ⟨rfl,c⟩;have c:=c.symm;subst c;go_wp2;go_ret;exact⟨rfl,_,rfl⟩
end Go.Proofs
