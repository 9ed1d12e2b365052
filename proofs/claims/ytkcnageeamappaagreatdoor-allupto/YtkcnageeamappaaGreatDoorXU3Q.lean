import Derived.Test.YtkcnageeamappaaGreatDoorXMx
set_option maxHeartbeats 32000000
set_option maxRecDepth 8000
set_option linter.unusedSimpArgs false
namespace Go.Moor
open Go
def iG (c:Mc):Prop:=(c.st=14\/c.st=8\/c.st=9\/c.st=10)->c.u.t.h=[]
theorem gd (c:Mc) (h:c.st≠14/\c.st≠8/\c.st≠9/\c.st≠10):iG c:=λa=>by omega
theorem mC (c:Mc):iG (bw c):=by grind[gd,bw]
theorem AB (b:Adr) (c:Mc):iG (eq b c):=by grind[eq,mC,gd]
section
variable (H : Bs → Bool → Option Bs) {base : Option Adr}
theorem ND (c:Mc) (h:iG c):iG (ap H base c):=by
 by_cases a:c.st=14
 .have d:ap H base c=gi base c:=by simp[ap,a]
  rw[d];have e:=h (.inl a);unfold gi;split
  .exact λ_=>e
  .split
   .exact λ_=>e
   .split
    .exact mC _
    .exact λ_=>e
 by_cases a:c.st=15
 .have d:ap H base c=gj c:=by simp[ap,a]
  rw[d];unfold gj;split
  .grind[gd]
  .simp[gd]
 by_cases a:c.st=1
 .cases base with
  |none=>grind[ap]
  |some b=>grind[ap,ib,gd,AB]
 by_cases a:c.st=2
 .cases base with
  |none=>grind[ap]
  |some b=>grind[ap,fZ,gd]
 by_cases a:c.st=3
 .simp_all[ap,jt,gd]
 by_cases a:c.st=4
 .have d:ap H base c=gB H c:=by simp[ap,a]
  rw[d];unfold gB;split
  .grind[gd]
  .simp[gd]
 by_cases a:c.st=5
 .have d:ap H base c=eQ c:=by simp[ap,a]
  rw[d];unfold eQ;split
  .simp[gd]
  .grind[mC,gd]
 by_cases a:c.st=6
 .have d:ap H base c=bX c:=by simp[ap,a]
  rw[d];unfold bX;simp only;split
  .grind[gd]
  .exact mC _
 by_cases a:c.st=7
 .simp_all[ap,iA,mC]
 by_cases a:c.st=8
 .have d:ap H base c=fq base c:=by simp[ap,a]
  rw[d];have e:=h (by omega);unfold fq;simp only;split
  .exact λ_=>e
  .grind[gd,AB]
 by_cases a:c.st=9
 .have d:ap H base c=dJ base c:=by simp[ap,a]
  rw[d];have e:=h (by omega);unfold dJ;simp only;split
  .exact λ_=>e
  .grind[gd]
 by_cases a:c.st=10
 .have d:ap H base c=gC H c:=by simp[ap,a]
  rw[d];have e:=h (by omega);unfold gC;simp only;split
  .simp[gd]
  .split
   .exact λ_=>e
   .simp[gd]
 by_cases a:c.st=11
 .simp_all[ap,ju,mC]
 by_cases a:c.st=12
 .simp_all[ap,lo,gd]
 have d : ap H base c = c := by simp [ap, *]
 rw[d];exact h
end
end Go.Moor
