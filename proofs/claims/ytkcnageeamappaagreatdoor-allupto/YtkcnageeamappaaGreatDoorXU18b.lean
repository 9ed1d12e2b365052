import Derived.Test.YtkcnageeamappaaGreatDoorXU18a
import Derived.Test.YtkcnageeamappaaGreatDoorXU13
set_option maxHeartbeats 32000000
set_option maxRecDepth 8000
set_option linter.unusedSimpArgs false
namespace Go.Proofs
open Go.RowKit Go.Moor Go.Proofs.Tryz Go.Moor
theorem zS (a l:Bs) (b:Nat) (h:b<l.length):ax (ak a) (l.drop b)=ak a l[b]:=by rw[ch h];rfl
theorem Mn {B R k j:Nat} {c:Value} {s:ByteArray} {w0:World} {u:Adr} {m:Value} (a:Nat) {w:World} (A:Mem B R k j c s w0 u m (a:Nat) 3 0 w) (F:a<=s.size) (Z:s.size<=1000000):Calls prog 124 #[.pointer (some ⟨k,0,none⟩)] w fun e w'=>e=.returned (.tuple #[])/\bl B R k j c s w0 (jt ⟨u,s.data.toList.drop a,3,0⟩) w':=by
 obtain⟨l,q⟩:=am s.data.toList;have a0:l.length=s.size:=by rw[q,bT];rfl
 have v:Hid (∀(b:Nat) W,b<=s.size->Mem B R k j c s w0 u m (b:Nat) 3 0 W->CQ 178 #[Pt k] W (.bool (ax (ak u.s) (l.drop b))) (Mem B R k j c s w0 u m (b:Nat) 3 0)):=by intro b W d I;rw[q];refine(gH b I (by omega)).mono ?_;rintro e w' ⟨P,n,rfl⟩;exact⟨P,I.drewN n⟩
 have E:Hid (∀b,a<=b->b<=s.size->(∀i (h:i<l.length),a<=i->i<b->ak u.s l[i]=true)->ax (ak u.s) (l.drop b)=false->jt ⟨u,s.data.toList.drop a,3,0⟩=⟨u,s.data.toList.drop b,4,0⟩):=by
  intro b r d g o;rw[<-q];have:=tu (ak u.s) l a b r g (by omega) (by
   grind[zS])
  unfold jt;simp only;rw[this.2]
 have D:Hid (∀b,b<=s.size->(∀i (h:i<l.length),a<=i->i<b->ak u.s l[i]=true)->ax (ak u.s) (l.drop b)=true->b<s.size/\∀i (h:i<l.length),a<=i->i<b+1->ak u.s l[i]=true):=by
  intro b d g t;have z:b<l.length:=by
   obtain h|h:=jL b l.length
   .exact h
   .rw[im h] at t
    cases t
  refine⟨by omega,fun i h V h4=>?_⟩;obtain O|O:=jL i b
  .grind
  .grind[zS]
 have y4:=A.y4;have K:=hI A;clear A q;go_enter func124,ntmps124;go_wp2_with fail;refine mR (v a w F K) fun w1 J=>?_;have H:Hid _:=J;clear J K y4;go_wp2_with fail;go_loopw [4] (fun x wr=>∃b:Nat,a<=b/\b<=s.size/\x=.bool (ax (ak u.s) (l.drop b))/\(∀i (h:i<l.length),a<=i->i<b->ak u.s l[i]=true)/\Mem B R k j c s w0 u m (b:Nat) 3 0 wr) (fun x wr=>s.size-((wr.cell? (Ad k 3)).map intOf).getD 0|>.toNat)
 case atStart=>exact⟨a,.refl,F,rfl,fun i h t S=>by omega,H⟩
 case round=>
  clear H;obtain⟨b,r,d,rfl,g,f⟩:=hrel;have p:=hI g;have C:=hI f;have y3:=f.y3;have y4:=f.y4;have U:=f.f 3;have X:=f.f 4;clear g f;cases o:ax (ak u.s) (l.drop b) with
  |false=>have N:Hid _:=E b r d p o;clear E D v p o;go_wp2;go_end0;exact⟨rfl,by rw[N.out];exact bN (a:=b) (C.out.set_st 4) d _ rfl⟩
  |true=>
   obtain⟨z,G⟩:=D b d p o;have Q:Hid _:=G;have L:Hid (Mem B R k j c s w0 u m ((b+1:Nat):Int) 3 0 (wr.setCell (Ad k 3) (Iv ((b:Int)+1)))):=C.out.set_a _;clear E D p G o C;go_wp2_with fail;refine mR (v (b+1) _ z L) fun Y y=>?_;have M:Hid _:=y;have T:=y.y3;clear y;go_wp2;go_roundw
   case rel=>exact⟨b+1,by omega,z,rfl,Q,M⟩
   case measure=>grind[intOf]
end Go.Proofs
