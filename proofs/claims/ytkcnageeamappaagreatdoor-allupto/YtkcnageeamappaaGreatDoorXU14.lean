import Derived.Test.YtkcnageeamappaaGreatDoorXU12a
import Derived.Test.YtkcnageeamappaaGreatDoorXU12b
import Derived.Test.YtkcnageeamappaaGreatDoorXU12d
set_option maxHeartbeats 32000000
set_option maxRecDepth 8000
set_option linter.unusedSimpArgs false
namespace Go.Proofs
open Go.RowKit Go.Moor Go.Proofs.Tryz Go.Moor
theorem zI {B R k j:Nat} {m:Value} {s:ByteArray} {w0:World} {u:Adr} {o:Value} (a:Nat) {w:World} (f:Mem B R k j m s w0 u o (a:Nat) 6 0 w) (h:u.w.o=false) (d:a<=s.size) (c:s.size<=1000000) (g:u.w.g.length<=1000000):Calls prog 181 #[.pointer (some ⟨k,0,none⟩)] w λe w'=>e=.returned (.tuple #[])/\bl B R k j m s w0 (bX ⟨u,s.data.toList.drop a,6,0⟩) w':=by
 obtain b|b|b:=Lf (bV u.s (s.L.drop a))
 .by_cases i:u.s=sFile
  .by_cases l:u.w.g=[]
   .cases n:aC (bV u.s (s.L.drop a)) with
    |true=>exact Lh a f h d c g b i l n
    |false=>exact Lk a f h d c g b i l n
   .exact Li a f h d c g b i l
  .exact Lj a f h d c g b i
 .exact Ll a f h d c g b
 .exact Lm a f h d c g b
theorem tv {B R k j:Nat} {e:Value} {s:ByteArray} {w0 w:World} {u:Adr} {l:Value} {a m i:Int} {base:Option Adr} (g:Mem B R k j e s w0 u l a m i w) (h:iY B w0 e base):(e=.pointer none/\dA base=none)\/(∃c b d,e=.pointer (some ⟨c,0,none⟩)/\UBase B w0 b c d/\¬b.s=sFile/\dA base=none/\c≠j/\c≠k/\w.heap[c]?=some (.cells (bD b d) 116 (0,0)))\/(∃c b d,e=.pointer (some ⟨c,0,none⟩)/\UBase B w0 b c d/\b.s=sFile/\dA base=some b/\base=some b/\c≠j/\c≠k/\w.heap[c]?=some (.cells (bD b d) 116 (0,0))):=by
 cases base with
 |none=>exact .inl ⟨h,rfl⟩
 |some b=>
  obtain⟨c,d,r,f⟩:=h;have n:=(g.below.block c f.lt).trans f.U;have q:c≠j:=by have:=f.lt;have:=g.bj;omega
  have p:c≠k:=by have:=f.lt;have:=g.bk;omega
  by_cases o:b.s=sFile
  .grind[dA]
  .grind[dA]
def ed (u:Adr):Adr:={u with t:={u.t with has:=true}}
theorem Ls (base:Option Adr) (u:Adr) (r:Bs) (b:Nat) (a:Int) (h:ax (ak u.s) r=true):fq base ⟨u,r,b,a⟩=⟨ed u,r.drop 1,9,a⟩:=by unfold fq;simp only;rw[ae h];rfl
theorem zK (base:Option Adr) (u:Adr) (r:Bs) (c:Nat) (a:Int) (h:ax (ak u.s) r=false) (b:dA base=none):fq base ⟨u,r,c,a⟩=⟨ed u,r,6,a⟩:=by unfold fq;simp only;rw[ab (by simp[h]),b];rfl
def cF (u:Adr) (h:Bs):Adr:={u with t:={u.t with has:=true,h:=h}}
theorem Lt (base:Option Adr) (b u:Adr) (r:Bs) (e:Nat) (a:Int) (h:ax (ak u.s) r=false) (c:dA base=some b) (f:eu r=false) (g:dr r=true):fq base ⟨u,r,e,a⟩=⟨cF u b.t.h,r,6,a⟩:=by unfold fq;simp only;rw[ab (by simp[h]),c];simp only;rw[ae ⟨λd=>Bool.noConfusion (f.symm.trans ((qv r).2 d)),g⟩];rfl
theorem Lu (base:Option Adr) (b u:Adr) (r:Bs) (c:Nat) (a:Int) (h:ax (ak u.s) r=false) (d:dA base=some b) (e:eu r=true\/dr r=false):fq base ⟨u,r,c,a⟩=eq b ⟨cF u b.t.h,r,c,a⟩:=by
 unfold fq;simp only;rw[ab (by simp[h]),d];simp only;rw[ab]
 .rfl
 .grind[qv]
theorem Lv {B R k j:Nat} {I:Value} {s:ByteArray} {w0:World} {u:Adr} {q:Value} (a:Nat) {w:World} {base:Option Adr} (f:Mem B R k j I s w0 u q (a:Nat) 8 0 w) (hb:iY B w0 I base) (a2:∀b,base=some b->ao b.s=true->b.w.o=false) (ho:u.w.o=false) (A:a<=s.size) (hs:s.size<=1000000) (T:u.w.g.length+gV base<=1000000):Calls prog 183 #[.pointer (some ⟨k,0,none⟩)] w fun e w'=>e=.returned (.tuple #[])/\bl B R k j I s w0 (fq base ⟨u,s.data.toList.drop a,8,0⟩) w':=by
 have y0:=f.y0;have y1:=f.y1;have y3:=f.y3;have y4:=f.y4;have f3:=f.f 3;have f4:=f.f 4;have c3:=f.v3;have c4:=f.v4;have d3:=f.g 3;have d4:=f.g 4;have a5:j≠k:=fun e=>f.ne e.symm;have p:=hI (f.uset (u':=ed u) 3 (.bool true) rfl rfl);have X:Hid _:=gH a p (by omega);have S:=tv f hb;cases o:ax (ak u.s) (s.L.drop a) with
 |true=>
  have M:=jc _ s a o;have d:Hid (fq base ⟨u,s.L.drop a,8,0⟩=⟨ed u,s.L.drop (a+1),9,0⟩):=by show _=_;rw[Ls base u _ 8 0 o,fQ]
  have h:Hid (CN 178 #[Pt k] (w.setCell (Ad j 3) (.bool true)) (.bool true)):=by have:=X;rw[show ax (ak (ed u).s) (s.L.drop a)=_ from o] at this;exact this
  rcases S with⟨rfl,_⟩|⟨c,b,Q,rfl,_,m,_,J,O,i⟩|⟨c,b,Q,rfl,_,m,_,_,J,O,i⟩
  .go_enter func183,ntmps183
   go_wp21;refine af h ?_;rintro e r ⟨rfl,n,rfl⟩;go_wp2;exact bS (v:=.tuple #[]) (bf rfl _ _ _) rfl ⟨rfl,by rw[d.out];exact bN (a:=a+1) (((p.out.drewN n).set_a _).set_st _) M _ rfl⟩
  .have K:Ce w c 0 (.string ⟨b.s.toArray⟩):=aa i 0
   have N:((⟨b.s.toArray⟩:ByteArray).toList==[102,105,108,101])=false:=dV b.s _ m;generalize(⟨b.s.toArray⟩:ByteArray)=L at*;go_enter func183,ntmps183;go_wp21;refine af h ?_;rintro e r ⟨rfl,n,rfl⟩;go_wp2;exact bS (v:=.tuple #[]) (bf rfl _ _ _) rfl ⟨rfl,by rw[d.out];exact bN (a:=a+1) (((p.out.drewN n).set_a _).set_st _) M _ rfl⟩
  .have K:Ce w c 0 (.string ⟨b.s.toArray⟩):=aa i 0
   have N:((⟨b.s.toArray⟩:ByteArray).toList==[102,105,108,101])=true:=fE b.s _ m;generalize(⟨b.s.toArray⟩:ByteArray)=L at*;go_enter func183,ntmps183;go_wp21;refine af h ?_;rintro e r ⟨rfl,n,rfl⟩;go_wp2;exact bS (v:=.tuple #[]) (bf rfl _ _ _) rfl ⟨rfl,by rw[d.out];exact bN (a:=a+1) (((p.out.drewN n).set_a _).set_st _) M _ rfl⟩
 |false=>
  have h:Hid (CN 178 #[Pt k] (w.setCell (Ad j 3) (.bool true)) (.bool false)):=by have:=X;rw[show ax (ak (ed u).s) (s.L.drop a)=_ from o] at this;exact this
  rcases S with⟨rfl,t⟩|⟨c,b,Q,rfl,_,m,t,J,O,i⟩|⟨c,b,Q,rfl,a1,m,t,V,J,O,i⟩
  .have d:Hid _:=zK base u (s.L.drop a) 8 0 o t
   go_enter func183,ntmps183;go_wp21;refine af h ?_;rintro e r ⟨rfl,n,rfl⟩;go_wp2;exact bS (v:=.tuple #[]) (bf rfl _ _ _) rfl ⟨rfl,by rw[d.out];exact bN (a:=a) ((p.out.drewN n).set_st _) A _ rfl⟩
  .have d:Hid _:=zK base u (s.L.drop a) 8 0 o t
   have K:Ce w c 0 (.string ⟨b.s.toArray⟩):=aa i 0;have N:((⟨b.s.toArray⟩:ByteArray).toList==[102,105,108,101])=false:=dV b.s _ m;generalize(⟨b.s.toArray⟩:ByteArray)=L at*;go_enter func183,ntmps183;go_wp21;refine af h ?_;rintro e r ⟨rfl,n,rfl⟩;go_wp2;exact bS (v:=.tuple #[]) (bf rfl _ _ _) rfl ⟨rfl,by rw[d.out];exact bN (a:=a) ((p.out.drewN n).set_st _) A _ rfl⟩
  .have a4:=a2 b V (by rw[m];decide)
   have K:Ce w c 0 (.string ⟨b.s.toArray⟩):=aa i 0;have b4:Ce w c 4 (.string ⟨b.t.h.toArray⟩):=aa i 4;have N:((⟨b.s.toArray⟩:ByteArray).toList==[102,105,108,101])=true:=fE b.s _ m;have a3:u.w.g.length+b.w.g.length<=1000000:=(by rw[V] at T;exact T);have G:Hid (∀n,Mem B R k j (Pt c) s w0 (cF u b.t.h) q (a:Nat) 8 0 ((((w.setCell (Ad j 3) (.bool true)).drewN n).drew).setCell (Ad j 4) (.string ⟨b.t.h.toArray⟩))):=fun n=>(p.out.drewN n).drew.uset (u':=cF u b.t.h) 4 _ rfl rfl;have y:Hid (∀W,Mem B R k j (Pt c) s w0 (cF u b.t.h) q (a:Nat) 8 0 W->CQ 221 #[Pt k] W (.bool (eu (s.L.drop a))) (Mem B R k j (Pt c) s w0 (cF u b.t.h) q (a:Nat) 8 0)):=(by intro W l;refine(tQ a l (by omega)).mono ?_;rintro e w' ⟨P,n,rfl⟩;exact⟨P,l.drewN n⟩);have z:Hid (∀W,Mem B R k j (Pt c) s w0 (cF u b.t.h) q (a:Nat) 8 0 W->CQ 225 #[Pt k] W (.bool (dr (s.L.drop a))) (Mem B R k j (Pt c) s w0 (cF u b.t.h) q (a:Nat) 8 0)):=(by intro W l;refine(tN k a s W (aa l.K 2) (aa l.K 3) A (by omega)).mono ?_;rintro e w' ⟨P,n,rfl⟩;exact⟨P,l.drewN n⟩);have a0:Hid (∀W,Mem B R k j (Pt c) s w0 (cF u b.t.h) q (a:Nat) 8 0 W->CQ 219 #[Pt k] W (.tuple #[]) (bl B R k j (Pt c) s w0 (eq b ⟨cF u b.t.h,s.L.drop a,8,0⟩))):=fun W l=>AH a 8 l a1 ho a4 A (by omega) a3;have Z:Hid _:=Lt base b u (s.L.drop a) 8 0 o t;have D:Hid _:=Lu base b u (s.L.drop a) 8 0 o t;generalize(⟨b.s.toArray⟩:ByteArray)=L at*;cases F:eu (s.L.drop a) with
   |true=>have d:Hid _:=D (Or.inl F);rw[F] at y;generalize dr (s.L.drop a)=dv at*;clear D;go_enter func183,ntmps183;go_wp21;refine af h ?_;rintro e r ⟨rfl,n,rfl⟩;go_wp2;go_region;go_wp21;refine af (y _ (G n)) ?_;rintro e U ⟨rfl,(C:Hid _)⟩;go_wp21;refine af (z _ C) ?_;rintro e Y ⟨rfl,g⟩;have x:Hid _:=g;clear g;go_wp21;refine af (a0 _ x) ?_;rintro e w4 ⟨rfl,(H:Hid _)⟩;go_wp2;exact bS (v:=.tuple #[]) (bf rfl _ _ _) rfl ⟨rfl,by rw[d.out];exact H⟩
   |false=>
    rw[F] at y;cases E:dr (s.L.drop a) with
    |true=>have d:Hid _:=Z F E;rw[E] at z;clear Z;go_enter func183,ntmps183;go_wp21;refine af h ?_;rintro e r ⟨rfl,n,rfl⟩;go_wp2;go_region;go_wp21;refine af (y _ (G n)) ?_;rintro e U ⟨rfl,(C:Hid _)⟩;go_wp21;refine af (z _ C) ?_;rintro e Y ⟨rfl,g⟩;have x:Hid _:=g;have t4:=g.y4;have t5:=g.f 4;clear g;go_wp2;exact bS (v:=.tuple #[]) (bf rfl _ _ _) rfl ⟨rfl,by rw[d.out];exact bN (a:=a) (x.out.set_st 6) A _ rfl⟩
    |false=>have d:Hid _:=D (Or.inr E);rw[E] at z;clear D;go_enter func183,ntmps183;go_wp21;refine af h ?_;rintro e r ⟨rfl,n,rfl⟩;go_wp2;go_region;go_wp21;refine af (y _ (G n)) ?_;rintro e U ⟨rfl,(C:Hid _)⟩;go_wp21;refine af (z _ C) ?_;rintro e Y ⟨rfl,g⟩;have x:Hid _:=g;clear g;go_wp21;refine af (a0 _ x) ?_;rintro e w4 ⟨rfl,(H:Hid _)⟩;go_wp2;exact bS (v:=.tuple #[]) (bf rfl _ _ _) rfl ⟨rfl,by rw[d.out];exact H⟩
end Go.Proofs
