import Derived.Test.YtkcnageeamappaaGreatDoorXU16
import Derived.Test.YtkcnageeamappaaGreatDoorXU18c
set_option maxHeartbeats 32000000
set_option maxRecDepth 8000
set_option linter.unusedSimpArgs false
namespace Go.Proofs
open Go.RowKit Go.Moor Go.Proofs.Tryz Go.Moor
theorem Mp {B R k j l:Nat} {s:ByteArray} {w0:World} {u b:Adr} {q:Value} (a:Nat) {w:World} (c:Mem B R k j (.pointer (some ⟨l,0,none⟩)) s w0 u q (a:Nat) 2 0 w) (o:a<=s.size) (y:s.size<=1000000) (g:ax (ak u.s) (s.data.toList.drop a)=true):Calls prog 124 #[.pointer (some ⟨k,0,none⟩)] w fun e w'=>e=.returned (.tuple #[])/\bl B R k j (.pointer (some ⟨l,0,none⟩)) s w0 (fZ b ⟨u,s.data.toList.drop a,2,0⟩) w':=by
 have h:Hid _:=gH a c (by omega);have d:=hI fun W=>kI (Bv u.s) W;have y0:=c.y0;have y3:=c.y3;have y4:=c.y4;have t:=c.f 3;have v:=c.f 4;have x:=c.v0;have m:=hI c;have p:=jc _ s a g;rw[g] at h;cases f:ao u.s with
 |true=>
  have i:Hid (fZ b ⟨u,s.L.drop a,2,0⟩=⟨u,s.L.drop a,3,0⟩):=by show _=_;unfold fZ;simp only;rw[ae g,ae f]
  rw[f] at d;go_enter func124,ntmps124;go_wp21;refine mR h ?_;rintro r ⟨n,rfl⟩;go_wp21;refine m0 (d _) ?_;go_wp2;go_end0;exact⟨rfl,by rw[i.out];exact bN (a:=a) ((m.out.drewN n).set_st 3) o _ rfl⟩
 |false=>
  have i:Hid (fZ b ⟨u,s.L.drop a,2,0⟩=⟨u,s.L.drop (a+1),4,0⟩):=by show _=_;unfold fZ;simp only;rw[ae g,ab (by simp[f]),fQ]
  rw[f] at d;go_enter func124,ntmps124;go_wp21;refine mR h ?_;rintro r ⟨n,rfl⟩;go_wp21;refine m0 (d _) ?_;go_wp2;go_end0;exact⟨rfl,by rw[i.out];exact bN (a:=a+1) (((m.out.drewN n).set_a _).set_st 4) p _ rfl⟩
def zW (u b:Adr):Adr:={u with t:={u.t with e:=b.t.e}}
def zX (u b:Adr):Adr:={u with t:={u.t with e:=b.t.e,d:=b.t.d}}
def zY (u b:Adr):Adr:={u with t:={u.t with e:=b.t.e,d:=b.t.d,has:=b.t.has}}
def zZ (u b:Adr):Adr:={u with t:={u.t with e:=b.t.e,d:=b.t.d,has:=b.t.has,h:=b.t.h}}
theorem Mx {B R k j c:Nat} {H:Value} {s:ByteArray} {w0:World} {u b:Adr} {i:Value} (a:Nat) {w:World} (f:Mem B R k j (.pointer (some ⟨c,0,none⟩)) s w0 u i (a:Nat) 2 0 w) (q:UBase B w0 b c H) (P:a<=s.size) (t:ax (ak u.s) (s.data.toList.drop a)=false):Calls prog 124 #[.pointer (some ⟨k,0,none⟩)] w fun e w'=>e=.returned (.tuple #[])/\bl B R k j (.pointer (some ⟨c,0,none⟩)) s w0 (fZ b ⟨u,s.data.toList.drop a,2,0⟩) w':=by
 have r:Hid _:=gH a f (by omega);have p:Hid (∀W,Below B w0 W->W.heap[c]?=some (.cells (bD b H) 116 (0,0))):=fun W h=>(h.block c q.lt).trans q.U;have y1:=f.y1;have y4:=f.y4;have a1:j≠k:=fun e=>f.ne e.symm;have O:c≠j:=by have:=q.lt;have:=f.bj;omega
 have a2:c≠k:=by have:=q.lt;have:=f.bk;omega
 have a0:j≠c:=fun e=>O e.symm;have N:=hI f;have HE:Hid (fZ b ⟨u,s.data.toList.drop a,2,0⟩=⟨{u with t:=b.t},s.data.toList.drop a,6,0⟩):=by show _=_;unfold fZ;simp only;rw[ab (by simp[t])]
 rw[t] at r;clear f q t;go_enter func124,ntmps124;go_wp2_with fail;refine mR r ?_;rintro w1 ⟨n,rfl⟩;go_wp2;go_name_world W0 hW0;have m:Mem B R k j (Pt c) s w0 u i (a:Nat) 2 0 W0:=by rw[<-hW0];exact N.out.drewN n
 clear hW0 y1 y4 r N;have I:Hid _:=m;have L:=p W0 m.below;have z0:=m.y0;have U:Ce W0 c 1 (Sv b.t.e):=aa L 1;have v:∃x,Ce W0 j 1 x:=⟨_,aa m.U 1⟩;obtain⟨x0,v⟩:=v;have Y:=m.g 1;clear m L;go_region_held3 (fun w'=>w'.cell? ⟨k,0,none⟩=some (.pointer (some ⟨j,0,none⟩))/\w'.cell? ⟨c,1,none⟩=some (.string ⟨b.t.e.toArray⟩)) (go_keep) (fail)
 go_wp2;go_name_world W1 hW1;have l:Mem B R k j (Pt c) s w0 (zW u b) i (a:Nat) 2 0 W1:=by rw[<-hW1];exact I.out.drew.uset (u':=zW u b) 1 _ rfl rfl
 clear hW1 z0 U v Y I;have J:Hid _:=l;have F:=p W1 l.below;have T:=l.y0;have V:Ce W1 c 2 (Sv b.t.d):=aa F 2;have y:∃x,Ce W1 j 2 x:=⟨_,aa l.U 2⟩;obtain⟨x1,y⟩:=y;have X:=l.g 2;clear l F;go_region_held3 (fun w'=>w'.cell? ⟨k,0,none⟩=some (.pointer (some ⟨j,0,none⟩))/\w'.cell? ⟨c,2,none⟩=some (.string ⟨b.t.d.toArray⟩)) (go_keep) (fail)
 go_wp2;go_name_world W2 hW2;have o:Mem B R k j (Pt c) s w0 (zX u b) i (a:Nat) 2 0 W2:=by rw[<-hW2];exact J.out.drew.uset (u':=zX u b) 2 _ rfl rfl
 clear hW2 T V y X J;have K:Hid _:=o;have E:=p W2 o.below;have S:=o.y0;have b2:Ce W2 c 3 (.bool b.t.has):=aa E 3;have z:∃x,Ce W2 j 3 x:=⟨_,aa o.U 3⟩;obtain⟨x2,z⟩:=z;have d2:=o.g 3;clear o E;go_region_held3 (fun w'=>w'.cell? ⟨k,0,none⟩=some (.pointer (some ⟨j,0,none⟩))/\w'.cell? ⟨c,3,none⟩=some (.bool b.t.has)) (go_keep) (fail)
 go_wp2;go_name_world W3 hW3;have g:Mem B R k j (Pt c) s w0 (zY u b) i (a:Nat) 2 0 W3:=by rw[<-hW3];exact K.out.drew.uset (u':=zY u b) 3 _ rfl rfl
 clear hW3 S b2 z d2 K;have C:Hid _:=g;have M:=p W3 g.below;have Q:=g.y0;have b3:Ce W3 c 4 (Sv b.t.h):=aa M 4;have A:∃x,Ce W3 j 4 x:=⟨_,aa g.U 4⟩;obtain⟨x3,A⟩:=A;have d3:=g.g 4;clear g M;go_region_held3 (fun w'=>w'.cell? ⟨k,0,none⟩=some (.pointer (some ⟨j,0,none⟩))/\w'.cell? ⟨c,4,none⟩=some (.string ⟨b.t.h.toArray⟩)) (go_keep) (fail)
 go_wp2;go_name_world W4 hW4;have d:Mem B R k j (Pt c) s w0 (zZ u b) i (a:Nat) 2 0 W4:=by rw[<-hW4];exact C.out.drew.uset (u':=zZ u b) 4 _ rfl rfl
 clear hW4 Q b3 A d3 C;have Z:Hid _:=d;have G:=p W4 d.below;have z4:=d.y0;have b4:Ce W4 c 5 (Iv b.t.p):=aa G 5;have D:∃x,Ce W4 j 5 x:=⟨_,aa d.U 5⟩;obtain⟨x4,D⟩:=D;have d4:=d.g 5;have y4:=d.y4;have f4:=d.f 4;clear d G;go_region_held3 (fun w'=>w'.cell? ⟨k,0,none⟩=some (.pointer (some ⟨j,0,none⟩))/\w'.cell? ⟨c,5,none⟩=some (.int .i64 b.t.p)) (go_keep) (fail)
 go_wp2;go_end0;exact⟨rfl,by rw[HE.out];exact bN (a:=a) ((Z.out.drew.uset (u':={u with t:=b.t}) 5 _ rfl rfl).set_st 6) P _ rfl⟩
theorem My {B R k j c:Nat} {m:Value} {s:ByteArray} {w0:World} {u b:Adr} {i:Value} (a:Nat) {w:World} (g:Mem B R k j (.pointer (some ⟨c,0,none⟩)) s w0 u i (a:Nat) 2 0 w) (h:UBase B w0 b c m) (d:a<=s.size) (l:s.size<=1000000):Calls prog 124 #[.pointer (some ⟨k,0,none⟩)] w λe w'=>e=.returned (.tuple #[])/\bl B R k j (.pointer (some ⟨c,0,none⟩)) s w0 (fZ b ⟨u,s.data.toList.drop a,2,0⟩) w':=by
 cases f:ax (ak u.s) (s.L.drop a) with
 |true=>exact Mp a g d l f
 |false=>exact Mx a g h d f
theorem Mq (k:Nat) (w:World) (Q:World->Prop) (d:Ce w k 4 (.int .i64 14)) (a:CQ 175 #[.pointer (some ⟨k,0,none⟩)] w (.tuple #[]) Q):Calls prog 124 #[.pointer (some ⟨k,0,none⟩)] w fun e w'=>e=.returned (.tuple #[])/\Q w':=by have c:Hid _:=a;clear a;go_enter func124,ntmps124;go_wp21;refine mH c fun f b=>?_;go_wp2;go_end0;exact⟨rfl,b⟩
theorem Mr (k:Nat) (w:World) (Q:World->Prop) (d:Ce w k 4 (.int .i64 1)) (a:CQ 177 #[.pointer (some ⟨k,0,none⟩)] w (.tuple #[]) Q):Calls prog 124 #[.pointer (some ⟨k,0,none⟩)] w fun e w'=>e=.returned (.tuple #[])/\Q w':=by have c:Hid _:=a;clear a;go_enter func124,ntmps124;go_wp21;refine mH c fun f b=>?_;go_wp2;go_end0;exact⟨rfl,b⟩
theorem Ms (k:Nat) (w:World) (Q:World->Prop) (d:Ce w k 4 (.int .i64 4)) (a:CQ 179 #[.pointer (some ⟨k,0,none⟩)] w (.tuple #[]) Q):Calls prog 124 #[.pointer (some ⟨k,0,none⟩)] w fun e w'=>e=.returned (.tuple #[])/\Q w':=by have c:Hid _:=a;clear a;go_enter func124,ntmps124;go_wp21;refine mH c fun f b=>?_;go_wp2;go_end0;exact⟨rfl,b⟩
theorem zU (k:Nat) (w:World) (Q:World->Prop) (d:Ce w k 4 (.int .i64 5)) (a:CQ 180 #[.pointer (some ⟨k,0,none⟩)] w (.tuple #[]) Q):Calls prog 124 #[.pointer (some ⟨k,0,none⟩)] w fun e w'=>e=.returned (.tuple #[])/\Q w':=by have c:Hid _:=a;clear a;go_enter func124,ntmps124;go_wp21;refine mH c fun f b=>?_;go_wp2;go_end0;exact⟨rfl,b⟩
theorem zV (k:Nat) (w:World) (Q:World->Prop) (d:Ce w k 4 (.int .i64 6)) (a:CQ 181 #[.pointer (some ⟨k,0,none⟩)] w (.tuple #[]) Q):Calls prog 124 #[.pointer (some ⟨k,0,none⟩)] w fun e w'=>e=.returned (.tuple #[])/\Q w':=by have c:Hid _:=a;clear a;go_enter func124,ntmps124;go_wp21;refine mH c fun f b=>?_;go_wp2;go_end0;exact⟨rfl,b⟩
theorem Mt (k:Nat) (w:World) (Q:World->Prop) (d:Ce w k 4 (.int .i64 7)) (a:CQ 182 #[.pointer (some ⟨k,0,none⟩)] w (.tuple #[]) Q):Calls prog 124 #[.pointer (some ⟨k,0,none⟩)] w fun e w'=>e=.returned (.tuple #[])/\Q w':=by have c:Hid _:=a;clear a;go_enter func124,ntmps124;go_wp21;refine mH c fun f b=>?_;go_wp2;go_end0;exact⟨rfl,b⟩
theorem Mu (k:Nat) (w:World) (Q:World->Prop) (d:Ce w k 4 (.int .i64 8)) (a:CQ 183 #[.pointer (some ⟨k,0,none⟩)] w (.tuple #[]) Q):Calls prog 124 #[.pointer (some ⟨k,0,none⟩)] w fun e w'=>e=.returned (.tuple #[])/\Q w':=by have c:Hid _:=a;clear a;go_enter func124,ntmps124;go_wp21;refine mH c fun f b=>?_;go_wp2;go_end0;exact⟨rfl,b⟩
theorem Mv (k:Nat) (w:World) (Q:World->Prop) (d:Ce w k 4 (.int .i64 9)) (a:CQ 183 #[.pointer (some ⟨k,0,none⟩)] w (.tuple #[]) Q):Calls prog 124 #[.pointer (some ⟨k,0,none⟩)] w fun e w'=>e=.returned (.tuple #[])/\Q w':=by have c:Hid _:=a;clear a;go_enter func124,ntmps124;go_wp21;refine mH c fun f b=>?_;go_wp2;go_end0;exact⟨rfl,b⟩
theorem Mw (k:Nat) (w:World) (Q:World->Prop) (d:Ce w k 4 (.int .i64 10)) (a:CQ 183 #[.pointer (some ⟨k,0,none⟩)] w (.tuple #[]) Q):Calls prog 124 #[.pointer (some ⟨k,0,none⟩)] w fun e w'=>e=.returned (.tuple #[])/\Q w':=by have c:Hid _:=a;clear a;go_enter func124,ntmps124;go_wp21;refine mH c fun f b=>?_;go_wp2;go_end0;exact⟨rfl,b⟩
theorem MJ (b:Adr):gV (some b)=b.w.g.length:=rfl
theorem MK {B R k j:Nat} {n:Value} {s:ByteArray} {w0:World} {base:Option Adr} {K:Nat} (t:iY B w0 n base) (S:∀b,base=some b->ao b.s=true->b.w.o=false) (U:s.size<=2000) (Y:K<=500000) (J:∀(u:Adr) o (a:Nat) w,Mem B R k j n s w0 u o (a:Nat) 4 0 w->a<=s.size->u.t.e=[]->u.t.d=[]->CQ 179 #[.pointer (some ⟨k,0,none⟩)] w (.tuple #[]) (iD B R k j n s w0 (gB hostTell ⟨u,s.data.toList.drop a,4,0⟩))) (P:∀(u:Adr) o (a:Nat) w,Mem B R k j n s w0 u o (a:Nat) 9 0 w->a<=s.size->u.w.o=false->u.w.g.length<=1000000->CQ 183 #[.pointer (some ⟨k,0,none⟩)] w (.tuple #[]) (bl B R k j n s w0 (dJ base ⟨u,s.data.toList.drop a,9,0⟩))) (c:Mc) (w:World) (O:bl B R k j n s w0 c w) (p:Inv base K c) (Q:iG c) (H:c.st≠13) (A:c.err=0):Calls prog 124 #[.pointer (some ⟨k,0,none⟩)] w λe w'=>e=.returned (.tuple #[])/\iD B R k j n s w0 (ap hostTell base c) w':=by
 obtain⟨u,r,d,W⟩:=c;have A:=A;subst A;obtain⟨o,a,g,y,T⟩:=O;have y:=y;subst y;have H:d≠13:=H;have i:a<=s.size:=by
  obtain h|h:=T
  .exact h
  .omega
 have g:=g;have F:=p.known;have F:1<=d/\d<=15:=F;have x:d≠11->d≠12->d≠13->u.w.o=false:=p.w;have C:u.w.g.length+(s.data.toList.drop a).length+ig base d<=K:=p.light;have D:u.w.g.length<=1000000:=by omega
 have m:∀{f:Nat} {v:Mc},v.err=0->(Calls prog f #[Pt k] w λe w'=>e=.returned (.tuple #[])/\bl B R k j n s w0 v w')->Calls prog f #[Pt k] w λe w'=>e=.returned (.tuple #[])/\iD B R k j n s w0 v w':=by intro f v L q;refine q.mono ?_;rintro e w' ⟨N,l⟩;exact⟨N,iZ l L⟩
 have l:=g.y4;by_cases e:d=14
 .subst e
  rw[show ap hostTell base ⟨u,s.data.toList.drop a,14,0⟩=gi base ⟨u,s.data.toList.drop a,14,0⟩ from by simp[ap]];exact Mq k w _ l (Le a 14 g t i (by omega))
 by_cases e:d=15
 .subst e
  rw[show ap hostTell base ⟨u,s.data.toList.drop a,15,0⟩=gj ⟨u,s.data.toList.drop a,15,0⟩ from by simp[ap]];exact m (by grind[gj]) (Ml a g i (by omega))
 by_cases e:d=3
 .subst e
  rw[show ap hostTell base ⟨u,s.data.toList.drop a,3,0⟩=jt ⟨u,s.data.toList.drop a,3,0⟩ from by simp[ap]];exact m rfl (Mn a g i (by omega))
 by_cases e:d=4
 .subst e
  rw[show ap hostTell base ⟨u,s.data.toList.drop a,4,0⟩=gB hostTell ⟨u,s.data.toList.drop a,4,0⟩ from by simp[ap]];have:=p.early (by simp);exact Ms k w _ l (J u o a w g i this.1 this.2)
 by_cases e:d=5
 .subst e
  rw[show ap hostTell base ⟨u,s.data.toList.drop a,5,0⟩=eQ ⟨u,s.data.toList.drop a,5,0⟩ from by simp[ap]];exact zU k w _ l (m (by grind[eQ,bw]) (AI a 5 g i (by omega)))
 by_cases e:d=6
 .subst e
  rw[show ap hostTell base ⟨u,s.data.toList.drop a,6,0⟩=bX ⟨u,s.data.toList.drop a,6,0⟩ from by simp[ap]];exact zV k w _ l (m (by grind[bX,bw]) (zI a g (x (by decide) (by decide) (by decide)) i (by omega) D))
 by_cases e:d=7
 .subst e
  rw[show ap hostTell base ⟨u,s.data.toList.drop a,7,0⟩=iA ⟨u,s.data.toList.drop a,7,0⟩ from by simp[ap]];exact Mt k w _ l (m rfl (Lr a 7 g i (by omega)))
 by_cases e:d=8
 .subst e
  rw[show ap hostTell base ⟨u,s.data.toList.drop a,8,0⟩=fq base ⟨u,s.data.toList.drop a,8,0⟩ from by simp[ap]];have z:u.w.g.length+gV base<=1000000:=by unfold ig at C;rw[ab (by decide),ab (by decide)] at C;omega
  exact Mu k w _ l (m (by grind[fq,eq,bw]) (Lv a g t S (x (by decide) (by decide) (by decide)) i (by omega) z))
 by_cases e:d=9
 .subst e
  rw[show ap hostTell base ⟨u,s.data.toList.drop a,9,0⟩=dJ base ⟨u,s.data.toList.drop a,9,0⟩ from by simp[ap]];exact Mv k w _ l (m (by grind[dJ]) (P u o a w g i (x (by decide) (by decide) (by decide)) D))
 by_cases e:d=10
 .subst e
  rw[show ap hostTell base ⟨u,s.data.toList.drop a,10,0⟩=gC hostTell ⟨u,s.data.toList.drop a,10,0⟩ from by simp[ap]];exact Mw k w _ l (LH a g t (Q (by simp)) i U)
 by_cases e:d=11
 .subst e
  rw[show ap hostTell base ⟨u,s.data.toList.drop a,11,0⟩=ju ⟨u,s.data.toList.drop a,11,0⟩ from by simp[ap]];exact m rfl (Mo a g i (by omega))
 by_cases e:d=12
 .subst e
  rw[show ap hostTell base ⟨u,s.data.toList.drop a,12,0⟩=lo ⟨u,s.data.toList.drop a,12,0⟩ from by simp[ap]];exact m rfl (Mm a g i (by omega))
 have E:d=1\/d=2:=by omega
 obtain⟨b,M,I⟩:=p.near E;subst M;obtain⟨V,X,rfl,G⟩:=t;have z:u.w.g.length+b.w.g.length<=1000000:=by have q:=C;unfold ig at q;rw[ab (by omega),ab (by omega),MJ] at q;omega
 obtain e|e:=E
 .subst e
  rw[show ap hostTell (some b) ⟨u,s.data.toList.drop a,1,0⟩=ib b ⟨u,s.data.toList.drop a,1,0⟩ from by simp[ap]];exact Mr k w _ l (m (by grind[ib,eq,bw]) (NQ a 1 g G (x (by decide) (by decide) (by decide)) I i (by omega) z))
 .subst e
  rw[show ap hostTell (some b) ⟨u,s.data.toList.drop a,2,0⟩=fZ b ⟨u,s.data.toList.drop a,2,0⟩ from by simp[ap]];exact m (by grind[fZ]) (My a g G i (by omega))
structure Tryz.UAt (w:World) (j:Nat) (u:Adr) (pv:Value):Prop where
 U:w.heap[j]?=some (.cells (bD u pv) 116 (0,0))
 g:u.w.o=false->∃sp cap,pv=.slice sp u.w.g.length cap/\∀(i:Nat) x,u.w.g[i]?=some x->∃g,sp=some ⟨g,0,none⟩/\w.cell? ⟨g,i,none⟩=some (.string ⟨x.toArray⟩)
 text:u.w.o=true->∃g cap,pv=.slice (some ⟨g,0,none⟩) 1 cap/\w.cell? ⟨g,0,none⟩=some (.string ⟨u.w.text.toArray⟩)
 far:∀g,pv.ownBlock=some g->g≠j
theorem Tryz.Mem.at {B R k j:Nat} {o:Value} {s:ByteArray} {w0 w:World} {u:Adr} {n:Value} {a q t:Int} (h:Mem B R k j o s w0 u n a q t w):UAt w j u n:=by
 refine⟨h.U,λl=>?_,λl=>?_,λg b e=>?_⟩
 .obtain⟨v,f,d,_,_,m⟩:=dF (h.owned l)
  refine⟨v,f,d,λi x D=>?_⟩;have A:i<u.w.g.length:=by
   obtain c|c:=jL i u.w.g.length
   .exact c
   .grind
  obtain⟨g,b,y⟩:=m (by omega);exact⟨g,b,y i _ (by grind[aW])⟩
 .obtain⟨c,_⟩|⟨_,g,f,d,_,_,m,_⟩:=h.row
  .grind
  .grind
 .have z:=h.jr
  have c:=h.bj;obtain⟨_,r⟩|⟨_,p,f,d,_,_,_,_,C⟩:=h.row
  .have:=(r.lt g b).1
   omega
  .rw[d] at b
   have b:some p=some g:=b;injection b with b;omega
theorem Tryz.UAt.same {w w':World} {j:Nat} {u:Adr} {d:Value} (h:UAt w j u d) (e:w'.heap=w.heap):UAt w' j u d:=by
 have l:∀p:Go.Addr,w'.cell? p=w.cell? p:=λp=>iH (by rw[e]);refine⟨by rw[e];exact h.U,λc=>?_,λc=>?_,h.far⟩
 .obtain⟨f,b,a,k⟩:=h.g c
  exact⟨f,b,a,λi x m=>by grind⟩
 .obtain⟨g,b,a,k⟩:=h.text c
  exact⟨g,b,a,by grind⟩
theorem tellSegs_app (x y:List Bs):bZ (x++y)=bZ x++bZ y:=by simp[bZ]
theorem MF (l:List Bs) (i:Nat) (x:Bs) (h:l[i]?=some x):bZ (l.take (i+1))=bZ (l.take i)++(47::x):=by rw[jf,h,tellSegs_app];congr 1;show(47::x)++ []=_;rw[dl]
theorem MG (l:List Bs) (i:Nat):(bZ (l.take i)).length<=(bZ l).length:=by grind[List.take_append_drop,tellSegs_app]
theorem Ac (j:Nat) (u:Adr) (n:Value) (w:World) (b:UAt w j u n) (d:(dU u.w).length<=100000000) (B:u.w.g.length<=100000000):Calls prog 125 #[.pointer (some ⟨j,0,none⟩)] w fun e w'=>e=.returned (.string ⟨(dU u.w).toArray⟩)/\w'=w:=by
 have m:w.cell? ⟨j,6,none⟩=some (.bool u.w.o):=aa b.U 6;have F:w.cell? ⟨j,7,none⟩=some n:=aa b.U 7;cases a:u.w.o with
 |true=>obtain⟨g,r,rfl,f⟩:=b.text a;have c:Hid (dU u.w=u.w.text):=hI (by unfold dU;rw[ae a]);rw[a] at m;rw[c.out];clear b a d B c;go_enter func125,ntmps125;go_wp2;go_ret;exact⟨rfl,rfl⟩
 |false=>
  obtain⟨J,r,rfl,f⟩:=b.g a;have c:Hid (dU u.w=bZ u.w.g):=hI (by unfold dU;rw[ab (by simp[a])]);rw[a] at m;rw[c.out] at d⊢;have o:=hI f;clear b a c f;generalize u.w.g=segs at*;have D:=hI d;clear d;go_enter func125,ntmps125;go_wp2_with fail;go_loopw [3,4] (fun x y wr=>∃i:Nat,i<=segs.length/\y=Iv (i:Nat)/\x=.string ⟨(bZ (segs.take i)).toArray⟩/\wr=w) (fun _ y _=>segs.length-(intOf y).toNat)
  case atStart=>exact⟨0,aR _,rfl,rfl,rfl⟩
  case round=>
   obtain⟨i,H,rfl,rfl,v⟩:=hrel;obtain rfl:=v.symm;by_cases A:i<segs.length
   .have l:=bY A
    obtain⟨g,E,K⟩:=o i _ l;have k:=hI (MF segs i _ l);have q:(bZ (segs.take i)).length+segs[i].length+1<=100000000:=by have s:=MG segs (i+1);rw[k.out,cC,dL] at s;have:=D.out;omega
    obtain⟨t,h⟩:=am (bZ (segs.take (i+1)));have C:=hI h;have N:∀V:World,(Op.stringOp .add ⟨(bZ (segs.take i)).toArray⟩ ⟨#[47]⟩).run prog V=.ok (.string ⟨(bZ (segs.take i)++ [47]).toArray⟩) V:=fun V=>by
     rw[bm V _ _ (by grind[al])];exact aB (fun z=>Result.ok (Value.string z) V) (aP _ [47])
    have L:∀V:World,(Op.stringOp .add ⟨(bZ (segs.take i)++ [47]).toArray⟩ ⟨(segs[i]).toArray⟩).run prog V=.ok (.string ⟨t.toArray⟩) V:=fun V=>by
     rw[bm V _ _ (by grind[al]),aP,h,k];congr 3;simp
    generalize bZ (segs.take i)++ [47]=I at*;generalize bZ (segs.take i)=M at*;subst E;clear q k h l;generalize(segs[i]).toArray=G at*;go_wp2;go_roundw
    case rel=>exact⟨i+1,by omega,by go_num,by rw[C.out],trivial⟩
    case measure=>grind[intOf]
   .have p:Hid (segs.take i=segs):=cg (by omega)
    rw[p.out];clear o;go_wp2;go_ret;exact⟨rfl,rfl⟩
end Go.Proofs
namespace Go.Moor
open Go
theorem Ab (t:Bs):aS t<=t.length:=by
 unfold aS;have a:=kq 58 t;cases b:aN 58 t with
 |none=>simp
 |some p=>grind
theorem MA (t:Bs) (h:aS t≠0):Lib.toLowerA (t.take (aS t- 1))≠[]:=by
 have j:2<=aS t:=by
  unfold aS at h⊢;cases f:aN 58 t with
  |none=>grind
  |some p=>
   obtain⟨n,r⟩:=p;rw[f] at h;simp only at h⊢;by_cases d:cw n=true
   .rw[ae d]
    cases n with
    |nil=>cases d
    |cons a b=>simp
   .grind
 have i:=Ab t;intro e;have c:=aB List.length e;have g:(Lib.toLowerA (t.take (aS t- 1))).length=(t.take (aS t- 1)).length:=by unfold Lib.toLowerA;simp
 rw[g,cL] at c;have k:min (aS t- 1) t.length=0:=c;omega
theorem MB (base:Option Adr) (t:Bs) (h:aS t=0):js base (aU t).1 (aU t).2=⟨df [],t,14,0⟩:=by rw[nT,ae h];rfl
theorem MC (base:Option Adr) (t:Bs) (h:aS t≠0):js base (aU t).1 (aU t).2=⟨df (Lib.toLowerA (t.take (aS t- 1))),t.drop (aS t),dI base (Lib.toLowerA (t.take (aS t- 1))),0⟩:=by simp_all[nT,js,MA]
theorem MD (base:Option Adr) (h:∀b,base=some b->ao b.s=true->b.w.o=false) (a r:Bs) (K:Nat) (i:r.length+(2+gV base)<=K):Inv base K (js base a r)/\iG (js base a r)/\(js base a r).err=0:=by
 refine⟨?_,λ_=>rfl,rfl⟩;unfold js;by_cases e:a=[]
 .rw[ae e]
  exact mz _ (.inr (.inr (.inl rfl))) ⟨rfl,rfl⟩ rfl (by show 0+r.length+_<=K;omega)
 .rw[ab e]
  unfold dI;by_cases f:a=sFile
  .rw[ae f]
   exact kM _ (.inr (.inr (.inl rfl))) rfl (by show 0+r.length+_<=K;omega)
  .rw[ab f]
   by_cases d:ao a=true
   .rw[ae d]
    by_cases c:base.any (λb=>decide (b.s=a))=true
    .rw[ae c]
     have g:∃b,base=some b/\b.w.o=false:=by
      cases base with
      |none=>cases c
      |some b=>grind
     exact tL _ (.inl rfl) ⟨rfl,rfl⟩ rfl g (by show 0+r.length+_<=K;omega)
    .rw[ab c]
     exact mz _ (.inl rfl) ⟨rfl,rfl⟩ rfl (by show 0+r.length+_<=K;omega)
   .rw[ab d]
    exact mz _ (.inr (.inr (.inr rfl))) ⟨rfl,rfl⟩ rfl (by show 0+r.length+_<=K;omega)
end Go.Moor
namespace Go.Proofs
open Go.RowKit Go.Moor Go.Proofs.Tryz Go.Moor
theorem Tryz.Mem.base {B R k j:Nat} {q:Value} {s:ByteArray} {w0 w:World} {u:Adr} {o:Value} {a t v:Int} (h:Mem B R k j q s w0 u o a t v w):UBase w.heap.size w u j o:=by
 refine⟨h.jz,h.U,?_⟩;obtain⟨m,b⟩|⟨m,g,l,n,A,z,C,F,_⟩:=h.row
 .refine .inl ⟨m,?_,λg e=>(b.lt g e).2,?_⟩
  .obtain⟨D,l,n,_,_,y⟩:=dF b
   have f:(aW u.w.g).length=u.w.g.length:=(by unfold aW;simp);obtain c|c:=oB u.w.g.length
   .obtain⟨d,_⟩|⟨g,E,_,d,_⟩:=b.2
    .exact .inl ⟨d,c,by grind⟩
    .exact .inr ⟨_,_,d,f,λi x p=>by grind⟩
   .obtain⟨g,e,r⟩:=y c
    refine .inr ⟨(Ad g 0),l,by rw[n,e],f,λi x p=>?_⟩;have:=r i x p;rw[show((Ad g 0):Go.Addr).add i=(Ad g i) from by grind[Addr.add]];exact this
  .grind[dF]
 .grind
theorem Tryz.UBase.more {B i:Nat} {w w':World} {b:Adr} {j:Nat} {e:Value} (h:UBase B w b j e) (c:Below B w w') (d:B<=i):UBase i w' b j e:=by
 refine⟨cq h.lt d,(c.block j h.lt).trans h.U,?_⟩;obtain⟨a,t,n,k⟩|⟨a,g,o,m,s,l,q,f⟩:=h.row
 .exact .inl ⟨a,h.rowAt c a,λg r=>cq (n g r) d,k⟩
 .exact .inr ⟨a,g,o,m,s,l,(c.cell (p:=(Ad g 0)) f).trans q,cq f d⟩
theorem ML (w:World) (a:Nat) (b:Value) (s:ByteArray):Mem w.heap.size (w.heap.size+2) (w.heap.size+1) w.heap.size b s w (df []) (.slice none 0 0) 0 0 0 (((w.drewN a).alloc (.cells (bD (df []) (.slice none 0 0)) 116)).alloc (.cells (jY w.heap.size b s 0 0 0) 168)):=by
 have hz:(w.drewN a).heap.size=w.heap.size:=rfl;have f:Bl w (w.drewN a):=⟨rfl,rfl,rfl,.refl,λ_ _=>rfl⟩;have e:=cj (w.drewN a) (bD (df []) (.slice none 0 0)) 116;have c:((w.drewN a).alloc (.cells (bD (df []) (.slice none 0 0)) 116)).heap.size=w.heap.size+1:=by simp
 have d:=cj ((w.drewN a).alloc (.cells (bD (df []) (.slice none 0 0)) 116)) (jY w.heap.size b s 0 0 0) 168;rw[c] at d;rw[hz] at e;refine⟨(f.alloc .refl _).alloc (by rw[c];omega) _,d,(uD _ _ w.heap.size (by rw[c];omega)).trans e,by omega,.refl,by omega,by omega,by omega,by simp,?_⟩;exact .inl ⟨rfl,rfl,.inl ⟨rfl,rfl⟩⟩
end Go.Proofs
namespace Go.Moor
open Go
theorem LK (x y:Bs) (a:∀c∈y,c≠64):bB (x++64::y)=(x,y):=by simp_all[jn,hJ,bB]
theorem LL (t:Bs) (h:∀c∈t,c≠64):bB t=([],t):=by grind[jn,jo,bB]
theorem LM (x:Bs) (h:∀c∈x,c≠58):ay 58 x=(x,none):=by grind[ay,jo]
theorem LN (p q:Bs) (h:∀c∈p,c≠58):ay 58 (p++58::q)=(p,some q):=by grind[ay,hJ]
structure UpAt (x:Bs) (second:Bool) (us ps:Bs):Prop where
 all:(second=false/\(∀c∈x,c≠58)/\us=ah 5 x/\ps=[])\/(second=true/\∃p q,x=p++58::q/\(∀c∈p,c≠58)/\us=ah 5 p/\ps=ah 5 q)
theorem LO:UpAt [] false [] []:=⟨.inl ⟨rfl,by simp,rfl,rfl⟩⟩
theorem zP (s:Int) (x:Bs) (c:UInt8):ah s (x++ [c])=ah s x++ah s [c]:=by simp[ah]
theorem LP (x b c:Bs) (h:UpAt x false b c):UpAt (x++ [58]) true b c:=by
 obtain⟨_,a,d,e⟩|⟨a,_⟩:=h.all
 .exact⟨.inr ⟨rfl,x,[],rfl,a,d,e⟩⟩
 .cases a
theorem LQ (x f e:Bs) (c:UInt8) (j:c≠58) (h:UpAt x false f e):UpAt (x++ [c]) false (f++ah 5 [c]) e:=by
 obtain⟨_,b,g,i⟩|⟨b,_⟩:=h.all
 .refine⟨.inl ⟨rfl,λd a=>?_,by rw[zP,g],i⟩⟩
  rw[fm,kZ] at a;obtain a|a:=a
  .exact b d a
  .grind
 .cases b
theorem LR (x d b:Bs) (c:UInt8) (h:UpAt x true d b):UpAt (x++ [c]) true d (b++ah 5 [c]):=by
 obtain⟨a,_⟩|⟨_,p,q,a,e,g,f⟩:=h.all
 .cases a
 .exact⟨.inr ⟨rfl,p,q++ [c],by rw[a];simp,e,g,by rw[zP,f]⟩⟩
theorem LS (x e d:Bs) (b:Bool) (h:UpAt x b e d):e=ah 5 (ay 58 x).1/\d=ah 5 ((ay 58 x).2.getD []):=by
 obtain⟨_,f,a,c⟩|⟨_,p,q,f,a,c,g⟩:=h.all
 .rw[LM x f]
  exact⟨a,c⟩
 .grind[LN]
theorem LU (x c a:Bs) (b:Bool) (h:UpAt x b c a) (g:∀l:Bs,(ah 5 l).length<=3*l.length):c.length+a.length<=3*x.length:=by
 obtain⟨_,_,e,d⟩|⟨_,p,q,i,_,d,f⟩:=h.all
 .grind
 .grind
def qg (c:UInt8) (i:Bool):Bool:=if c=91 then true else if c=93 then false else i
def gG (y:Bs) (k:Nat) (i:Bool):Prop:=cJ false y=(cJ i (y.drop k)).map λp=>(y.take k++p.1,p.2)
theorem LV (y:Bs):gG y 0 false:=by simp[gG]
theorem qh (y:Bs) (k:Nat) (i:Bool) (h:k<y.length) (b:¬(y[k]=58/\i=false)) (a:gG y k i):gG y (k+1) (qg y[k] i):=by
 unfold gG at a⊢;rw[a,ch h,cJ,ab b,uA];show(cJ (qg y[k] i) (y.drop (k+1))).map _=_;congr 1;funext p;show(y.take k++y[k]::p.1,p.2)=(y.take (k+1)++p.1,p.2);have e:y.take (k+1)=y.take k++ [y[k]]:=by rw[jf,bY h];rfl
 rw[e,eU];rfl
theorem LW (y:Bs) (k:Nat) (h:k<y.length) (b:y[k]=58) (a:gG y k false):co y=(y.take k,some (y.drop (k+1))):=by simp_all[gG,ch,cJ,co]
theorem LX (y:Bs) (k:Nat) (i:Bool) (h:y.length<=k) (a:gG y k i):co y=(y,none):=by unfold gG at a;rw[im h] at a;unfold co;rw[a];rfl
def jx (t:Bs) (n:Nat) (x:Int):Prop:=(x= -1/\∀c∈t.take n,c≠64)\/∃p:Nat,x=(p:Int)/\p<n/\∃h:p<t.length,t[p]=64/\∀c∈(t.take n).drop (p+1),c≠64
theorem LY (t:Bs):jx t 0 (-1):=.inl ⟨rfl,by simp⟩
theorem LZ (t:Bs) (n:Nat) (h:n<t.length) (a:t[n]=64):jx t (n+1) (n:Int):=by refine .inr ⟨n,rfl,by omega,h,a,λc a=>?_⟩;rw[im (by grind)] at a;cases a
theorem Ma (t:Bs) (n:Nat) (x:Int) (h:n<t.length) (k:¬t[n]=64) (g:jx t n x):jx t (n+1) x:=by
 have e:t.take (n+1)=t.take n++ [t[n]]:=by rw[jf,bY h];rfl
 obtain⟨b,d⟩|⟨p,b,d,j,f,i⟩:=g
 .refine .inl ⟨b,λc a=>?_⟩
  rw[e,fm,kZ] at a;obtain a|a:=a
  .exact d c a
  .grind
 .refine .inr ⟨p,b,by omega,j,f,λc a=>?_⟩
  rw[e,PP (by grind),fm,kZ] at a;obtain a|a:=a
  .exact i c a
  .grind
theorem Mb (t:Bs) (x:Int) (c:x<0) (a:jx t t.length x):bB t=([],t):=by
 obtain⟨_,b⟩|⟨p,d,_⟩:=a
 .grind[LL]
 .omega
theorem Md (t:Bs) (x:Int) (g:0<=x) (f:jx t t.length x):∃p:Nat,x=(p:Int)/\p<t.length/\bB t=(t.take p,t.drop (p+1)):=by
 obtain⟨c,_⟩|⟨p,c,_,b,d,a⟩:=f
 .omega
 .refine⟨p,c,b,?_⟩
  rw[un] at a;have e:t=t.take p++64::t.drop (p+1):=by
   conv=>lhs;rw[<-la p t]
   rw[ch b,d]
  have:=LK (t.take p) (t.drop (p+1)) a;rwa[<-e] at this
theorem Me (t:Bs) (n:Nat) (h:n<t.length):t.take (n+1)=t.take n++ [t[n]]:=by simp
section
variable (H : Bs → Bool → Option Bs)
def jy (us ps y s:Bs):Except Int Auth:=
 let hp:=co y
 if hp.1=[]/\(hp.2.isSome\/ao s=true) then .error 4
 else match H hp.1 (ao s&&decide (hp.1≠[])) with
  |none=>.error 4
  |some h=>match cV (hp.2.getD []) s with
   |none=>.error 5
   |some p=>.ok ⟨us,ps,true,h,p⟩
theorem zQ (t s:Bs) (h:¬(t≠[]/\(bB t).2=[])):ia H t s=jy H (ah 5 (ay 58 (bB t).1).1) (ah 5 ((ay 58 (bB t).1).2.getD [])) (bB t).2 s:=by unfold ia jy;simp only;rw[ab h];rfl
theorem Mf (t s x y:Bs) (h:bB t=(x,y)) (b:t≠[]) (a:y=[]):ia H t s=.error 4:=by simp_all[ia]
def jA (us ps h p:Bs) (z:Int) (s:Bs):Except Int Auth:=
 if h=[]/\(0<=z\/ao s=true) then .error 4
 else match H h (ao s&&decide (h≠[])) with
  |none=>.error 4
  |some x=>match cV p s with
   |none=>.error 5
   |some q=>.ok ⟨us,ps,true,x,q⟩
theorem Mg (a b y s:Bs) (h:co y=(y,none)):jy H a b y s=jA H a b y [] (-1) s:=by simp_all[jy,jA]
theorem Mh (a b y s h p:Bs) (z:Nat) (e:co y=(h,some p)):jy H a b y s=jA H a b h p (z:Int) s:=by simp_all[jy,jA]
def kK (h:Bs) (z:Int) (s:Bs):Bool:=decide (h=[])&&(decide (0<=z)||ao s)
theorem Mi (a b h p:Bs) (z:Int) (s:Bs) (e:kK h z s=true):jA H a b h p z s=.error 4:=by simp_all[kK,jA]
theorem Mj (a b h p:Bs) (z:Int) (s:Bs) (e:kK h z s=false):jA H a b h p z s=match H h (ao s&&decide (h≠[])) with
  |none=>.error 4
  |some x=>match cV p s with
   |none=>.error 5
   |some q=>.ok ⟨a,b,true,x,q⟩:=by
 simp_all[jA,ab,kK]
end
end Go.Moor
namespace Go.Proofs
open Go.RowKit Go.Moor Go.Proofs.Tryz Go.Moor
theorem Ar (c:UInt8):refDigit c=fS c:=by simp[refDigit,fS]
def eM (l sc:Bs):Int×Int:=match cV l sc with|some p=>(p,0)|none=>(0,5)
theorem Nr (l a:Bs) (k:Nat) (h:k<l.length) (e:fS l[k]=false):eM l a=(0,5):=by
 have d:cV l a=none:=by
  unfold cV;have c:l≠[]:=by rintro rfl;simp at h
  rw[ab c];have b:l.all fS=false:=by rw[List.all_eq_false];exact⟨l[k],mW h,by simp[e]⟩
  rw[b];rfl
 unfold eM;rw[d]
theorem Ns (l a:Bs) (e:65535<cf 0 l):eM l a=(0,5):=by
 have d:cV l a=none:=by
  unfold cV;have c:l≠[]:=by rintro rfl;have:cf 0 []=0:=rfl;omega
  rw[ab c];have b:decide (cf 0 l<=65535)=false:=ee (by omega);rw[b,Bool.and_false];rfl
 unfold eM;rw[d]
theorem Nt (l a:Bs) (b:∀x∈l,fS x=true) (e:cf 0 l<=65535) (c:l≠[]):eM l a=(if((cf 0 l:Nat):Int)=(cE a).1 then -1 else((cf 0 l:Nat):Int),0):=by
 have d:cV l a=if((cf 0 l:Nat):Int)=(cE a).1 then some (-1) else some ((cf 0 l:Nat):Int):=by unfold cV;rw[ab c,gI.2 b,dC e];rfl
 unfold eM;rw[d];by_cases h:((cf 0 l:Nat):Int)=(cE a).1
 .grind
 .grind
theorem As (l g:Bs) (w:World) (hs:l.length<=35184372088832):Calls prog 130 #[.string ⟨l.toArray⟩,.string ⟨g.toArray⟩] w fun e w'=>e=.returned (.tuple #[.int .i64 (eM l g).1,.int .i64 (eM l g).2])/\w'=w:=by
 have V:Hid (∀(c:UInt8) o,C0 173 #[.int .u8 c.toNat] o (.bool (fS c))):=fun c o=>by rw[<-Ar];exact nI c o
 have Q:Hid (∀o,Calls Tryz.prog 73 #[.string ⟨g.toArray⟩] o fun e w'=>e=.returned (.int .i64 (cE g).1)/\w'=o):=fun o=>qd ⟨g.toArray⟩ o;obtain⟨s,H⟩:∃s:ByteArray,s=⟨l.toArray⟩:=⟨_,rfl⟩;obtain⟨t,S⟩:∃t:ByteArray,t=⟨g.toArray⟩:=⟨_,rfl⟩;have b0:l.length=s.size:=by rw[H,al]
 have O:Hid (∀(k:Nat) (h:k<s.size) (y:k<l.length),l[k]=s[k]):=by intro k h y;subst H;rfl
 have M:Hid ((s.toList==[])=l.isEmpty):=by show _=_;rw[H,cG];cases l<;>rfl
 rw[<-S] at Q;rw[<-H,<-S];clear H S;suffices a6:∀p N:Int,Hid (eM l g=(p,N))->Calls prog 130 #[.string s,.string t] w fun e w'=>e=.returned (.tuple #[Iv p,Iv N])/\w'=w from a6 _ _ rfl
 intro p N r;go_enter func130,ntmps130;go_wp2_with fail;go_loopw [6,7] (fun n i wr=>∃k m:Nat,k<=s.size/\i=Iv (k:Nat)/\n=Iv (m:Nat)/\m<=65536/\m=jX (cf 0 (l.take k))/\(∀x∈l.take k,fS x=true)/\wr=w) (fun _ i _=>s.size-(intOf i).toNat)
 case atStart=>exact⟨0,0,aR _,rfl,rfl,by omega,rfl,by simp,rfl⟩
 case round=>
  obtain⟨k,m,hk,rfl,rfl,hm,U,W,a3⟩:=hrel;subst a3;have J:=hI U;have D:=hI W;clear U W;by_cases a4:k<s.size
  .have y:k<l.length:=by omega
   have P:=O k a4 y;have C:Hid _:=V s[k];cases B:fS s[k] with
   |false=>have A:Hid (p=0/\N=5):=(by have f:=Nr l g k y (by rw[P];exact B);rw[r.out] at f;exact⟨aB Prod.fst f,aB Prod.snd f⟩);obtain⟨q,v⟩:=A.out;subst q;subst v;rw[B] at C;clear B P O r A D J;go_wp2_with fail;refine mR (C _) fun o j=>?_;obtain rfl:=j.symm;go_wp2;go_ret2;exact⟨rfl,rfl⟩
   |true=>
    have a5:48<=s[k].toNat/\s[k].toNat<=57:=(by have:=B;unfold fS at this;rwa[fx,oD,oD] at this);obtain⟨d,E⟩:∃d:Nat,s[k].toNat=48+d:=⟨s[k].toNat- 48,by omega⟩;have a8:d<=9:=(by omega);have Y:Hid (jX (10*m+d)=jX (cf 0 (l.take (k+1)))):=(by show _=_;rw[J.out,iz l k y,Np,Nq,P,E];congr 2;omega);have a1:Hid (∀x∈l.take (k+1),fS x=true):=by
     intro x I;rw[iz l k y,fm] at I;obtain I|I:=I
     .exact D x I
     .grind
    rw[B] at C;have X:=hI E;clear B P O r D J a5 E;by_cases u:65535<10*m+d
    .have R:Hid (jX (10*m+d)=65536):=ae u
     have a9:(65535:Int)<10*(m:Int)+(d:Int):=(by omega);go_wp2_with fail;refine af (C.out _) ?_;rintro e o ⟨rfl,j⟩;have j:=j.symm;subst j;have E:=X.out;go_wp2;go_roundw
     case rel=>exact⟨k+1,65536,by omega,by go_num,rfl,by omega,by rw[<-Y.out,R.out],a1,trivial⟩
     case measure=>(simp[intOf];try omega)
    .have R:Hid (jX (10*m+d)=10*m+d):=ab u
     go_wp2_with fail;refine af (C.out _) ?_;rintro e o ⟨rfl,j⟩;have j:=j.symm;subst j;have E:=X.out;go_wp2;go_roundw
     case rel=>exact⟨k+1,10*m+d,by omega,by go_num,by go_num,by omega,by rw[<-Y.out,R.out],a1.out,trivial⟩
     case measure=>grind[intOf]
  .have K:l.take k=l:=cg (by omega)
   have z:=J;have F:=D;rw[K] at z F;clear O J D V;by_cases u:65535<cf 0 l
   .have G:m=65536:=by rw[z];exact ae u
    have f:=Ns l g u;rw[r.out] at f;have q:=aB Prod.fst f;have v:=aB Prod.snd f;subst q;subst v;subst G;clear z F f r K;go_wp2;go_ret2;exact⟨rfl,rfl⟩
   .have G:m=cf 0 l:=by rw[z];exact ab u
    have b1:¬(65535:Int)<(m:Int):=(by omega);by_cases T:l=[]
    .have f:eM l g=(-1,0):=by rw[T];rfl
     rw[r.out] at f;have q:=aB Prod.fst f;have v:=aB Prod.snd f;have a2:s.toList.isEmpty=true:=by have:=M.out;rw[T] at this;simpa using this
     subst q;subst v;clear z F f r K G u M;go_wp2;go_ret2;exact⟨rfl,rfl⟩
    .have f:=Nt l g F (by omega) T
     have a2:s.toList.isEmpty=false:=by
      have:=M.out;cases l with
      |nil=>grind
      |cons a b=>simpa using this
     rw[r.out,<-G] at f;have q:p=if(m:Int)=(cE g).1 then -1 else(m:Int):=aB Prod.fst f;have v:=aB Prod.snd f;have a0:Hid _:=Q wr;subst v;generalize(cE g).1=Z at*;clear z F f r K G u M Q;by_cases L:(m:Int)=Z
     .have A:Hid (p= -1):=hI (by rw[q,ae L])
      clear q;go_wp2_with fail;refine m0 a0 ?_;go_wp2;go_ret2;rw[A.out];exact⟨rfl,rfl⟩
     .have A:Hid (p=(m:Int)):=hI (by rw[q,ab L])
      have a7:((m:Int)==Z)=false:=(by simpa using L);clear q L;go_wp2_with fail;refine af a0.out ?_;rintro e o ⟨rfl,j⟩;have j:=j.symm;subst j;go_wp2;go_ret2;rw[A.out];exact⟨rfl,rfl⟩
end Go.Proofs
