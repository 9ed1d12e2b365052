import Derived.Test.YtkcnageeamappaaGreatDoorXU7b
set_option maxHeartbeats 32000000
set_option maxRecDepth 8000
set_option linter.unusedSimpArgs false
namespace Go.Proofs
open Go.RowKit Go.Moor Go.Proofs.Tryz Go.Moor
theorem NM (l:List Bs):∀u∈aW l,u.oneCell'=true:=by intro u a;unfold aW at a;rw[jJ] at a;obtain⟨x,_,rfl⟩:=a;rfl
theorem kR:(prog.info? 9).map (λi=>(i.zero,i.size,i.bytes))=some (some (.string ⟨#[]⟩),1,16):=by kernel_rfl
theorem NN (b:Adr) (c:Mc) (h:(bn c.r== -1)=true\/(bn c.r==35)=true):eq b c=bw {c with u:={c.u with w:=⟨false,[],c.u.w.g++b.w.g⟩,q:=b.q}}:=by
 unfold eq;rw[ae];obtain h|h:=h
 .left
  cases a:c.r with
  |nil=>rfl
  |cons x y=>rw[a,dM] at h;have:(x.toNat:Int)= -1:=h;omega
 .grind[mD]
theorem AG (r:Bs) (a:(bn r== -1)=false) (b:(bn r==35)=false):¬(r=[]\/r.head? =some 35):=by
 rintro(h|h)
 .rw[h] at a;cases a
 .simp_all[mD]
theorem NO (b:Adr) (c:Mc) (e:(bn c.r== -1)=false) (d:(bn c.r==35)=false) (a:(bn c.r==63)=true):eq b c=bw {c with u:={c.u with w:=⟨false,[],c.u.w.g++b.w.g⟩}}:=by unfold eq;rw[ab (AG c.r e d),ae ((nX c.r).2 a)]
theorem NP (b:Adr) (c:Mc) (e:(bn c.r== -1)=false) (d:(bn c.r==35)=false) (a:(bn c.r==63)=false):eq b c={c with u:={c.u with w:=⟨false,[],aI c.u.s (c.u.w.g++b.w.g)⟩},st:=6}:=by simp_all[eq,AG,nX]
theorem AH {B R k j f:Nat} {z:Value} {s:ByteArray} {w0:World} {u b:Adr} {S:Value} (a g:Nat) {d:Int} {w:World} (o:Mem B R k j (.pointer (some ⟨f,0,none⟩)) s w0 u S (a:Nat) (g:Nat) d w) (p:UBase B w0 b f z) (F:u.w.o=false) (b0:b.w.o=false) (U:a<=s.size) (hs:s.size<=35184372088832) (hn:u.w.g.length+b.w.g.length<=1000000):Calls prog 219 #[.pointer (some ⟨k,0,none⟩)] w fun e w'=>e=.returned (.tuple #[])/\bl B R k j (.pointer (some ⟨f,0,none⟩)) s w0 (eq b ⟨u,s.data.toList.drop a,g,d⟩) w':=by
 obtain⟨i0,hi,c0,b4,b5⟩:=fA kR;have a6:=(o.below.block f p.lt).trans p.U;have y0:=o.y0;have y1:=o.y1;have p7:=o.v7;have b7:Ce w f 7 z:=aa a6 7;have a1:=hI ((o.owned F).drew);have Z:=hI (p.rowAt o.below.drew b0);obtain⟨I,K,c4,_,_,_⟩:=dF (o.owned F);obtain⟨b2,a9,b6⟩:∃I K,z=.slice I b.w.g.length K:=by
  rcases p.row with⟨_,_,_,I,K,h,_⟩|⟨q,_⟩
  .grind
  .grind
 have a5:Hid (R<=w.drew.hz):=o.rz;have V:Hid (∀H N i,i.ownsRow R 9 1 (.slice H (u.w.g.length+b.w.g.length) N) (u.w.g.length+b.w.g.length) (aW u.w.g++aW b.w.g)->w.drew.grownBy i S.ownBlock->Ce i k 0 (Pt j)/\Ce i f 7 z/\Ce i j 7 S/\i.frozen? (Ad j 7)=false/\Hid (Mem B R k j (Pt f) s w0 {u with w:=⟨false,[],u.w.g++b.w.g⟩} (.slice H (u.w.g.length+b.w.g.length) N) (a:Nat) (g:Nat) d (i.setCell (Ad j 7) (.slice H (u.w.g.length+b.w.g.length) N)))):=by
  intro H N i X hg;obtain⟨f1,f2,f3⟩:=o.drew.far F hg;refine⟨aa f1 0,?_,aa f2 7,aj f2 7,o.drew.grown F hg (u.w.g++b.w.g) _ ?_⟩
  .have:=(f3.block f p.lt).trans p.U
   exact aa this 7
  .grind[kn]
 have b1:Hid (∀x∈aW b.w.g,x.oneCell'=true):=NM _;have c1:Hid (u.w.g.length+b.w.g.length<=maxLen):=by unfold maxLen;show _<=_;omega
 have a8:Hid ((u.w.g.length+b.w.g.length)*16<=140737488355328):=by show _<=_;omega
 have b3:Hid (∀i,Below B w0 i->i.heap[f]?=some (.cells (bD b z) 116 (0,0))):=fun i h=>(h.block f p.lt).trans p.U;rw[c4] at p7 a1 V;rw[b6] at b7 Z V;go_enter func219,ntmps219;go_upto_region 1 with fail;go_cut [] (fun wx=>∃G,Mem B R k j (Pt f) s w0 {u with w:=⟨false,[],u.w.g++b.w.g⟩} G (a:Nat) (g:Nat) d wx)
 case first=>
  go_region_law ((refine ka _ rfl (.tmp 17) (.tmp 21) 28 rfl R 9 i0 (Sv []) 16 underlying28 hi c0 b4 b5 rfl (.slice I u.w.g.length K) _ _ (by simp[Act.eval]) a1 (.slice b2 b.w.g.length a9) _ _ (by simp[Act.eval]) Z b1 c1 a8 a5 ?_;intro c3 c2 i a3 a2;obtain⟨z0,z1,z2,z3,z4⟩:=V c3 c2 i a3 a2;clear a3 a2));all_goals(go_wp21;go_meet)
  all_goals exact⟨_,z4.out⟩
 case rest=>
  obtain⟨G,m⟩:=hcut;have a0:Hid _:=b3 wc m.below;have z0:=m.y0;have z8:Ce wc j 8 (.bool u.q.isSome):=aa m.U 8;have z9:Ce wc j 9 (Sv (u.q.getD [])):=aa m.U 9;have x8:=m.g 8;have x9:=m.g 9;have b8:Ce wc f 8 (.bool b.q.isSome):=aa a0 8;have b9:Ce wc f 9 (Sv (b.q.getD [])):=aa a0 9;have A:Hid _:=mx k a s wc (aa m.K 2) (aa m.K 3) (by omega);have Q:Hid (∀(u2:Adr) W,Mem B R k j (Pt f) s w0 u2 G (a:Nat) (g:Nat) d W->CQ 184 #[Pt k] W (.tuple #[]) (bl B R k j (Pt f) s w0 (bw ⟨u2,s.L.drop a,g,d⟩))):=by intro u2 W T;refine(AD a T U hs).mono ?_;rintro e w' ⟨rfl,q⟩;exact⟨rfl,AF q U⟩
  have a7:Hid (∀W,Mem B R k j (Pt f) s w0 {u with w:=⟨false,[],u.w.g++b.w.g⟩} G (a:Nat) (g:Nat) d W->Calls prog 224 #[Pt k] W fun e w'=>e=.returned (.tuple #[])/\∃y,Mem B R k j (Pt f) s w0 {u with w:=⟨false,[],aI u.s (u.w.g++b.w.g)⟩} y (a:Nat) (g:Nat) d w'):=fun W T=>ly T rfl;have L:=hI m;have HE:Hid _:=NN b ⟨u,s.L.drop a,g,d⟩;have HQ:Hid _:=NO b ⟨u,s.L.drop a,g,d⟩;have HO:Hid _:=NP b ⟨u,s.L.drop a,g,d⟩;clear m;have HR:Hid (∀(c:Mc) (W:World),c.u={u with w:=⟨false,[],aI u.s (u.w.g++b.w.g)⟩}->c.r=s.L.drop a->c.st=6->c.err=d->∀y,Mem B R k j (Pt f) s w0 {u with w:=⟨false,[],aI u.s (u.w.g++b.w.g)⟩} y (a:Nat) 6 d W->bl B R k j (Pt f) s w0 c W):=by intro c W C q D h4 y X;refine⟨y,a,?_,q.symm,Or.inl U⟩;rw[C,D,h4];exact X
  obtain⟨l,E⟩:=am (bn (s.L.drop a));have J:Hid ((l== -1)=true\/(l==35)=true->eq b ⟨u,s.L.drop a,g,d⟩=bw ⟨{u with w:=⟨false,[],u.w.g++b.w.g⟩,q:=b.q},s.L.drop a,g,d⟩):=by rw[E];exact HE
  have a4:Hid ((l== -1)=false->(l==35)=false->(l==63)=true->eq b ⟨u,s.L.drop a,g,d⟩=bw ⟨{u with w:=⟨false,[],u.w.g++b.w.g⟩},s.L.drop a,g,d⟩):=by rw[E];exact HQ
  have Y:Hid ((l== -1)=false->(l==35)=false->(l==63)=false->eq b ⟨u,s.L.drop a,g,d⟩=⟨{u with w:=⟨false,[],aI u.s (u.w.g++b.w.g)⟩},s.L.drop a,6,d⟩):=by rw[E];exact HO
  rw[<-E] at A;cases C:(l== -1) with
  |true=>have t:Hid _:=J (Or.inl C);clear J;go_wp21;refine af A ?_;rintro e P ⟨rfl,n,rfl⟩;go_wp2;go_region;go_wp2;go_region;go_wp21;refine af (Q _ _ (((L.out.drewN n).drew).upd2 (u':={u with w:=⟨false,[],u.w.g++b.w.g⟩,q:=b.q}) 8 9 1 _ _ rfl rfl)) ?_;rintro e O ⟨rfl,(r:Hid _)⟩;go_wp2;exact bS (v:=.tuple #[]) (bf rfl _ _ _) rfl ⟨rfl,by rw[t.out];exact r⟩
  |false=>
   cases q:(l==35) with
   |true=>have t:Hid _:=J (Or.inr q);clear J;go_wp21;refine af A ?_;rintro e P ⟨rfl,n,rfl⟩;go_wp2;go_region;go_wp2;go_region;go_wp21;refine af (Q _ _ (((L.out.drewN n).drew).upd2 (u':={u with w:=⟨false,[],u.w.g++b.w.g⟩,q:=b.q}) 8 9 1 _ _ rfl rfl)) ?_;rintro e O ⟨rfl,(r:Hid _)⟩;go_wp2;exact bS (v:=.tuple #[]) (bf rfl _ _ _) rfl ⟨rfl,by rw[t.out];exact r⟩
   |false=>
    cases D:(l==63) with
    |true=>have t:Hid _:=a4 C q D;clear a4;go_wp21;refine af A ?_;rintro e P ⟨rfl,n,rfl⟩;go_wp21;refine af (Q _ _ (L.out.drewN n)) ?_;rintro e O ⟨rfl,(r:Hid _)⟩;go_wp2;exact bS (v:=.tuple #[]) (bf rfl _ _ _) rfl ⟨rfl,by rw[t.out];exact r⟩
    |false=>have t:Hid _:=Y C q D;clear Y;go_wp21;refine af A ?_;rintro e P ⟨rfl,n,rfl⟩;go_wp21;refine af (a7 _ (L.out.drewN n)) ?_;rintro e O ⟨rfl,y,M⟩;have r:Hid _:=M;have t4:=M.y4;have t5:=M.f 4;clear M;go_wp2;exact bS (v:=.tuple #[]) (bf rfl _ _ _) rfl ⟨rfl,by rw[t.out];exact HR _ _ rfl rfl rfl rfl _ (r.out.set_st 6)⟩
end Go.Proofs
