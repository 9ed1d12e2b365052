import Derived.Test.YtkcnageeamappaaGreatDoorXARead3
import Derived.Test.YtkcnageeamappaaGreatDoorXAs3
set_option maxHeartbeats 32000000
set_option maxRecDepth 8000
set_option linter.unusedSimpArgs false
namespace Go.Proofs
open Go.RowKit Go.Moor Go.Proofs.Tryz Go.Moor
theorem vV (z:ByteArray) (n:Int) (x y:ByteArray) (t:TypeId) (v:Value) (w:World) (henv:Tryz.Env w):Calls Tryz.prog 33 #[.iface 104 (.agg #[.string z,.iface 96 (.agg #[.int .i64 n,.string x,.string y,.iface t v])])] w λe w'=>e=.returned (.int .i64 n)/\Below w.heap.size w w':=by
 have HV:Hid (Tryz.Env (w.alloc (.cells #[.int .i64 0,.string ⟨#[]⟩,.string ⟨#[]⟩,.nilIface] 96))):=henv.below ((ai _ _).alloc (aG _) _);have hgz:=henv.size;have HC:Hid (Calls Tryz.prog 56 #[.iface 104 (.agg #[.string z,.iface 96 (.agg #[.int .i64 n,.string x,.string y,.iface t v])]),.iface 98 (.pointer (some ⟨w.heap.size,0,none⟩))] (w.alloc (.cells #[.int .i64 0,.string ⟨#[]⟩,.string ⟨#[]⟩,.nilIface] 96)) λev w'=>ev=.returned (.bool true)/\w'.cell? ⟨w.heap.size,0,none⟩=some (.int .i64 n)/\Below w.heap.size (w.alloc (.cells #[.int .i64 0,.string ⟨#[]⟩,.string ⟨#[]⟩,.nilIface] 96)) w'):=
  Fh w.heap.size z n x y ⟨#[]⟩ ⟨#[]⟩ t v .nilIface 0 _ HV.out.errType (by first|(simp;done)|(simp;omega)) (by simp) (by simp) (by simp) (by simp) (by simp) (by simp) (by simp) (by simp) (by simp)
 clear henv hgz;go_enter Tryz.func33,Tryz.ntmps33;go_wp2_with(go_at_call 56;refine HC.out.mono ?_);rintro e W1 ⟨rfl,hc,hb⟩;go_wp2;go_ret;exact⟨rfl,((ai _ _).alloc (aG _) _).trans hb⟩
theorem Ec (n:Int) (v:Value) (w:World) (h:vG n v) (c:Env w):Calls prog 33 #[v] w λe w'=>e=.returned (.int .i64 n)/\Bl w w':=by
 obtain⟨x,y,b,a,rfl⟩|⟨z,x,y,b,a,rfl⟩:=h
 .exact xc n x y b a w c
 .exact vV z n x y b a w c
theorem Ed (a:Auth) (w:World) (M:a.e.length<1000000000) (N:a.d.length<1000000000) (L:a.h.length<1000000000) (C:a.p= -1\/(0<=a.p/\a.p<=65535)) (D:Env2 w):Calls prog 90 #[.agg (dP a)] w fun e w'=>e=.returned (.string ⟨(iQ a).toArray⟩)/\Bl w w':=by
 obtain⟨W,k⟩:=am (w.alloc (.cells (dP a) 71));have s:Bl w W:=by rw[k];exact(ai _ _).alloc .refl _
 have F:W.heap[w.heap.size]?=some (.cells (dP a) 71 (0,0)):=by rw[k];exact cj w _ _
 have O:W.heap.size=w.heap.size+1:=by rw[k];simp
 have B:Hid (∀b,Bl W b->Bl w b):=fun b c=>s.trans (c.mono (by omega));have o:Hid (∀b,Bl W b->CQ 150 #[.agg (dP a)] b (.string ⟨(dw a).toArray⟩) (Below W.heap.size W)):=by intro b c;refine mR (Ea a b (by omega) (by omega)) fun w' q=>?_;exact⟨rfl,c.trans (q.mono c.size)⟩
 have l:Hid (∀b,Bl W b->CQ 127 #[.agg (dP a)] b (.string ⟨(dT a).toArray⟩) (Below W.heap.size W)):=by intro b c;refine mR (vU a b (by omega) C ((D.below s).below c)) fun w' q=>?_;exact⟨rfl,c.trans (q.mono c.size)⟩
 have v:(dw a).length<=2000000010:=by
  unfold dw;split
  .simp;omega
  .grind
 have A:(dT a).length<=1000000020:=by
  unfold dT;split
  .omega
  .grind[eY,nu]
 have p:Hid (∀b,Bl W b->Ce b w.heap.size 0 (.string ⟨a.e.toArray⟩)/\Ce b w.heap.size 1 (.string ⟨a.d.toArray⟩)/\Ce b w.heap.size 2 (.bool a.has)/\Ce b w.heap.size 3 (.string ⟨a.h.toArray⟩)/\Ce b w.heap.size 4 (Iv a.p)):=by intro b c;have j:=(c.block w.heap.size (by omega)).trans F;exact⟨aa j 0,aa j 1,aa j 2,aa j 3,aa j 4⟩
 have m:Hid (iQ a=if a.has then 47::47::(dw a++dT a) else []):=rfl;have i:=hI k;obtain⟨h,g,H,f,d⟩:=a;simp only at m p i;unfold dP at o l i⊢;simp only at o l i⊢;obtain⟨Y,R,V,U,S⟩:=p W (ai _ _);clear k s F O D M N L C;cases H with
 |false=>clear o l;go_enter func90,ntmps90;go_upto_region 1 with fail;rw[<-i.out];clear i;go_wp2_with fail;go_ret;rw[m.out];exact⟨rfl,B W (ai _ _)⟩
 |true=>
  have K:Hid (((⟨#[47,47]⟩:ByteArray)++⟨(dw ⟨h,g,true,f,d⟩).toArray⟩)++⟨(dT ⟨h,g,true,f,d⟩).toArray⟩=⟨(iQ ⟨h,g,true,f,d⟩).toArray⟩):=by show _=_;have c:(⟨#[47,47]⟩:ByteArray)++⟨(dw ⟨h,g,true,f,d⟩).toArray⟩=⟨([47,47]++dw ⟨h,g,true,f,d⟩).toArray⟩:=aP [47,47] _;rw[c,aP,m.out];simp
  have y:(⟨(dw ⟨h,g,true,f,d⟩).toArray⟩:ByteArray).size=_:=al _;have x:(⟨(dT ⟨h,g,true,f,d⟩).toArray⟩:ByteArray).size=_:=al _;rw[<-y] at v;rw[<-x] at A;clear y x m;generalize(⟨(dw ⟨h,g,true,f,d⟩).toArray⟩:ByteArray)=n at*;generalize(⟨(dT ⟨h,g,true,f,d⟩).toArray⟩:ByteArray)=z at*;generalize(⟨h.toArray⟩:ByteArray)=G at*;generalize(⟨g.toArray⟩:ByteArray)=J at*;generalize(⟨f.toArray⟩:ByteArray)=I at*;generalize(⟨(iQ ⟨h,g,true,f,d⟩).toArray⟩:ByteArray)=T at*;have X:∀W:World,(Op.stringOp .add ⟨#[47,47]⟩ n).run prog W=.ok (.string (⟨#[47,47]⟩++n)) W:=fun W=>bm W _ _ (by have:(⟨#[47,47]⟩:ByteArray).size=2:=rfl;omega);have Q:∀W:World,(Op.stringOp .add (⟨#[47,47]⟩++n) z).run prog W=.ok (.string (⟨#[47,47]⟩++n++z)) W:=fun W=>bm W _ _ (by rw[qM];have:(⟨#[47,47]⟩:ByteArray).size=2:=rfl;omega);clear v A;go_enter func90,ntmps90;go_upto_region 1 with fail;rw[<-i.out];clear i;go_upto_region 3 with fail;go_region_held3 (fun w'=>w'.cell? ⟨w.heap.size,0,none⟩=some (.string G)/\w'.cell? ⟨w.heap.size,1,none⟩=some (.string J)/\w'.cell? ⟨w.heap.size,2,none⟩=some (.bool true)/\w'.cell? ⟨w.heap.size,3,none⟩=some (.string I)/\w'.cell? ⟨w.heap.size,4,none⟩=some (.int .i64 d)) (go_keep) (first|(go_at_call 150;refine af (o.out _ (by exact du rfl rfl rfl rfl)) ?_;rintro e b ⟨rfl,r⟩;obtain⟨y0,y1,y2,y3,y4⟩:=p.out b r;have E:Hid (Below W.heap.size W b):=r;clear r)|(go_at_call 127;refine af (l.out _ (by first|exact E.out|exact E.out.trans (du rfl rfl rfl rfl))) ?_;rintro e u ⟨rfl,t⟩;obtain⟨u0,u1,u2,u3,u4⟩:=p.out u t;have P:Hid (Below W.heap.size W u):=t;clear t))
  all_goals
   go_wp2_with fail;go_ret;rw[K.out];exact⟨rfl,B u P⟩
theorem Ee (segs:List Bs) (a:∀x∈segs,x.length<=1000000):(bZ segs).length<=1000001*segs.length:=by grind[vz,List.take_length]
theorem vW (a:Adr) (v:Value) (w:World) (z:bh w v a.w.g) (d:Small 1000000 1000000 a) (T:Env2 w):Calls prog 57 #[.agg (av a v)] w fun e w'=>e=.returned (.string ⟨(gf a).toArray⟩)/\Bl w w':=by
 obtain⟨W,q⟩:=am (w.alloc (.cells (av a v) 77));have p:Bl w W:=by rw[q];exact(ai _ _).alloc (aG _) _
 have a4:W.heap[w.heap.size]?=some (.cells (av a v) 77 (0,0)):=by rw[q];exact cj w _ _
 have a9:W.heap.size=w.heap.size+1:=by rw[q];simp
 have a7:Hid (∀b,Bl W b->Bl w b):=fun b c=>p.trans (c.mono (by omega));have a1:Hid (∀b,Bl W b->CQ 90 #[.agg (dP a.t)] b (.string ⟨(iQ a.t).toArray⟩) (Below W.heap.size W)):=by intro b c;refine(Ed a.t b (by have:=d.e;omega) (by have:=d.d;omega) (by have:=d.h;omega) d.p ((T.below p).below c)).mono ?_;rintro e w' ⟨rfl,j⟩;exact⟨rfl,c.trans (j.mono c.size)⟩
 have J:Hid (∀b,Bl W b->CQ 91 #[.agg (av a v)] b (.string ⟨(fT a).toArray⟩) (Below W.heap.size W)):=by intro b c;refine(CX a v b (ei (ei z p) c)).mono ?_;rintro e w' ⟨rfl,j⟩;exact⟨rfl,c.trans (j.mono c.size)⟩
 have HP:Hid (∀b,Bl W b->CQ 59 #[.agg #[.bool a.w.o,.string ⟨a.w.text.toArray⟩,v]] b (.string ⟨(dU a.w).toArray⟩) (Below W.heap.size W)):=by intro b c;refine(vA a.w v b (ei (ei z p) c) (by have:=d.count;omega) d.g).mono ?_;rintro e w' ⟨rfl,j⟩;exact⟨rfl,c.trans (j.mono c.size)⟩
 have y:Hid (∀(o:Option Bs) (m:UInt8) b,(o.getD []).length<=1000000->Bl W b->CQ 92 #[.agg #[.bool o.isSome,.string ⟨(o.getD []).toArray⟩],.string ⟨#[m]⟩] b (.string ⟨(cv m o).toArray⟩) (Below W.heap.size W)):=by intro o m b ho c;refine(DZ o m b (by omega)).mono ?_;rintro e w' ⟨rfl,j⟩;exact⟨rfl,c.trans (j.mono c.size)⟩
 have HQ:=hI fun b c=>y a.q 63 b d.q c;have HF:=hI fun b c=>y a.f 35 b d.f c;have P:(iQ a.t).length<=10000000:=by
  have c:=d.e;have U:=d.d;have h3:=d.h;have hd:(eY a.t.p).length<=10\/a.t.p= -1:=by
   rcases d.p with h|h
   .exact Or.inr h
   .exact Or.inl (nu _ (by omega))
  unfold iQ;split
  .grind[dw,dT]
  .simp
 have L:(fT a).length<=2:=by unfold fT;split<;>simp
 have G:(dU a.w).length<=1000001*1000000:=by
  unfold dU;split
  .have:=d.text
   omega
  .have c:=Ee a.w.g d.g
   have U:=d.count;exact bu c (Nat.mul_le_mul_left _ U)
 have F:∀(o:Option Bs) (m:UInt8),(o.getD []).length<=1000000->(cv m o).length<=1000001:=by
  intro o m ho;cases o with
  |none=>simp[cv]
  |some t=>grind[cv]
 have l5:=F a.q 63 d.q;have l6:=F a.f 35 d.f;have M:=d.s;have HA:Hid ((((((⟨a.s.toArray⟩:ByteArray)++⟨#[58]⟩)++⟨(iQ a.t).toArray⟩)++⟨(fT a).toArray⟩)++⟨(dU a.w).toArray⟩)++⟨(cv 63 a.q).toArray⟩++⟨(cv 35 a.f).toArray⟩=⟨(gf a).toArray⟩):=by show _=_;have c:(⟨a.s.toArray⟩:ByteArray)++⟨#[58]⟩=⟨(a.s++ [58]).toArray⟩:=aP _ [58];rw[c,aP,aP,aP,aP,aP];unfold gf;simp
 have D:=hI q;have u:Hid (∀b,Bl W b->b.heap[w.heap.size]?=some (.cells (av a v) 77 (0,0))):=fun b c=>(c.block w.heap.size (by omega)).trans a4;rw[<-al] at M P L G l5 l6;generalize(⟨(iQ a.t).toArray⟩:ByteArray)=g at*;generalize(⟨(fT a).toArray⟩:ByteArray)=i at*;generalize(⟨(dU a.w).toArray⟩:ByteArray)=l at*;generalize(⟨(cv 63 a.q).toArray⟩:ByteArray)=r at*;generalize(⟨(cv 35 a.f).toArray⟩:ByteArray)=t5 at*;generalize(⟨(gf a).toArray⟩:ByteArray)=t6 at*;unfold dP at a1;unfold av at J D u⊢;generalize(⟨a.s.toArray⟩:ByteArray)=f at*;generalize(⟨a.t.e.toArray⟩:ByteArray)=R at*;generalize(⟨a.t.d.toArray⟩:ByteArray)=X at*;generalize a.t.has=Y at*;generalize(⟨a.t.h.toArray⟩:ByteArray)=Z at*;generalize a.t.p=S at*;generalize a.w.o=x6 at*;generalize(⟨a.w.text.toArray⟩:ByteArray)=x7 at*;generalize a.q.isSome=H at*;generalize(⟨(a.q.getD []).toArray⟩:ByteArray)=V at*;generalize a.f.isSome=a2 at*;generalize(⟨(a.f.getD []).toArray⟩:ByteArray)=a3 at*;have n:Hid (∀b,Bl W b->Ce b w.heap.size 0 (.string f)/\Ce b w.heap.size 1 (.string R)/\Ce b w.heap.size 2 (.string X)/\Ce b w.heap.size 3 (.bool Y)/\Ce b w.heap.size 4 (.string Z)/\Ce b w.heap.size 5 (Iv S)/\Ce b w.heap.size 6 (.bool x6)/\Ce b w.heap.size 7 (.string x7)/\Ce b w.heap.size 8 v/\Ce b w.heap.size 9 (.bool H)/\Ce b w.heap.size 10 (.string V)/\Ce b w.heap.size 11 (.bool a2)/\Ce b w.heap.size 12 (.string a3)):=by intro b c;have k:=u b c;exact⟨aa k 0,aa k 1,aa k 2,aa k 3,aa k 4,aa k 5,aa k 6,aa k 7,aa k 8,aa k 9,aa k 10,aa k 11,aa k 12⟩
 obtain⟨d0,d1,d2,d3,d4,d5,d6,d7,d8,d9,c3,c8,b0⟩:=n W (ai _ _);have a8:(⟨#[58]⟩:ByteArray).size=1:=rfl;have g0:∀W:World,(Op.stringOp .add f ⟨#[58]⟩).run prog W=.ok (.string (f++⟨#[58]⟩)) W:=fun W=>bm W _ _ (by omega);have g1:∀W:World,(Op.stringOp .add (f++⟨#[58]⟩) g).run prog W=.ok (.string (f++⟨#[58]⟩++g)) W:=fun W=>bm W _ _ (by grind);have g2:∀W:World,(Op.stringOp .add (f++⟨#[58]⟩++g) i).run prog W=.ok (.string (f++⟨#[58]⟩++g++i)) W:=fun W=>bm W _ _ (by grind);have g3:∀W:World,(Op.stringOp .add (f++⟨#[58]⟩++g++i) l).run prog W=.ok (.string (f++⟨#[58]⟩++g++i++l)) W:=fun W=>bm W _ _ (by grind);have g4:∀W:World,(Op.stringOp .add (f++⟨#[58]⟩++g++i++l) r).run prog W=.ok (.string (f++⟨#[58]⟩++g++i++l++r)) W:=fun W=>bm W _ _ (by grind);have g5:∀W:World,(Op.stringOp .add (f++⟨#[58]⟩++g++i++l++r) t5).run prog W=.ok (.string (f++⟨#[58]⟩++g++i++l++r++t5)) W:=fun W=>bm W _ _ (by grind);clear M P L G F l5 l6 a8 y q p a4 a9 T d z u;go_enter func57,ntmps57;go_upto_region 1 with fail;rw[<-D.out];clear D;go_region_held3 (fun w'=>w'.cell? ⟨w.heap.size,0,none⟩=some (.string f)/\w'.cell? ⟨w.heap.size,1,none⟩=some (.string R)/\w'.cell? ⟨w.heap.size,2,none⟩=some (.string X)/\w'.cell? ⟨w.heap.size,3,none⟩=some (.bool Y)/\w'.cell? ⟨w.heap.size,4,none⟩=some (.string Z)/\w'.cell? ⟨w.heap.size,5,none⟩=some (.int .i64 S)/\w'.cell? ⟨w.heap.size,6,none⟩=some (.bool x6)/\w'.cell? ⟨w.heap.size,7,none⟩=some (.string x7)/\w'.cell? ⟨w.heap.size,8,none⟩=some v/\w'.cell? ⟨w.heap.size,9,none⟩=some (.bool H)/\w'.cell? ⟨w.heap.size,10,none⟩=some (.string V)/\w'.cell? ⟨w.heap.size,11,none⟩=some (.bool a2)/\w'.cell? ⟨w.heap.size,12,none⟩=some (.string a3)) (go_keep) (first|(go_at_call 90;refine af (a1.out _ (by exact du rfl rfl rfl rfl)) ?_;rintro e b ⟨rfl,E⟩;obtain⟨y0,y1,y2,y3,y4,y5,y6,y7,y8,y9,c5,c7,b8⟩:=n.out b E;have Q:Hid (Below W.heap.size W b):=E;clear E)|(go_at_call 91;refine af (J.out _ (by first|exact Q.out|exact Q.out.trans (du rfl rfl rfl rfl))) ?_;rintro e K ⟨rfl,A⟩;obtain⟨u0,u1,u2,u3,u4,u5,u6,u7,u8,u9,u10,u11,u12⟩:=n.out K A;have a0:Hid (Below W.heap.size W K):=A;clear A)|(go_at_call 59;refine af (HP.out _ (by first|exact a0.out|exact a0.out.trans (du rfl rfl rfl rfl))) ?_;rintro e O ⟨rfl,x⟩;obtain⟨v0,v1,v2,v3,v4,v5,v6,v7,v8,v9,c1,c0,c6⟩:=n.out O x;have I:Hid (Below W.heap.size W O):=x;clear x)|(go_at_call_of 92 (Value.string ⟨#[63]⟩);refine af (HQ.out _ (by first|exact I.out|exact I.out.trans (du rfl rfl rfl rfl))) ?_;rintro e N ⟨rfl,B⟩;obtain⟨p0,p1,p2,p3,p4,p5,p6,p7,p8,p9,b9,c2,b6⟩:=n.out N B;have a5:Hid (Below W.heap.size W N):=B;clear B)|(go_at_call 92;refine af (HF.out _ (by first|exact a5.out|exact a5.out.trans (du rfl rfl rfl rfl))) ?_;rintro e s ⟨rfl,C⟩;obtain⟨q0,q1,q2,q3,q4,q5,q6,q7,q8,q9,b7,c9,c4⟩:=n.out s C;have a6:Hid (Below W.heap.size W s):=C;clear C))
 all_goals
  go_wp2_with fail;go_ret;rw[HA.out];exact⟨rfl,a7 s a6⟩
def jk (o:Except Int Bs):Ending:=
 match o with
 | .error n=>.returned (.tuple #[.string ⟨#[]⟩,.int .i64 n])
 | .ok t=>.returned (.tuple #[.string ⟨t.toArray⟩,.int .i64 0])
def jl (o:Except Int Adr):Except Int Bs:=
 match o with
 | .error n=>.error n
 | .ok a=>.ok (gf a)
theorem vv (o:Except Int Adr) (d:Array Value) (v:Value) (w:World) (h:gs o (.returned (.tuple #[.agg d,v])) w) (r:∀a,o=.ok a->Small 1000000 1000000 a) (l:Env2 w):Calls prog 34 #[.agg d,v] w fun e w'=>e=jk (jl o)/\Bl w w':=by
 obtain⟨W,f⟩:=am (w.alloc (.cells d 77));have k:Bl w W:=by rw[f];exact(ai _ _).alloc .refl _
 have s:W.heap[w.heap.size]?=some (.cells d 77 (0,0)):=by rw[f];exact cj w _ _
 have H:=hI s;have D:W.heap.size=w.heap.size+1:=by rw[f];simp
 have C:Hid (∀g,Bl W g->Bl w g):=fun g c=>k.trans (c.mono (by omega));obtain⟨J,I,b,m,x⟩:=oZ h;injection b with b;injection b with b;simp at b;obtain⟨rfl,rfl⟩:=b;have G:Hid ((Tryz.prog.info? 77).map (·.size)=some d.size):=by show _=_;rw[m];exact cD
 have A:∃i,Tryz.prog.info? 77=some i/\i.size=13:=by
  have c:=cD;cases y:Tryz.prog.info? 77 with
  |none=>rw[y] at c;simp at c
  |some i=>rw[y] at c;simp at c;exact⟨i,rfl,c⟩
 cases o with
 |error n=>
  obtain⟨E,b,j⟩:=h;injection b with b;injection b with b;simp at b;obtain⟨rfl,rfl⟩:=b;have q:Hid (Calls Tryz.prog 33 #[v] W fun e w'=>e=.returned (.int .i64 n)/\Below W.heap.size W w'):=Ec n v W j (l.below k).env;have F:Hid (∃t u,v=.iface t u):=by rcases j with⟨_,_,_,_,rfl⟩|⟨_,_,_,_,_,rfl⟩<;>exact⟨_,_,rfl⟩
  clear r l k s D A x m j;obtain⟨t,u,rfl⟩:=F.out;clear F;go_enter Tryz.func34,Tryz.ntmps34;go_upto_region 1 with fail;rw[<-f];clear f;go_wp2_with fail;refine af q.out ?_;rintro e g ⟨rfl,p⟩;go_wp2_with fail;go_ret2;exact⟨rfl,C.out g p⟩
 |ok a=>
  have z:=r a rfl;obtain⟨E,b,j⟩:=h;injection b with b;injection b with b;simp at b;obtain⟨B,rfl⟩:=b;have q:Hid (Calls Tryz.prog 57 #[.agg d] W fun e w'=>e=.returned (.string ⟨(gf a).toArray⟩)/\Below W.heap.size W w'):=by rw[B];exact vW a E W (ei j k) z (l.below k)
  clear r l k s D A x m j B z;go_enter func34,ntmps34;go_upto_region 1 with fail;rw[<-f];clear f;go_wp2_with(refine cb rfl 77 _ rfl w.heap.size rfl 77 d (0,0) _ H underlying77 rfl G ?_);refine mR q fun g p=>?_;go_wp2_with fail;go_ret2;exact⟨rfl,C g p⟩
theorem vw (t b:Bs) (c:t.length<=2000) (a:b.length<=2000):iR hostTell t b=jl (eC hostTell t b):=by unfold iR jl;rw[ab (by omega)];cases eC hostTell t b<;>rfl
theorem Do (t b:Bs) (i:t.length<=2000) (g:b.length<=2000) (a:Adr) (h:eC hostTell t b=.ok a):Small 1000000 1000000 a:=by
 have f:∀{M:Nat} {x:Adr},Small 20000 M x->M<=1000000->Small 1000000 1000000 x:=λ{M x} h hm=>⟨by have:=h.s;omega,by have:=h.e;omega,by have:=h.d;omega,by have:=h.h;omega,h.p,by have:=h.text;omega,bu h.count hm,λx c=>by have:=h.g x c;omega,by have:=h.q;omega,by have:=h.f;omega⟩;unfold eC at h;split at h
 .exact f (kj t none 20000 0 a (by omega) (by simp) h) (by omega)
 .cases d:bL hostTell b none with
  |error n=>grind
  |ok x=>rw[d] at h;have c:=kj b none 20000 0 x (by omega) (by simp) d;exact f (kj t (some x) 20000 _ a (by omega) (by rintro y e;simp at e;rw[<-e];exact c) h) (by omega)
theorem Dp (t b:Bs) (w:World) (r:t.length<=maxLen) (s:b.length<=maxLen) (l:Env2 w):Calls prog 20 #[.string ⟨t.toArray⟩,.string ⟨b.toArray⟩] w fun e w'=>e=jk (iR hostTell t b)/\Bl w w':=by
 by_cases g:t.length<=2000
 .by_cases i:b.length<=2000
  .have m:Hid (∀c,Calls Tryz.prog 31 #[.string ⟨t.toArray⟩] c fun e w'=>e=.returned (.bool false)/\w'=c):=fun c=>lk _ c (by rw[al];exact g)
   have u:Hid (∀c,Calls Tryz.prog 31 #[.string ⟨b.toArray⟩] c fun e w'=>e=.returned (.bool false)/\w'=c):=fun c=>lk _ c (by rw[al];exact i);have D:=hI (DE t b w g i l);have f:=hI (vw t b g i);have F:Hid (∀j v c,Bl w c->gs (eC hostTell t b) (.returned (.tuple #[.agg j,v])) c->Calls prog 34 #[.agg j,v] c fun e w'=>e=jk (jl (eC hostTell t b))/\Bl w w'):=(by intro j v c o k;refine(vv _ j v c k (fun a h=>Do t b g i a h) (l.below o)).mono ?_;rintro e w' ⟨rfl,H⟩;exact⟨rfl,o.trans (H.mono o.size)⟩);have E:Hid (∃x y,jk (jl (eC hostTell t b))=.returned (.tuple #[x,y])):=(by cases eC hostTell t b<;>exact⟨_,_,rfl⟩);rw[f.out];generalize eC hostTell t b=I at*;generalize(⟨t.toArray⟩:ByteArray)=x at*;generalize(⟨b.toArray⟩:ByteArray)=y at*;clear r s g i l f;go_enter func20,ntmps20;go_wp2_with(first|(go_at_call_of 31 (Value.string x);refine(m.out _).mono ?_;rintro e n ⟨rfl,d⟩;have d:=d.symm;subst d)|(go_at_call_of 31 (Value.string y);refine(u.out _).mono ?_;rintro e n ⟨rfl,d⟩;have d:=d.symm;subst d));refine D.out.mono ?_;rintro e c ⟨k,A⟩;obtain⟨j,v,rfl,_,_⟩:=oZ k;have C:=hI (F j v c A k);clear k A;go_wp2_with fail;refine C.out.mono ?_;rintro e J ⟨B,G⟩;obtain⟨p,q,z⟩:=E;rw[z] at B;subst B;go_wp2_with fail;go_ret2;exact⟨z.symm,G⟩
  .have m:Hid (∀c,Calls Tryz.prog 31 #[.string ⟨t.toArray⟩] c fun e w'=>e=.returned (.bool false)/\w'=c):=fun c=>lk _ c (by rw[al];exact g)
   have u:Hid (∀c,C0 31 #[.string ⟨b.toArray⟩] c (.bool true)):=fun c=>mf _ c (by grind[al]) (by grind[al]);have f:Hid (iR hostTell t b=.error 1):=hI (by unfold iR;rw[ae (by omega)]);rw[f.out];generalize(⟨t.toArray⟩:ByteArray)=x at*;generalize(⟨b.toArray⟩:ByteArray)=y at*;clear r s g i l f;go_enter func20,ntmps20;go_wp2_with(first|(go_at_call_of 31 (Value.string x);refine(m.out _).mono ?_;rintro e n ⟨rfl,d⟩;have d:=d.symm;subst d)|(go_at_call_of 31 (Value.string y);refine(u.out _).mono ?_;rintro e n ⟨rfl,d⟩;have d:=d.symm;subst d));go_ret2;exact⟨rfl,ai _ _⟩
 .have m:Hid (∀c,C0 31 #[.string ⟨t.toArray⟩] c (.bool true)):=fun c=>mf _ c (by grind[al]) (by grind[al])
  have f:Hid (iR hostTell t b=.error 1):=hI (by unfold iR;rw[ae (by omega)]);rw[f.out];generalize(⟨t.toArray⟩:ByteArray)=x at*;generalize(⟨b.toArray⟩:ByteArray)=y at*;clear r s g l f;go_enter func20,ntmps20;go_wp2_with(go_at_call 31;refine(m _).mono ?_;rintro e n ⟨rfl,d⟩;have d:=d.symm;subst d);go_ret2;exact⟨rfl,ai _ _⟩
def IntRow (w:World) (sp:Option Go.Addr) (xs:List Int):Prop:=∀(j:Nat) x,xs[j]?=some x->∃a0:Go.Addr,sp=some a0/\a0.block<w.heap.size/\w.cell? (a0.add j)=some (.int .i64 x)
theorem IntRow.below {w w':World} {a:Option Go.Addr} {c:List Int} (h:IntRow w a c) (b:Bl w w'):IntRow w' a c:=by intro j x f;obtain⟨d,i,e,g⟩:=h j x f;refine⟨d,i,cq e b.size,?_⟩;rw[<-g];exact b.cell (p:=d.add j) (by grind[Go.Addr.add])
end Go.Proofs
namespace Go.Proofs.YtkcnageeamappaaGreatDoor
open Go.Moor Go.Proofs.Tryz Go.ChangeShapes Go.WideShapes Go.ChangeAt Go.RowKit Go.Moor
theorem Gw:prog.globalNamed "unicode/utf8.first" =some 21:=by kernel_rfl
theorem Gx:prog.globalNamed "unicode/utf8.acceptRanges" =some 22:=by kernel_rfl
theorem Gy:(prog.globals[21]?).map (·.type)=some 288:=by kernel_rfl
theorem Gz:(prog.globals[22]?).map (·.type)=some 291:=by kernel_rfl
theorem GA:prog.cellsOf 288=256:=by kernel_rfl
theorem xm:prog.cellsOf 290=2:=by kernel_rfl
theorem GB:(Rows.laid_unicode_utf8_first:DataW Unit)=Lib.firstData:=by kernel_rfl
theorem GC:(Rows.laid_unicode_utf8_acceptRanges:DataW Unit)=Lib.acceptData:=by kernel_rfl
theorem GD {w:World} (m:Lib.VarReads prog w "unicode/utf8.first" Rows.laid_unicode_utf8_first) (o:Lib.VarReads prog w "unicode/utf8.acceptRanges" Rows.laid_unicode_utf8_acceptRanges):Lib.Utf8Tabs 21 22 w:=by
 rw[GB] at m;rw[GC] at o;refine⟨λc u=>?_,λi n=>?_⟩
 .obtain⟨g,t,s,fuel,p,b,h,l,e⟩:=m
  obtain rfl:=eh (Gw.symm.trans b);obtain rfl:=eh (Gy.symm.trans h);have a:=qS underlying288 underlying5 rS GA e;have:=lH b l c;rw[this,<-jK,a];simp[Lib.firstTab,u]
 .obtain⟨g,t,s,fuel,p,b,h,l,e⟩:=o
  obtain rfl:=eh (Gx.symm.trans b);obtain rfl:=eh (Gz.symm.trans h);obtain⟨y,d,q,k,r⟩:=Lib.array_elem underlying291 e i n;simp only[fy,BP n,kd,kU] at k;subst k;rw[xm] at r;have a:=Lib.ints_of_struct underlying290 (λj f z=>by
   grind[underlying5,rS]) (by simp[xm]) r
  have x:=aB (·[0]?) a;have v:=aB (·[1]?) a;simp only[ow,ox] at x v;constructor
  .grind[World.var?_cell]
  .grind[World.var?_cell]
def kt:List (String×DataW Unit):=[("strconv.ErrRange",Rows.laid_strconv_ErrRange),("strconv.ErrSyntax",Rows.laid_strconv_ErrSyntax),("moor/address.errNoBase",Rows.laid_moor_address_errNoBase),("moor/address.errOpaqueBase",Rows.laid_moor_address_errOpaqueBase),("moor/address.errNoHost",Rows.laid_moor_address_errNoHost)]
theorem GE {W:World} (a:∀x∈gO,Lib.VarReads prog W x.1 x.2) (b:∀x∈kt,Lib.VarReads prog W x.1 x.2) (d:handlesMet prog [("errors.errorType",Rows.laid_errors_errorType)] W) (c:W.ShapedOpen prog):Env2 W:=by
 have h:Env W:=⟨Gv c,Gn (a ("moor/escape.sets",_) (by simp[gO];rfl)),Gu c,
  fV (by kernel_rfl) (by kernel_rfl) (a ("moor/host.errEmpty",_) (by simp[gO];rfl)),fV (by kernel_rfl) (by kernel_rfl) (a ("moor/host.errBracket",_) (by simp[gO];rfl)),
  fV (by kernel_rfl) (by kernel_rfl) (a ("moor/host.errCount",_) (by simp[gO];rfl)),fV (by kernel_rfl) (by kernel_rfl) (a ("moor/host.errLength",_) (by simp[gO];rfl)),
  fV (by kernel_rfl) (by kernel_rfl) (a ("moor/host.errNought",_) (by simp[gO];rfl)),fV (by kernel_rfl) (by kernel_rfl) (a ("moor/host.errTooGreat",_) (by simp[gO];rfl)),
  Gp (a ("internal/strconv.uint64pow10",_) (by simp[gO];rfl)),Gt d⟩
 exact⟨h,GJ (a ("math/bits.deBruijn64tab",_) (by simp[gO];rfl)),GD (a ("unicode/utf8.first",_) (by simp[gO];rfl)) (a ("unicode/utf8.acceptRanges",_) (by simp[gO];rfl)),
  fV (by kernel_rfl) (by kernel_rfl) (b ("moor/address.errNoBase",_) (by simp[kt];rfl)),fV (by kernel_rfl) (by kernel_rfl) (b ("moor/address.errOpaqueBase",_) (by simp[kt];rfl)),
  fV (by kernel_rfl) (by kernel_rfl) (b ("moor/address.errNoHost",_) (by simp[kt];rfl)),fV (by kernel_rfl) (by kernel_rfl) (b ("strconv.ErrSyntax",_) (by simp[kt];rfl)),fV (by kernel_rfl) (by kernel_rfl) (b ("strconv.ErrRange",_) (by simp[kt];rfl))⟩
end Go.Proofs.YtkcnageeamappaaGreatDoor
namespace Go.Moor
open Go
variable (H : Bs → Bool → Option Bs)
theorem FZ (t s:Bs) (e:Int) (h:gq H t s=.error e):e≠0:=by grind[gq]
theorem rO (s t:Bs) (e:Int) (h:cu H s t=.error e):e≠0:=by grind[cu,FZ]
theorem Ga (m:Bs) (q:Option Bs) (b:Option Adr) (e:Int) (h:ez H m q b=.error e):e≠0:=by
 unfold ez at h;split at h
 .grind
 .grind
theorem Gb (s m:Bs) (q:Option Bs) (b:Adr) (e:Int) (h:eA H s m q b=.error e):e≠0:=by grind[eA,rO]
theorem Gc (s m:Bs) (e:Int) (h:dR H s m=.error e):e≠0:=by grind[dR,rO]
theorem Gd (s m:Bs) (q:Option Bs) (b:Option Adr) (e:Int) (h:dS H s m q b=.error e):e≠0:=by
 unfold dS at h;split at h
 .grind[Ga]
 .grind[Gb,rO,Gc]
theorem xf (s m:Bs) (q f:Option Bs) (b:Option Adr) (e:Int) (h:eB H s m q f b=.error e):e≠0:=by grind[eB,Gd]
theorem Ge (c:Cuts) (b:Option Adr) (e:Int) (h:iu H c b=.error e):e≠0:=by
 unfold iu at h;split at h
 .grind[xf]
 .grind[xf]
theorem rF {t:Bs} {n:Int} (h:ny hostTell t=.error n):n≠0:=by grind[ny,bL,Ge]
end Go.Moor
namespace Go.Proofs
open Go.RowKit Go.Moor Go.Proofs.Tryz Go.Moor
structure Tryz.Env3 (w:World):Prop where
 env2:Tryz.Env2 w
 ePart:Tryz.Err 3 w
 eScheme:Tryz.Err 7 w
 eKind:Tryz.Err 8 w
 eBare:Tryz.Err 9 w
 eBeside:Tryz.Err 11 w
 eOpaq:Tryz.Err 10 w
theorem Tryz.Env3.below {w w':World} (h:Env3 w) (a:Bl w w'):Env3 w':=by have hz:=h.env2.env.size;exact⟨h.env2.below a,h.ePart.below a (by omega),h.eScheme.below a (by omega),h.eKind.below a (by omega),h.eBare.below a (by omega),h.eBeside.below a (by omega),h.eOpaq.below a (by omega)⟩
def CD (n:Int) (e:Ending):Prop:=∃(x y:ByteArray) (te:TypeId) (ve:Value),e=.returned (.iface 96 (.agg #[.int .i64 n,.string x,.string y,.iface te ve]))
theorem ni (x y:ByteArray) (b:TypeId) (a:Value) (w:World):Calls prog 105 #[.string x,.string y,.iface b a] w fun e w'=>e=.returned (.iface 96 (.agg #[.int .i64 6,.string x,.string y,.iface b a]))/\w'=w:=by go_enter func105,ntmps105;go_wp2;go_ret;exact⟨rfl,rfl⟩
theorem CF (c:UInt8) (v:Bs):Lib.trimPrefix v [c]=cX c v:=by
 cases v with
 |nil=>rfl
 |cons b l=>grind[Lib.trimPrefix,cX,Lib.hasPrefix]
theorem CG (v:Bs) (c:UInt8) (w:World):Calls prog 102 #[.string ⟨v.toArray⟩,.string ⟨#[c]⟩] w fun e w'=>e=.returned (.agg #[.bool (!v.isEmpty),.string ⟨(cX c v).toArray⟩])/\Bl w w':=by
 have h:Hid (∀W,C0 165 #[.string ⟨v.toArray⟩,.string ⟨#[c]⟩] W (.string ⟨(cX c v).toArray⟩)):=by intro W;refine mR (strings_TrimPrefix ⟨v.toArray⟩ ⟨#[c]⟩ W) fun w' i=>?_;refine⟨?_,i⟩;rw[<-CF]
 obtain⟨W,a⟩:=am (w.alloc (.cells #[.bool false,.string ⟨#[]⟩] 75));have g:Hid (Bl w W):=by show Below _ _ _;rw[a];exact(ai _ _).alloc .refl _
 have hz:W.heap[w.heap.size]?=some (.cells #[.bool false,.string ⟨#[]⟩] 75 (0,0)):=by rw[a];exact cj w _ _
 have f:=hI hz;have o:Ce W w.heap.size 0 (.bool false):=aa hz 0;have n:Ce W w.heap.size 1 (.string ⟨#[]⟩):=aa hz 1;have k:=aj hz 0;have m:=aj hz 1;have j:=ir v;generalize v.isEmpty=q at*;generalize(⟨(cX c v).toArray⟩:ByteArray)=b at*;generalize(⟨v.toArray⟩:ByteArray)=l at*;clear hz;go_enter func102,ntmps102;go_upto_region 1 with fail;rw[<-a];clear a;go_wp2_with fail;refine m0 (h _) ?_;go_wp2;have d:=aD _ w.heap.size 1 _ 75 (.string b) (aD W w.heap.size 0 _ 75 (.bool (!q)) f);refine aO (v:=.agg #[.bool (!q),.string b]) (lD rfl _ _ w.heap.size 75 _ (0,0) _ rfl d underlying75 rfl vo) rfl ⟨rfl,?_⟩;exact(g.out.setCell .refl _).setCell .refl _
end Go.Proofs
namespace Go.Proofs.YtkcnageeamappaaGreatDoor
open Go.Moor Go.Proofs.Tryz Go.ChangeShapes Go.WideShapes Go.ChangeAt Go.RowKit Go.Moor
def ku:List (String×DataW Unit):=[("moor/address.errNoPart",Rows.laid_moor_address_errNoPart),("moor/address.errNoScheme",Rows.laid_moor_address_errNoScheme),("moor/address.errOtherKind",Rows.laid_moor_address_errOtherKind),("moor/address.errBareHost",Rows.laid_moor_address_errBareHost),("moor/address.errBeside",Rows.laid_moor_address_errBeside),("moor/address.errOpaque",Rows.laid_moor_address_errOpaque)]
theorem GF {W:World} (e:∀x∈gO,Lib.VarReads prog W x.1 x.2) (d:∀x∈kt,Lib.VarReads prog W x.1 x.2) (a:∀x∈ku,Lib.VarReads prog W x.1 x.2) (b:handlesMet prog [("errors.errorType",Rows.laid_errors_errorType)] W) (c:W.ShapedOpen prog):Env3 W:=
 ⟨GE e d b c,
  fV (by kernel_rfl) (by kernel_rfl) (a ("moor/address.errNoPart",_) (by simp[ku];rfl)),fV (by kernel_rfl) (by kernel_rfl) (a ("moor/address.errNoScheme",_) (by simp[ku];rfl)),
  fV (by kernel_rfl) (by kernel_rfl) (a ("moor/address.errOtherKind",_) (by simp[ku];rfl)),fV (by kernel_rfl) (by kernel_rfl) (a ("moor/address.errBareHost",_) (by simp[ku];rfl)),
  fV (by kernel_rfl) (by kernel_rfl) (a ("moor/address.errBeside",_) (by simp[ku];rfl)),fV (by kernel_rfl) (by kernel_rfl) (a ("moor/address.errOpaque",_) (by simp[ku];rfl))⟩
end Go.Proofs.YtkcnageeamappaaGreatDoor
