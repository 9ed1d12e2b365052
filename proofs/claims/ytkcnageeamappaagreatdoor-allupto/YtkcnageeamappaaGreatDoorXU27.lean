import Derived.Test.YtkcnageeamappaaGreatDoorXU26
set_option maxHeartbeats 32000000
set_option maxRecDepth 8000
set_option linter.unusedSimpArgs false
namespace Go.Proofs
open Go.RowKit Go.Moor Go.Proofs.Tryz Go.Moor
theorem MX (w:World) {g j:Nat} (a:Array Value) (h:g≠j):(w.setRow g a).heap[j]?=w.heap[j]?:=by grind[World.setRow]
theorem MY {P:Program} {d:Region.Mode} {c:Array Oper} {Q:Exit->Act->World->Prop} {S:World->Prop} {fuel i:Nat} {f:Array Bool} {a:Act} {w:World} {o:Oper} (r:Region.ready d c f=[i]) (k:c[i]?=some o) (A:o.guard=none) (j:TypeId) (x y:Operand) (n:o.op=.store j x y) (g:Nat) (b:Array Value) (u:a.eval x=.pointer (some ⟨g,0,none⟩)) (m:a.eval y=.agg b) (t:TypeId) (e:Array Value) (v:w.heap[g]?=some (.cells e t (0,0))) (p:(P.info? j).map (·.size)=some b.size) (z:e.size=b.size) (l:b.all (·.oneCell')=true) (q:S (w.setRow g b)) (h:S (w.setRow g b)->wpAnyH P d c Q S fuel (f.setIfInBounds i true) (a.put o.dst undef) (w.setRow g b)):wpAnyH P d c Q S (fuel+1) f a w:=by refine lL r (by simp) (ld k (λK s=>?_) lM);rw[ae (by grind[Region.wanted])];exact wp_store_row j x y n g b u m t e v p z l (s.out _ _ q h)
def qj (o:Except Int Adr):Ending:=
 match o with
 | .error n=>.returned (.tuple #[.agg bi,.int .i64 n])
 | .ok u=>.returned (.tuple #[.agg (jm u),.int .i64 0])
theorem MZ (t:Bs) (w:World) (E:t.length<=maxLen):Calls prog 70 #[.string ⟨t.toArray⟩] w fun e w'=>e=qj (da t)/\Bl w w':=by
 obtain⟨W,k⟩:=am (w.alloc (.cells bi 40));have J:Bl w W:=by rw[k];exact(ai _ _).alloc .refl _
 have a9:W.heap.size=w.heap.size+1:=by rw[k];simp
 have M:W.heap[w.heap.size]?=some (.cells bi 40 (0,0)):=by rw[k];exact cj w _ _
 have HZ:Hid (∀g,Bl W g->g.heap[w.heap.size]?=some (.cells bi 40 (0,0))):=fun g f=>(f.block w.heap.size (by omega)).trans M;have a4:Hid (∀g,Bl W g->Bl w g):=fun g f=>J.trans (f.mono (by omega));have p:=hI (tG t W E);generalize(⟨t.toArray⟩:ByteArray)=tb at*;cases s:da t with
 |error n=>
  rw[s] at p;clear s E J M a9;go_enter func70,ntmps70;go_upto_region 1 with fail;unfold bi at k;rw[<-k];clear k;go_wp2_with fail;refine af p ?_;rintro e g ⟨l,rfl,hn⟩;have m:=hI (HZ g l);have L:=hI (a4 g l);have b7:(n !=0)=true:=by rw[mY];exact hn
  clear l hn;go_wp2_with(refine aY rfl 40 _ _ rfl w.heap.size bi rfl rfl 40 bi m kl rfl xg ?_);(try simp only[Exit.inBlock,Exit.then]);have q:=bQ (P:=prog) _ w.heap.size 40 40 bi (0,0) _ (iM m bi) underlying40 rfl kl;refine aO (v:=.tuple #[.agg bi,Iv n]) ?_ rfl ⟨rfl,aZ L .refl _⟩;rw[bR rfl];simp only[bi] at q;simp[asAddr,Result.andThen,q,bi]
 |ok u=>
  rw[s] at p;clear s E J M a9;go_enter func70,ntmps70;go_upto_region 1 with fail;unfold bi at k;rw[<-k];clear k;go_wp2_with fail;refine af p ?_;rintro e a ⟨l,j,pv,rfl,r,R,b2⟩;have m:=hI (HZ a l);have L:=hI (a4 a l);have b3:w.heap.size≠j:=by intro e;have f:=m;rw[e,r.U] at f;injection f with f;injection f with _ h2 _;exact absurd h2 (by decide)
  have a6:=hI (Ac j u pv a r (Ah u R) (by have:=R.count;omega));have b:=r.U;have hd:Ce a j 0 (.string ⟨u.s.toArray⟩)/\Ce a j 1 (.string ⟨u.t.e.toArray⟩)/\Ce a j 2 (.string ⟨u.t.d.toArray⟩)/\Ce a j 3 (.bool u.t.has)/\Ce a j 4 (.string ⟨u.t.h.toArray⟩)/\Ce a j 5 (Iv u.t.p)/\Ce a j 6 (.bool u.w.o)/\Ce a j 8 (.bool u.q.isSome)/\Ce a j 9 (.string ⟨(u.q.getD []).toArray⟩)/\Ce a j 10 (.bool u.f.isSome)/\Ce a j 11 (.string ⟨(u.f.getD []).toArray⟩):=⟨aa b 0,aa b 1,aa b 2,aa b 3,aa b 4,aa b 5,aa b 6,aa b 8,aa b 9,aa b 10,aa b 11⟩;clear l r R b2 b p HZ a4;obtain⟨t3,a0⟩:∃x:ByteArray,x=⟨(dU u.w).toArray⟩:=⟨_,rfl⟩;obtain⟨D,F⟩:∃x:ByteArray,x=⟨u.s.toArray⟩:=⟨_,rfl⟩;obtain⟨O,a1⟩:∃x:ByteArray,x=⟨u.t.e.toArray⟩:=⟨_,rfl⟩;obtain⟨Y,B⟩:∃x:ByteArray,x=⟨u.t.d.toArray⟩:=⟨_,rfl⟩;obtain⟨A,N⟩:∃x,x=u.t.has:=⟨_,rfl⟩;obtain⟨K,I⟩:∃x:ByteArray,x=⟨u.t.h.toArray⟩:=⟨_,rfl⟩;obtain⟨V,z⟩:∃x,x=u.t.p:=⟨_,rfl⟩;obtain⟨G,Q⟩:∃x,x=u.w.o:=⟨_,rfl⟩;obtain⟨T,C⟩:∃x,x=u.q.isSome:=⟨_,rfl⟩;obtain⟨U,a3⟩:∃x:ByteArray,x=⟨(u.q.getD []).toArray⟩:=⟨_,rfl⟩;obtain⟨Z,y⟩:∃x,x=u.f.isSome:=⟨_,rfl⟩;obtain⟨a2,X⟩:∃x:ByteArray,x=⟨(u.f.getD []).toArray⟩:=⟨_,rfl⟩;rw[<-a0] at a6;rw[<-F,<-a1,<-B,<-N,<-I,<-z,<-Q,<-C,<-a3,<-y,<-X] at hd;have b4:Hid (qj (.ok u)=.returned (.tuple #[.agg #[.string D,.string O,.string Y,.bool A,.string K,Iv V,.bool G,.string t3,.bool T,.string U,.bool Z,.string a2],Iv 0])):=by show _=_;rw[a0,F,a1,B,N,I,z,Q,C,a3,y,X];rfl
  obtain⟨c,o⟩:∃c:Array Value,c=#[.string D,.string O,.string Y,.bool A,.string K,Iv V,.bool G,.string t3,.bool T,.string U,.bool Z,.string a2]:=⟨_,rfl⟩;have a8:Hid ((prog.info? 40).map (·.size)=some c.size):=hI (by rw[o];exact kl);have b0:Hid (c.all (·.oneCell')=true):=hI (by rw[o];simp[Value.oneCell']);have b5:Hid (bi.size=c.size):=hI (by rw[o];rfl);have a7:=hI o;have d:Hid (∀i,(a.drew.setRow w.heap.size c).cell? (Ad j i)=a.cell? (Ad j i)):=fun i=>iH (MX a.drew c b3);clear o;clear a0 F a1 B N I z Q C a3 y X;obtain⟨d0,d1,d2,d3,d4,d5,d6,d8,d9,b1,b6⟩:=hd;go_wp2_with fail;refine m0 a6 ?_;go_wp2;refine wp_region_held_drew (S:=fun w'=>w'.cell? ⟨j,0,none⟩=some (.string D)/\w'.cell? ⟨j,1,none⟩=some (.string O)/\w'.cell? ⟨j,2,none⟩=some (.string Y)/\w'.cell? ⟨j,3,none⟩=some (.bool A)/\w'.cell? ⟨j,4,none⟩=some (.string K)/\w'.cell? ⟨j,5,none⟩=some (.int .i64 V)/\w'.cell? ⟨j,6,none⟩=some (.bool G)/\w'.cell? ⟨j,8,none⟩=some (.bool T)/\w'.cell? ⟨j,9,none⟩=some (.string U)/\w'.cell? ⟨j,10,none⟩=some (.bool Z)/\w'.cell? ⟨j,11,none⟩=some (.string a2)) (by kernel_rfl) (by go_keep) (fun H=>?_);refine' aM 0 47 _ rfl (by kernel_rfl) (fun _ _ _ h=>h) (by rfl) ?f (by assumption) ?k1
  case f=>(intro w hSw;(try dsimp only at hSw);go_simp;try with_reducible rfl)
  try simp only[Act.put,bF]
  refine' aM 1 46 _ rfl (by kernel_rfl) (fun _ _ _ h=>h) (by rfl) ?h2 (by assumption) ?k2
  case h2=>(intro w hSw;(try dsimp only at hSw);go_simp;try with_reducible rfl)
  try simp only[Act.put,bF]
  refine' aM 2 45 _ rfl (by kernel_rfl) (fun _ _ _ h=>h) (by rfl) ?h3 (by assumption) ?k3
  case h3=>(intro w hSw;(try dsimp only at hSw);go_simp;try with_reducible rfl)
  try simp only[Act.put,bF]
  refine' aM 3 44 _ rfl (by kernel_rfl) (fun _ _ _ h=>h) (by rfl) ?h4 (by assumption) ?k4
  case h4=>(intro w hSw;(try dsimp only at hSw);go_simp;try with_reducible rfl)
  try simp only[Act.put,bF]
  refine' aM 4 43 _ rfl (by kernel_rfl) (fun _ _ _ h=>h) (by rfl) ?h5 (by assumption) ?k5
  case h5=>(intro w hSw;(try dsimp only at hSw);go_simp;try with_reducible rfl)
  try simp only[Act.put,bF]
  refine' aM 5 42 _ rfl (by kernel_rfl) (fun _ _ _ h=>h) (by rfl) ?h6 (by assumption) ?k6
  case h6=>(intro w hSw;(try dsimp only at hSw);go_simp;try with_reducible rfl)
  try simp only[Act.put,bF]
  refine' aM 6 41 _ rfl (by kernel_rfl) (fun _ _ _ h=>h) (by rfl) ?h7 (by assumption) ?k7
  case h7=>(intro w hSw;(try dsimp only at hSw);go_simp;try with_reducible rfl)
  try simp only[Act.put,bF]
  refine' aM 7 40 _ rfl (by kernel_rfl) (fun _ _ _ h=>h) (by rfl) ?h8 (by assumption) ?k8
  case h8=>(intro w hSw;(try dsimp only at hSw);go_simp;try with_reducible rfl)
  try simp only[Act.put,bF]
  refine' aM 8 39 _ rfl (by kernel_rfl) (fun _ _ _ h=>h) (by rfl) ?h9 (by assumption) ?k9
  case h9=>(intro w hSw;(try dsimp only at hSw);go_simp;try with_reducible rfl)
  try simp only[Act.put,bF]
  refine' aM 9 38 _ rfl (by kernel_rfl) (fun _ _ _ h=>h) (by rfl) ?h10 (by assumption) ?k10
  case h10=>(intro w hSw;(try dsimp only at hSw);go_simp;try with_reducible rfl)
  try simp only[Act.put,bF]
  refine' aM 10 37 _ rfl (by kernel_rfl) (fun _ _ _ h=>h) (by rfl) ?h11 (by assumption) ?k11
  case h11=>(intro w hSw;(try dsimp only at hSw);go_simp;try with_reducible rfl)
  try simp only[Act.put,bF]
  refine' aM 11 36 _ rfl (by kernel_rfl) (fun _ _ _ h=>h) (by rfl) ?h12 (by assumption) ?k12
  case h12=>(intro w hSw;(try dsimp only at hSw);go_simp;try with_reducible rfl)
  try simp only[Act.put,bF]
  refine' aM 12 35 _ rfl (by kernel_rfl) (fun _ _ _ h=>h) (by rfl) ?h13 (by assumption) ?k13
  case h13=>(intro w hSw;(try dsimp only at hSw);go_simp;try with_reducible rfl)
  try simp only[Act.put,bF]
  refine' aM 13 34 _ rfl (by kernel_rfl) (fun _ _ _ h=>h) (by rfl) ?h14 (by assumption) ?k14
  case h14=>(intro w hSw;(try dsimp only at hSw);go_simp;try with_reducible rfl)
  try simp only[Act.put,bF]
  refine' aM 14 33 _ rfl (by kernel_rfl) (fun _ _ _ h=>h) (by rfl) ?h15 (by assumption) ?k15
  case h15=>(intro w hSw;(try dsimp only at hSw);go_simp;try with_reducible rfl)
  try simp only[Act.put,bF]
  refine' aM 15 32 _ rfl (by kernel_rfl) (fun _ _ _ h=>h) (by rfl) ?h16 (by assumption) ?k16
  case h16=>(intro w hSw;(try dsimp only at hSw);go_simp;try with_reducible rfl)
  try simp only[Act.put,bF]
  refine' aM 16 31 _ rfl (by kernel_rfl) (fun _ _ _ h=>h) (by rfl) ?h17 (by assumption) ?k17
  case h17=>(intro w hSw;(try dsimp only at hSw);go_simp;try with_reducible rfl)
  try simp only[Act.put,bF]
  refine' aM 17 30 _ rfl (by kernel_rfl) (fun _ _ _ h=>h) (by rfl) ?h18 (by assumption) ?k18
  case h18=>(intro w hSw;(try dsimp only at hSw);go_simp;try with_reducible rfl)
  try simp only[Act.put,bF]
  refine' aM 18 29 _ rfl (by kernel_rfl) (fun _ _ _ h=>h) (by rfl) ?h19 (by assumption) ?k19
  case h19=>(intro w hSw;(try dsimp only at hSw);go_simp;try with_reducible rfl)
  try simp only[Act.put,bF]
  refine' aM 19 28 _ rfl (by kernel_rfl) (fun _ _ _ h=>h) (by rfl) ?h20 (by assumption) ?k20
  case h20=>(intro w hSw;(try dsimp only at hSw);go_simp;try with_reducible rfl)
  try simp only[Act.put,bF]
  refine' aM 20 27 _ rfl (by kernel_rfl) (fun _ _ _ h=>h) (by rfl) ?h21 (by assumption) ?k21
  case h21=>(intro w hSw;(try dsimp only at hSw);go_simp;try with_reducible rfl)
  try simp only[Act.put,bF]
  refine' aM 21 26 _ rfl (by kernel_rfl) (fun _ _ _ h=>h) (by rfl) ?h22 (by assumption) ?k22
  case h22=>(intro w hSw;(try dsimp only at hSw);go_simp;try with_reducible rfl)
  try simp only[Act.put,bF]
  refine' aM 22 25 _ rfl (by kernel_rfl) (fun _ _ _ h=>h) (by rfl) ?h23 (by assumption) ?k23
  case h23=>(intro w hSw;(try dsimp only at hSw);go_simp;try with_reducible rfl)
  try simp only[Act.put,bF]
  refine' aM 23 24 _ rfl (by kernel_rfl) (fun _ _ _ h=>h) (by rfl) ?h24 (by assumption) ?k24
  case h24=>(intro w hSw;(try dsimp only at hSw);go_simp;try with_reducible rfl)
  try simp only[Act.put,bF]
  refine' aM 24 23 _ rfl (by kernel_rfl) (fun _ _ _ h=>h) (by rfl) ?h25 (by assumption) ?k25
  case h25=>(intro w hSw;(try dsimp only at hSw);go_simp;try with_reducible rfl)
  try simp only[Act.put,bF]
  refine' aM 25 22 _ rfl (by kernel_rfl) (fun _ _ _ h=>h) (by rfl) ?h26 (by assumption) ?k26
  case h26=>(intro w hSw;(try dsimp only at hSw);go_simp;try with_reducible rfl)
  try simp only[Act.put,bF]
  refine' aM 26 21 _ rfl (by kernel_rfl) (fun _ _ _ h=>h) (by rfl) ?h27 (by assumption) ?k27
  case h27=>(intro w hSw;(try dsimp only at hSw);go_simp;try with_reducible rfl)
  try simp only[Act.put,bF]
  refine' aM 27 20 _ rfl (by kernel_rfl) (fun _ _ _ h=>h) (by rfl) ?h28 (by assumption) ?k28
  case h28=>(intro w hSw;(try dsimp only at hSw);go_simp;try with_reducible rfl)
  try simp only[Act.put,bF]
  refine' aM 28 19 _ rfl (by kernel_rfl) (fun _ _ _ h=>h) (by rfl) ?h29 (by assumption) ?k29
  case h29=>(intro w hSw;(try dsimp only at hSw);go_simp;try with_reducible rfl)
  try simp only[Act.put,bF]
  refine' aM 29 18 _ rfl (by kernel_rfl) (fun _ _ _ h=>h) (by rfl) ?h30 (by assumption) ?k30
  case h30=>(intro w hSw;(try dsimp only at hSw);go_simp;try with_reducible rfl)
  try simp only[Act.put,bF]
  refine' aM 30 17 _ rfl (by kernel_rfl) (fun _ _ _ h=>h) (by rfl) ?h31 (by assumption) ?k31
  case h31=>(intro w hSw;(try dsimp only at hSw);go_simp;try with_reducible rfl)
  try simp only[Act.put,bF]
  refine' aM 31 16 _ rfl (by kernel_rfl) (fun _ _ _ h=>h) (by rfl) ?h32 (by assumption) ?k32
  case h32=>(intro w hSw;(try dsimp only at hSw);go_simp;try with_reducible rfl)
  try simp only[Act.put,bF]
  refine' aM 32 15 _ rfl (by kernel_rfl) (fun _ _ _ h=>h) (by rfl) ?h33 (by assumption) ?k33
  case h33=>(intro w hSw;(try dsimp only at hSw);go_simp;try with_reducible rfl)
  try simp only[Act.put,bF]
  refine' aM 33 14 _ rfl (by kernel_rfl) (fun _ _ _ h=>h) (by rfl) ?h34 (by assumption) ?k34
  case h34=>(intro w hSw;(try dsimp only at hSw);go_simp;try with_reducible rfl)
  try simp only[Act.put,bF]
  refine' aM 34 13 _ rfl (by kernel_rfl) (fun _ _ _ h=>h) (by rfl) ?h35 (by assumption) ?k35
  case h35=>(intro w hSw;(try dsimp only at hSw);go_simp;try with_reducible rfl)
  try simp only[Act.put,bF]
  refine' aM 35 12 _ rfl (by kernel_rfl) (fun _ _ _ h=>h) (by rfl) ?h36 (by assumption) ?k36
  case h36=>(intro w hSw;(try dsimp only at hSw);go_simp;try with_reducible rfl)
  try simp only[Act.put,bF]
  refine' aM 36 11 _ rfl (by kernel_rfl) (fun _ _ _ h=>h) (by rfl) ?h37 (by assumption) ?k37
  case h37=>(intro w hSw;(try dsimp only at hSw);go_simp;try with_reducible rfl)
  try simp only[Act.put,bF]
  refine' aM 37 10 _ rfl (by kernel_rfl) (fun _ _ _ h=>h) (by rfl) ?h38 (by assumption) ?k38
  case h38=>(intro w hSw;(try dsimp only at hSw);go_simp;try with_reducible rfl)
  try simp only[Act.put,bF]
  refine' aM 38 9 _ rfl (by kernel_rfl) (fun _ _ _ h=>h) (by rfl) ?h39 (by assumption) ?k39
  case h39=>(intro w hSw;(try dsimp only at hSw);go_simp;try with_reducible rfl)
  try simp only[Act.put,bF]
  refine' aM 39 8 _ rfl (by kernel_rfl) (fun _ _ _ h=>h) (by rfl) ?h40 (by assumption) ?k40
  case h40=>(intro w hSw;(try dsimp only at hSw);go_simp;try with_reducible rfl)
  try simp only[Act.put,bF]
  refine' aM 40 7 _ rfl (by kernel_rfl) (fun _ _ _ h=>h) (by rfl) ?h41 (by assumption) ?k41
  case h41=>(intro w hSw;(try dsimp only at hSw);go_simp;try with_reducible rfl)
  try simp only[Act.put,bF]
  refine' aM 41 6 _ rfl (by kernel_rfl) (fun _ _ _ h=>h) (by rfl) ?h42 (by assumption) ?k42
  case h42=>(intro w hSw;(try dsimp only at hSw);go_simp;try with_reducible rfl)
  try simp only[Act.put,bF]
  refine' aM 42 5 _ rfl (by kernel_rfl) (fun _ _ _ h=>h) (by rfl) ?h43 (by assumption) ?k43
  case h43=>(intro w hSw;(try dsimp only at hSw);go_simp;try with_reducible rfl)
  try simp only[Act.put,bF]
  refine' aM 43 4 _ rfl (by kernel_rfl) (fun _ _ _ h=>h) (by rfl) ?h44 (by assumption) ?k44
  case h44=>(intro w hSw;(try dsimp only at hSw);go_simp;try with_reducible rfl)
  try simp only[Act.put,bF]
  refine' aM 44 3 _ rfl (by kernel_rfl) (fun _ _ _ h=>h) (by rfl) ?h45 (by assumption) ?k45
  case h45=>(intro w hSw;(try dsimp only at hSw);go_simp;try with_reducible rfl)
  try simp only[Act.put,bF]
  refine' aM 45 2 _ rfl (by kernel_rfl) (fun _ _ _ h=>h) (by rfl) ?h46 (by assumption) ?k46
  case h46=>(intro w hSw;(try dsimp only at hSw);go_simp;try with_reducible rfl)
  try simp only[Act.put,bF]
  refine MY (i:=46) (fuel:=1) (by kernel_rfl) rfl rfl 40 (.tmp 2) (.tmp 63) rfl w.heap.size c rfl (by rw[a7.out];rfl) 40 bi m a8 b5 b0 ⟨(d 0).trans d0,(d 1).trans d1,(d 2).trans d2,(d 3).trans d3,(d 4).trans d4,(d 5).trans d5,(d 6).trans d6,(d 8).trans d8,(d 9).trans d9,(d 10).trans b1,(d 11).trans b6⟩ (fun a5=>?_);clear H;have H:=a5;clear a5;try simp only[Act.put,bF]
  refine' aM 47 0 _ rfl (by kernel_rfl) (fun _ _ _ h=>h) (by rfl) ?h47 (by assumption) ?k47
  case h47=>(intro w hSw;(try dsimp only at hSw);go_simp;try with_reducible rfl)
  try simp only[Act.put,bF]
  clear H;refine wpAnyH_done (by kernel_rfl) ?_ _;go_wp2;have q:=bQ (P:=prog) _ w.heap.size 40 40 c (0,0) _ (iM (w:=a.drew) m c) underlying40 rfl a8;refine aO (v:=.tuple #[.agg c,Iv 0]) ?_ rfl ⟨by rw[a7.out];exact b4.out.symm,aZ L.out.drew .refl _⟩;rw[bR rfl];simp[asAddr,Result.andThen,q]
end Go.Proofs
