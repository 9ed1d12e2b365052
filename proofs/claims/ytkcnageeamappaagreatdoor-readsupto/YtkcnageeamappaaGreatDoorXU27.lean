import Derived.Test.YtkcnageeamappaaGreatDoorXU26
set_option maxHeartbeats 32000000
set_option maxRecDepth 8000
namespace Go.Proofs
open Go.RowKit Go.Moor Go.Proofs.Tryz
theorem zix (w:World) {g j:Nat} (cs:Array Value) (h:g≠j):(w.setRow g cs).heap[j]?=w.heap[j]?:=by unfold World.setRow;simp[Array.getElem?_modify,h]
theorem zbm {P:Program} {md:Region.Mode} {ops:Array Oper} {Q:Exit→Act→World→Prop} {S:World→Prop} {fuel i:Nat} {listed:Array Bool} {a:Act} {w:World} {o:Oper} (hr:Region.ready md ops listed=[i]) (ho:ops[i]?=some o) (hgd:o.guard=none) (ty:TypeId) (x y:Operand) (hop:o.op=.store ty x y) (g:Nat) (cells:Array Value) (hx:a.eval x=.pointer (some ⟨g,0,none⟩)) (hy:a.eval y=.agg cells) (t:TypeId) (old:Array Value) (hg:w.heap[g]?=some (.cells old t (0,0))) (hi:(P.info? ty).map (·.size)=some cells.size) (hold:old.size=cells.size) (h1:cells.all (·.oneCell')=true) (hS:S (w.setRow g cells)) (h:S (w.setRow g cells)→wpAnyH P md ops Q S fuel (listed.setIfInBounds i true) (a.put o.dst undef) (w.setRow g cells)):wpAnyH P md ops Q S (fuel+1) listed a w:=by refine wpAnyH_ready hr (by simp) (AllReadyH.cons ho (fun K hK=>?_) AllReadyH.nil);rw[if_pos (by simp[Region.wanted,hgd])];exact wp_store_row ty x y hop g cells hx hy t old hg hi hold h1 (hK.out _ _ hS h)
def z8J (o:Except Int Adr):Ending:=
 match o with
 | .error n=>.returned (.tuple #[.agg z0p,.int .i64 n])
 | .ok u=>.returned (.tuple #[.agg (z3D u),.int .i64 0])
set_option linter.unusedSimpArgs false in
theorem zmm (t:Bs) (w:World) (ht:t.length≤maxLen):CE 70 #[.string ⟨t.toArray⟩] w (z8J (z2T t)):=by
 obtain⟨W,hW⟩:=z09 (w.alloc (.cells z0p 40));have hBW:Below w.heap.size w W:=by rw[hW];exact(Below.refl _ _).alloc (Nat.le_refl _) _
 have HBW:=hI hBW;have hsize:W.heap.size=w.heap.size+1:=by rw[hW];simp
 have hz0:W.heap[w.heap.size]?=some (.cells z0p 40 (0,0)):=by rw[hW];exact z0K w _ _
 have HZ:Hid (∀w1,Below W.heap.size W w1→w1.heap[w.heap.size]?=some (.cells z0p 40 (0,0))):=fun w1 h1=>(h1.block w.heap.size (by omega)).trans hz0;have HBX:Hid (∀w1,Below W.heap.size W w1→Below w.heap.size w w1):=fun w1 h1=>hBW.trans (h1.mono (by omega));have HA:Hid _:=zml t W ht;generalize(⟨t.toArray⟩:ByteArray)=tb at*;cases hr:z2T t with
 |error n=>
  rw[hr] at HA;clear hr ht hBW hz0 hsize;go_enter func70,ntmps70;go_upto_region 1 with fail;unfold z0p at hW;rw[←hW];clear hW;go_wp2_with fail;refine Calls.mono HA ?_;rintro e w1 ⟨hb1,rfl,hn⟩;have HZ1:Hid _:=HZ w1 hb1;have HB1:Hid _:=HBX w1 hb1;have hn2:(n !=0)=true:=by rw[bne_iff_ne];exact hn
  clear hb1 hn;go_wp2_with(refine wpList_store_row rfl 40 _ _ rfl w.heap.size z0p rfl rfl 40 z0p HZ1 zmz rfl z8S ?_);(try simp only[Exit.inBlock,Exit.then]);have hld:=run_loadVar_row (P:=prog) _ w.heap.size 40 40 z0p (0,0) _ (z3a HZ1 z0p) underlying40 rfl zmz;refine bodyPost_ret (v:=.tuple #[.agg z0p,.int .i64 n]) ?_ rfl ⟨rfl,below_setRow HB1 (Nat.le_refl _) _⟩;rw[results_cell_tmp rfl];simp only[z0p] at hld;simp[asAddr,Result.andThen,hld,z0p]
 |ok u=>
  rw[hr] at HA;clear hr ht hBW hz0 hsize;go_enter func70,ntmps70;go_upto_region 1 with fail;unfold z0p at hW;rw[←hW];clear hW;go_wp2_with fail;refine Calls.mono HA ?_;rintro e w2 ⟨hb1,j,pv,rfl,hat,hsm,hgd⟩;have HZ1:Hid _:=HZ w2 hb1;have HB1:Hid _:=HBX w2 hb1;have hne:w.heap.size≠j:=by intro e;have h1:=HZ1;rw[e,hat.url] at h1;injection h1 with h1;injection h1 with _ h2 _;exact absurd h2 (by decide)
  have hne2:j≠w.heap.size:=fun e=>hne e.symm;have HPT:Hid _:=zk4 j u pv w2 hat (zce u hsm) (by have:=hsm.count;omega);have hu:=hat.url;have hd:w2.cell? ⟨j,0,none⟩=some (.string ⟨u.scheme.toArray⟩)∧w2.cell? ⟨j,1,none⟩=some (.string ⟨u.auth.user.toArray⟩)∧w2.cell? ⟨j,2,none⟩=some (.string ⟨u.auth.pass.toArray⟩)∧w2.cell? ⟨j,3,none⟩=some (.bool u.auth.has)∧w2.cell? ⟨j,4,none⟩=some (.string ⟨u.auth.host.toArray⟩)∧w2.cell? ⟨j,5,none⟩=some (.int .i64 u.auth.port)∧w2.cell? ⟨j,6,none⟩=some (.bool u.way.opaq)∧w2.cell? ⟨j,8,none⟩=some (.bool u.query.isSome)∧w2.cell? ⟨j,9,none⟩=some (.string ⟨(u.query.getD []).toArray⟩)∧w2.cell? ⟨j,10,none⟩=some (.bool u.frag.isSome)∧w2.cell? ⟨j,11,none⟩=some (.string ⟨(u.frag.getD []).toArray⟩):=⟨z00 hu 0,z00 hu 1,z00 hu 2,z00 hu 3,z00 hu 4,z00 hu 5,z00 hu 6,z00 hu 8,z00 hu 9,z00 hu 10,z00 hu 11⟩;clear hb1 hat hsm hgd hu HA HZ HBX;obtain⟨t3,ht3⟩:∃x:ByteArray,x=⟨(z1X u.way).toArray⟩:=⟨_,rfl⟩;obtain⟨x0,hx0⟩:∃x:ByteArray,x=⟨u.scheme.toArray⟩:=⟨_,rfl⟩;obtain⟨x1,hx1⟩:∃x:ByteArray,x=⟨u.auth.user.toArray⟩:=⟨_,rfl⟩;obtain⟨x2,hx2⟩:∃x:ByteArray,x=⟨u.auth.pass.toArray⟩:=⟨_,rfl⟩;obtain⟨x3,hx3⟩:∃x,x=u.auth.has:=⟨_,rfl⟩;obtain⟨x4,hx4⟩:∃x:ByteArray,x=⟨u.auth.host.toArray⟩:=⟨_,rfl⟩;obtain⟨x5,hx5⟩:∃x,x=u.auth.port:=⟨_,rfl⟩;obtain⟨x6,hx6⟩:∃x,x=u.way.opaq:=⟨_,rfl⟩;obtain⟨x9,hx9⟩:∃x,x=u.query.isSome:=⟨_,rfl⟩;obtain⟨x10,hx10⟩:∃x:ByteArray,x=⟨(u.query.getD []).toArray⟩:=⟨_,rfl⟩;obtain⟨x11,hx11⟩:∃x,x=u.frag.isSome:=⟨_,rfl⟩;obtain⟨x12,hx12⟩:∃x:ByteArray,x=⟨(u.frag.getD []).toArray⟩:=⟨_,rfl⟩;rw[←ht3] at HPT;rw[←hx0,←hx1,←hx2,←hx3,←hx4,←hx5,←hx6,←hx9,←hx10,←hx11,←hx12] at hd;have HRS:Hid (z8J (.ok u)=.returned (.tuple #[.agg #[.string x0,.string x1,.string x2,.bool x3,.string x4,.int .i64 x5,.bool x6,.string t3,.bool x9,.string x10,.bool x11,.string x12],.int .i64 0])):=by show _=_;rw[ht3,hx0,hx1,hx2,hx3,hx4,hx5,hx6,hx9,hx10,hx11,hx12];rfl
  obtain⟨pc,hpc⟩:∃pc:Array Value,pc=#[.string x0,.string x1,.string x2,.bool x3,.string x4,.int .i64 x5,.bool x6,.string t3,.bool x9,.string x10,.bool x11,.string x12]:=⟨_,rfl⟩;have HPZ:Hid ((prog.info? 40).map (·.size)=some pc.size):=by show _=_;rw[hpc];exact zmz
  have HPO:Hid (pc.all (·.oneCell')=true):=by show _=_;rw[hpc];simp[Value.oneCell']
  have HPS:Hid (z0p.size=pc.size):=by show _=_;rw[hpc];rfl
  have HPC:=hI hpc;have HSR:Hid (∀i,(w2.drew.setRow w.heap.size pc).cell? ⟨j,i,none⟩=w2.cell? ⟨j,i,none⟩):=fun i=>World.cell?_of_block (zix w2.drew pc hne);clear hpc;clear ht3 hx0 hx1 hx2 hx3 hx4 hx5 hx6 hx9 hx10 hx11 hx12;obtain⟨d0,d1,d2,d3,d4,d5,d6,d8,d9,d10,d11⟩:=hd;go_wp2_with fail;refine Calls.mono HPT ?_;rintro e w3 ⟨rfl,hw3⟩;obtain rfl:=hw3.symm;go_wp2;refine wp_region_held_drew (S:=fun w'=>w'.cell? ⟨j,0,none⟩=some (.string x0)∧w'.cell? ⟨j,1,none⟩=some (.string x1)∧w'.cell? ⟨j,2,none⟩=some (.string x2)∧w'.cell? ⟨j,3,none⟩=some (.bool x3)∧w'.cell? ⟨j,4,none⟩=some (.string x4)∧w'.cell? ⟨j,5,none⟩=some (.int .i64 x5)∧w'.cell? ⟨j,6,none⟩=some (.bool x6)∧w'.cell? ⟨j,8,none⟩=some (.bool x9)∧w'.cell? ⟨j,9,none⟩=some (.string x10)∧w'.cell? ⟨j,10,none⟩=some (.bool x11)∧w'.cell? ⟨j,11,none⟩=some (.string x12)) (by kernel_rfl) (by go_keep) (fun hHeld=>?_);refine' tk1 0 47 _ rfl (by kernel_rfl) (fun _ _ _ h=>h) (by rfl) ?h1 (by assumption) ?k1
  case h1=>(intro w hSw;(try dsimp only at hSw);go_simp;try with_reducible rfl)
  try simp only[Act.put,tkA]
  refine' tk1 1 46 _ rfl (by kernel_rfl) (fun _ _ _ h=>h) (by rfl) ?h2 (by assumption) ?k2
  case h2=>(intro w hSw;(try dsimp only at hSw);go_simp;try with_reducible rfl)
  try simp only[Act.put,tkA]
  refine' tk1 2 45 _ rfl (by kernel_rfl) (fun _ _ _ h=>h) (by rfl) ?h3 (by assumption) ?k3
  case h3=>(intro w hSw;(try dsimp only at hSw);go_simp;try with_reducible rfl)
  try simp only[Act.put,tkA]
  refine' tk1 3 44 _ rfl (by kernel_rfl) (fun _ _ _ h=>h) (by rfl) ?h4 (by assumption) ?k4
  case h4=>(intro w hSw;(try dsimp only at hSw);go_simp;try with_reducible rfl)
  try simp only[Act.put,tkA]
  refine' tk1 4 43 _ rfl (by kernel_rfl) (fun _ _ _ h=>h) (by rfl) ?h5 (by assumption) ?k5
  case h5=>(intro w hSw;(try dsimp only at hSw);go_simp;try with_reducible rfl)
  try simp only[Act.put,tkA]
  refine' tk1 5 42 _ rfl (by kernel_rfl) (fun _ _ _ h=>h) (by rfl) ?h6 (by assumption) ?k6
  case h6=>(intro w hSw;(try dsimp only at hSw);go_simp;try with_reducible rfl)
  try simp only[Act.put,tkA]
  refine' tk1 6 41 _ rfl (by kernel_rfl) (fun _ _ _ h=>h) (by rfl) ?h7 (by assumption) ?k7
  case h7=>(intro w hSw;(try dsimp only at hSw);go_simp;try with_reducible rfl)
  try simp only[Act.put,tkA]
  refine' tk1 7 40 _ rfl (by kernel_rfl) (fun _ _ _ h=>h) (by rfl) ?h8 (by assumption) ?k8
  case h8=>(intro w hSw;(try dsimp only at hSw);go_simp;try with_reducible rfl)
  try simp only[Act.put,tkA]
  refine' tk1 8 39 _ rfl (by kernel_rfl) (fun _ _ _ h=>h) (by rfl) ?h9 (by assumption) ?k9
  case h9=>(intro w hSw;(try dsimp only at hSw);go_simp;try with_reducible rfl)
  try simp only[Act.put,tkA]
  refine' tk1 9 38 _ rfl (by kernel_rfl) (fun _ _ _ h=>h) (by rfl) ?h10 (by assumption) ?k10
  case h10=>(intro w hSw;(try dsimp only at hSw);go_simp;try with_reducible rfl)
  try simp only[Act.put,tkA]
  refine' tk1 10 37 _ rfl (by kernel_rfl) (fun _ _ _ h=>h) (by rfl) ?h11 (by assumption) ?k11
  case h11=>(intro w hSw;(try dsimp only at hSw);go_simp;try with_reducible rfl)
  try simp only[Act.put,tkA]
  refine' tk1 11 36 _ rfl (by kernel_rfl) (fun _ _ _ h=>h) (by rfl) ?h12 (by assumption) ?k12
  case h12=>(intro w hSw;(try dsimp only at hSw);go_simp;try with_reducible rfl)
  try simp only[Act.put,tkA]
  refine' tk1 12 35 _ rfl (by kernel_rfl) (fun _ _ _ h=>h) (by rfl) ?h13 (by assumption) ?k13
  case h13=>(intro w hSw;(try dsimp only at hSw);go_simp;try with_reducible rfl)
  try simp only[Act.put,tkA]
  refine' tk1 13 34 _ rfl (by kernel_rfl) (fun _ _ _ h=>h) (by rfl) ?h14 (by assumption) ?k14
  case h14=>(intro w hSw;(try dsimp only at hSw);go_simp;try with_reducible rfl)
  try simp only[Act.put,tkA]
  refine' tk1 14 33 _ rfl (by kernel_rfl) (fun _ _ _ h=>h) (by rfl) ?h15 (by assumption) ?k15
  case h15=>(intro w hSw;(try dsimp only at hSw);go_simp;try with_reducible rfl)
  try simp only[Act.put,tkA]
  refine' tk1 15 32 _ rfl (by kernel_rfl) (fun _ _ _ h=>h) (by rfl) ?h16 (by assumption) ?k16
  case h16=>(intro w hSw;(try dsimp only at hSw);go_simp;try with_reducible rfl)
  try simp only[Act.put,tkA]
  refine' tk1 16 31 _ rfl (by kernel_rfl) (fun _ _ _ h=>h) (by rfl) ?h17 (by assumption) ?k17
  case h17=>(intro w hSw;(try dsimp only at hSw);go_simp;try with_reducible rfl)
  try simp only[Act.put,tkA]
  refine' tk1 17 30 _ rfl (by kernel_rfl) (fun _ _ _ h=>h) (by rfl) ?h18 (by assumption) ?k18
  case h18=>(intro w hSw;(try dsimp only at hSw);go_simp;try with_reducible rfl)
  try simp only[Act.put,tkA]
  refine' tk1 18 29 _ rfl (by kernel_rfl) (fun _ _ _ h=>h) (by rfl) ?h19 (by assumption) ?k19
  case h19=>(intro w hSw;(try dsimp only at hSw);go_simp;try with_reducible rfl)
  try simp only[Act.put,tkA]
  refine' tk1 19 28 _ rfl (by kernel_rfl) (fun _ _ _ h=>h) (by rfl) ?h20 (by assumption) ?k20
  case h20=>(intro w hSw;(try dsimp only at hSw);go_simp;try with_reducible rfl)
  try simp only[Act.put,tkA]
  refine' tk1 20 27 _ rfl (by kernel_rfl) (fun _ _ _ h=>h) (by rfl) ?h21 (by assumption) ?k21
  case h21=>(intro w hSw;(try dsimp only at hSw);go_simp;try with_reducible rfl)
  try simp only[Act.put,tkA]
  refine' tk1 21 26 _ rfl (by kernel_rfl) (fun _ _ _ h=>h) (by rfl) ?h22 (by assumption) ?k22
  case h22=>(intro w hSw;(try dsimp only at hSw);go_simp;try with_reducible rfl)
  try simp only[Act.put,tkA]
  refine' tk1 22 25 _ rfl (by kernel_rfl) (fun _ _ _ h=>h) (by rfl) ?h23 (by assumption) ?k23
  case h23=>(intro w hSw;(try dsimp only at hSw);go_simp;try with_reducible rfl)
  try simp only[Act.put,tkA]
  refine' tk1 23 24 _ rfl (by kernel_rfl) (fun _ _ _ h=>h) (by rfl) ?h24 (by assumption) ?k24
  case h24=>(intro w hSw;(try dsimp only at hSw);go_simp;try with_reducible rfl)
  try simp only[Act.put,tkA]
  refine' tk1 24 23 _ rfl (by kernel_rfl) (fun _ _ _ h=>h) (by rfl) ?h25 (by assumption) ?k25
  case h25=>(intro w hSw;(try dsimp only at hSw);go_simp;try with_reducible rfl)
  try simp only[Act.put,tkA]
  refine' tk1 25 22 _ rfl (by kernel_rfl) (fun _ _ _ h=>h) (by rfl) ?h26 (by assumption) ?k26
  case h26=>(intro w hSw;(try dsimp only at hSw);go_simp;try with_reducible rfl)
  try simp only[Act.put,tkA]
  refine' tk1 26 21 _ rfl (by kernel_rfl) (fun _ _ _ h=>h) (by rfl) ?h27 (by assumption) ?k27
  case h27=>(intro w hSw;(try dsimp only at hSw);go_simp;try with_reducible rfl)
  try simp only[Act.put,tkA]
  refine' tk1 27 20 _ rfl (by kernel_rfl) (fun _ _ _ h=>h) (by rfl) ?h28 (by assumption) ?k28
  case h28=>(intro w hSw;(try dsimp only at hSw);go_simp;try with_reducible rfl)
  try simp only[Act.put,tkA]
  refine' tk1 28 19 _ rfl (by kernel_rfl) (fun _ _ _ h=>h) (by rfl) ?h29 (by assumption) ?k29
  case h29=>(intro w hSw;(try dsimp only at hSw);go_simp;try with_reducible rfl)
  try simp only[Act.put,tkA]
  refine' tk1 29 18 _ rfl (by kernel_rfl) (fun _ _ _ h=>h) (by rfl) ?h30 (by assumption) ?k30
  case h30=>(intro w hSw;(try dsimp only at hSw);go_simp;try with_reducible rfl)
  try simp only[Act.put,tkA]
  refine' tk1 30 17 _ rfl (by kernel_rfl) (fun _ _ _ h=>h) (by rfl) ?h31 (by assumption) ?k31
  case h31=>(intro w hSw;(try dsimp only at hSw);go_simp;try with_reducible rfl)
  try simp only[Act.put,tkA]
  refine' tk1 31 16 _ rfl (by kernel_rfl) (fun _ _ _ h=>h) (by rfl) ?h32 (by assumption) ?k32
  case h32=>(intro w hSw;(try dsimp only at hSw);go_simp;try with_reducible rfl)
  try simp only[Act.put,tkA]
  refine' tk1 32 15 _ rfl (by kernel_rfl) (fun _ _ _ h=>h) (by rfl) ?h33 (by assumption) ?k33
  case h33=>(intro w hSw;(try dsimp only at hSw);go_simp;try with_reducible rfl)
  try simp only[Act.put,tkA]
  refine' tk1 33 14 _ rfl (by kernel_rfl) (fun _ _ _ h=>h) (by rfl) ?h34 (by assumption) ?k34
  case h34=>(intro w hSw;(try dsimp only at hSw);go_simp;try with_reducible rfl)
  try simp only[Act.put,tkA]
  refine' tk1 34 13 _ rfl (by kernel_rfl) (fun _ _ _ h=>h) (by rfl) ?h35 (by assumption) ?k35
  case h35=>(intro w hSw;(try dsimp only at hSw);go_simp;try with_reducible rfl)
  try simp only[Act.put,tkA]
  refine' tk1 35 12 _ rfl (by kernel_rfl) (fun _ _ _ h=>h) (by rfl) ?h36 (by assumption) ?k36
  case h36=>(intro w hSw;(try dsimp only at hSw);go_simp;try with_reducible rfl)
  try simp only[Act.put,tkA]
  refine' tk1 36 11 _ rfl (by kernel_rfl) (fun _ _ _ h=>h) (by rfl) ?h37 (by assumption) ?k37
  case h37=>(intro w hSw;(try dsimp only at hSw);go_simp;try with_reducible rfl)
  try simp only[Act.put,tkA]
  refine' tk1 37 10 _ rfl (by kernel_rfl) (fun _ _ _ h=>h) (by rfl) ?h38 (by assumption) ?k38
  case h38=>(intro w hSw;(try dsimp only at hSw);go_simp;try with_reducible rfl)
  try simp only[Act.put,tkA]
  refine' tk1 38 9 _ rfl (by kernel_rfl) (fun _ _ _ h=>h) (by rfl) ?h39 (by assumption) ?k39
  case h39=>(intro w hSw;(try dsimp only at hSw);go_simp;try with_reducible rfl)
  try simp only[Act.put,tkA]
  refine' tk1 39 8 _ rfl (by kernel_rfl) (fun _ _ _ h=>h) (by rfl) ?h40 (by assumption) ?k40
  case h40=>(intro w hSw;(try dsimp only at hSw);go_simp;try with_reducible rfl)
  try simp only[Act.put,tkA]
  refine' tk1 40 7 _ rfl (by kernel_rfl) (fun _ _ _ h=>h) (by rfl) ?h41 (by assumption) ?k41
  case h41=>(intro w hSw;(try dsimp only at hSw);go_simp;try with_reducible rfl)
  try simp only[Act.put,tkA]
  refine' tk1 41 6 _ rfl (by kernel_rfl) (fun _ _ _ h=>h) (by rfl) ?h42 (by assumption) ?k42
  case h42=>(intro w hSw;(try dsimp only at hSw);go_simp;try with_reducible rfl)
  try simp only[Act.put,tkA]
  refine' tk1 42 5 _ rfl (by kernel_rfl) (fun _ _ _ h=>h) (by rfl) ?h43 (by assumption) ?k43
  case h43=>(intro w hSw;(try dsimp only at hSw);go_simp;try with_reducible rfl)
  try simp only[Act.put,tkA]
  refine' tk1 43 4 _ rfl (by kernel_rfl) (fun _ _ _ h=>h) (by rfl) ?h44 (by assumption) ?k44
  case h44=>(intro w hSw;(try dsimp only at hSw);go_simp;try with_reducible rfl)
  try simp only[Act.put,tkA]
  refine' tk1 44 3 _ rfl (by kernel_rfl) (fun _ _ _ h=>h) (by rfl) ?h45 (by assumption) ?k45
  case h45=>(intro w hSw;(try dsimp only at hSw);go_simp;try with_reducible rfl)
  try simp only[Act.put,tkA]
  refine' tk1 45 2 _ rfl (by kernel_rfl) (fun _ _ _ h=>h) (by rfl) ?h46 (by assumption) ?k46
  case h46=>(intro w hSw;(try dsimp only at hSw);go_simp;try with_reducible rfl)
  try simp only[Act.put,tkA]
  refine zbm (i:=46) (fuel:=1) (by kernel_rfl) rfl rfl 40 (.tmp 2) (.tmp 63) rfl w.heap.size pc rfl (by rw[HPC.out];rfl) 40 z0p HZ1 HPZ HPS HPO ⟨(HSR 0).trans d0,(HSR 1).trans d1,(HSR 2).trans d2,(HSR 3).trans d3,(HSR 4).trans d4,(HSR 5).trans d5,(HSR 6).trans d6,(HSR 8).trans d8,(HSR 9).trans d9,(HSR 10).trans d10,(HSR 11).trans d11⟩ (fun hHeld2=>?_);clear hHeld;have hHeld:=hHeld2;clear hHeld2;try simp only[Act.put,tkA]
  refine' tk1 47 0 _ rfl (by kernel_rfl) (fun _ _ _ h=>h) (by rfl) ?h47 (by assumption) ?k47
  case h47=>(intro w hSw;(try dsimp only at hSw);go_simp;try with_reducible rfl)
  try simp only[Act.put,tkA]
  clear hHeld;refine wpAnyH_done (by kernel_rfl) ?_ _;go_wp2;have hld:=run_loadVar_row (P:=prog) _ w.heap.size 40 40 pc (0,0) _ (z3a (w:=w2.drew) HZ1 pc) underlying40 rfl HPZ;refine bodyPost_ret (v:=.tuple #[.agg pc,.int .i64 0]) ?_ rfl ⟨by rw[HPC.out];exact HRS.out.symm,below_setRow HB1.out.drew (Nat.le_refl _) _⟩;rw[results_cell_tmp rfl];simp[asAddr,Result.andThen,hld]
end Go.Proofs
