import Derived.Test.YtkcnageeamappaaGreatDoorXAOther
set_option maxHeartbeats 32000000
set_option maxRecDepth 8000
namespace Go.Proofs
open Go.RowKit Go.Moor Go.Proofs.Tryz
def z0f (a:Adr) (v:Value):Array Value:=#[.string ⟨a.scheme.toArray⟩,.string ⟨a.auth.user.toArray⟩,.string ⟨a.auth.pass.toArray⟩,.bool a.auth.has,.string ⟨a.auth.host.toArray⟩,.int .i64 a.auth.port,.bool a.way.opaq,.string ⟨a.way.text.toArray⟩,v,.bool a.query.isSome,.string ⟨(a.query.getD []).toArray⟩,.bool a.frag.isSome,.string ⟨(a.frag.getD []).toArray⟩]
theorem z82 {w:World} {a:Go.Addr} {v:Value} (h:w.cell? a=some v):a.block<w.heap.size:=by first|exact block_lt_of_cell h|exact World.block_lt_of_cell? w a h
theorem zmw (a:Adr) (v:Value) (w:World) (hv:z1f w v a.way.segs):Calls Tryz.prog 91 #[.agg (z0f a v)] w fun e w'=>e=.returned (.string ⟨(z3h a).toArray⟩)∧Below w.heap.size w w':=by
 obtain⟨sc,⟨us,pa,ha,ho,po⟩,⟨op,tx,segs⟩,qu,fr⟩:=a;unfold z0f;simp only at hv⊢;have HB:Hid (∀o:Obj,Below w.heap.size w (w.alloc o)):=fun o=>(Below.refl _ _).alloc (Nat.le_refl _) o;obtain⟨⟨sp,cap,rfl,hnc,hcm,hf⟩,_⟩:=hv;unfold maxLen at hcm;have HE:Hid (z3h ⟨sc,⟨us,pa,ha,ho,po⟩,⟨op,tx,segs⟩,qu,fr⟩=if ha=false∧1<segs.length∧segs.head? =some [] then [47,46] else []):=rfl;generalize qu.isSome=q1 at*;generalize qu.getD []=q2 at*;generalize fr.isSome=f1 at*;generalize fr.getD []=f2 at*;cases ha with
 |true=>
  have HE2:Hid (z3h ⟨sc,⟨us,pa,true,ho,po⟩,⟨op,tx,segs⟩,qu,fr⟩=[]):=by show _=_;rw[HE.out,if_neg (by simp)]
  clear HE hf;go_enter Tryz.func91,Tryz.ntmps91;go_wp2;go_ret;rw[HE2.out];exact⟨rfl,HB _⟩
 |false=>
  by_cases h1:1<segs.length
  ·obtain⟨x,hx⟩:∃x,segs[0]?=some x:=⟨segs[0],List.getElem?_eq_getElem (by omega)⟩
   have hh:segs.head? =some x:=(by rw[List.head?_eq_getElem?];exact hx);obtain⟨g,rfl,hc⟩:=hf (by intro h;rw[h] at h1;simp at h1);have hcx:=hc 0 x hx;have hgz:=z82 hcx;clear hf hc;by_cases hxe:x=[]
   ·subst hxe
    have HE2:Hid (z3h ⟨sc,⟨us,pa,false,ho,po⟩,⟨op,tx,segs⟩,qu,fr⟩=[47,46]):=(by show _=_;rw[HE.out,if_pos ⟨rfl,h1,hh⟩]);have e1:=z3B;clear HE hh hx;go_enter Tryz.func91,Tryz.ntmps91;go_wp2;go_ret;rw[HE2.out];exact⟨rfl,HB _⟩
   ·have HE2:Hid (z3h ⟨sc,⟨us,pa,false,ho,po⟩,⟨op,tx,segs⟩,qu,fr⟩=[]):=by show _=_;rw[HE.out,hh,if_neg (by simp[hxe])]
    have e1:=z3Z x hxe;obtain⟨s,hsd⟩:=z09 (⟨x.toArray⟩:ByteArray);rw[←hsd] at e1 hcx;clear HE hh hx hxe hsd;go_enter Tryz.func91,Tryz.ntmps91;go_wp2;go_ret;rw[HE2.out];exact⟨rfl,HB _⟩
  ·have HE2:Hid (z3h ⟨sc,⟨us,pa,false,ho,po⟩,⟨op,tx,segs⟩,qu,fr⟩=[]):=by show _=_;rw[HE.out,if_neg (fun y=>h1 y.2.1)]
   clear HE hf;go_enter Tryz.func91,Tryz.ntmps91;go_wp2;go_ret;rw[HE2.out];exact⟨rfl,HB _⟩
theorem zdE (segs:List Bs) (q:Nat) (x:Bs) (h:segs[q]?=some x):z0F (segs.take (q+1))=(z0F (segs.take q)++ [47])++x:=by rw[List.take_add_one,h];unfold z0F;rw[List.flatMap_append];simp
theorem zan (segs:List Bs) (hx:∀x∈segs,x.length≤1000000) (q:Nat):(z0F (segs.take q)).length≤1000001*q:=by
 have key:∀l:List Bs,(∀x∈l,x.length≤1000000)→(z0F l).length≤1000001*l.length:=by
  intro l;induction l with
  |nil=>intro _;simp[z0F]
  |cons a l ih=>intro h;have h1:=ih (fun x hx=>h x (by simp[hx]));have h2:=h a (by simp);unfold z0F at h1⊢;simp only[List.flatMap_cons,List.length_append,List.length_cons];omega
 have:=key (segs.take q) (fun x h=>hx x (List.mem_of_mem_take h));rw[List.length_take] at this;have h2:1000001*min q segs.length≤1000001*q:=Nat.mul_le_mul_left _ (by omega);omega
theorem zkh (y:Moor.Way) (v:Value) (w:World) (hv:z1f w v y.segs) (hn:y.segs.length≤10000000) (hx:∀x∈y.segs,x.length≤1000000):Calls Tryz.prog 59 #[.agg #[.bool y.opaq,.string ⟨y.text.toArray⟩,v]] w fun e w'=>e=.returned (.string ⟨(z1X y).toArray⟩)∧Below w.heap.size w w':=by
 obtain⟨op,tx,segs⟩:=y;simp only at hv hn hx⊢;obtain⟨⟨sp,cap,rfl,hnc,hcm,hf⟩,_⟩:=hv;unfold maxLen at hcm;cases op with
 |true=>have HE:Hid (z1X ⟨true,tx,segs⟩=tx):=rfl;clear hf;go_enter Tryz.func59,Tryz.ntmps59;go_wp2;go_ret;rw[HE.out];exact⟨rfl,(Below.refl _ _).alloc (Nat.le_refl _) _⟩
 |false=>
  have HE:Hid (z1X ⟨false,tx,segs⟩=z0F segs):=rfl;have HS:Hid (∀(j:Nat) x,segs[j]?=some x→∃g,sp=some ⟨g,0,none⟩∧w.cell? ⟨g,j,none⟩=some (.string ⟨x.toArray⟩)):=by intro j x hj;obtain⟨g,hg,hc⟩:=hf (by intro h;rw[h] at hj;simp at hj);exact⟨g,hg,hc j x hj⟩
  have HL:Hid (∀q,(z0F (segs.take q)).length≤1000001*q):=zan segs hx;have HX:Hid (∀x∈segs,x.length≤1000000):=hx;obtain⟨W,hW⟩:∃W,W=w.alloc (.cells #[.bool false,.string ⟨tx.toArray⟩,.slice sp segs.length cap] 73):=⟨_,rfl⟩;have HBW:Hid (Below w.heap.size w W):=by rw[hW];exact(Below.refl _ _).alloc (Nat.le_refl _) _
  have hWz:W.heap.size=w.heap.size+1:=by rw[hW];simp
  have hc2:W.cell? ⟨w.heap.size,2,none⟩=some (.slice sp segs.length cap):=by
   have:W.heap[w.heap.size]?=some (.cells #[.bool false,.string ⟨tx.toArray⟩,.slice sp segs.length cap] 73 (0,0)):=by rw[hW];exact z0K w _ _
   exact z00 this 2
  clear hf hx;go_enter Tryz.func59,Tryz.ntmps59;go_wp2;rw[←hW];have HW0:Hid (Lib.IsBuilderF 142 5 (w.heap.size+1) (w.heap.size+1) (Lib.byteCells []) (W.alloc (.cells #[.pointer none,.slice none 0 0] 142))):=by have h:=Lib.IsBuilderF.of (Lib.fresh_isBuilder 142 5 W);rw[hWz] at h;exact h
  have HBA:Hid (Below (w.heap.size+1) W (W.alloc (.cells #[.pointer none,.slice none 0 0] 142))):=(Below.refl _ _).alloc (by omega) _;clear hW;go_loopw [13] (fun i wr=>∃q:Nat,q≤segs.length∧i=.int .i64 q∧Lib.IsBuilderF 142 5 (w.heap.size+1) (w.heap.size+1) (Lib.byteCells (z0F (segs.take q))) wr∧Below (w.heap.size+1) W wr∧w.heap.size+1<wr.heap.size) (fun i _=>segs.length-(intOf i).toNat)
  case atStart=>exact⟨0,Nat.zero_le _,rfl,HW0.out,HBA.out,by simp[hWz]⟩
  case round=>
   obtain⟨q,hq,rfl,hI,hbw,hz⟩:=hrel;have HBR:Hid (Below (w.heap.size+1) W wr):=hbw;have hlq:=HL.out q;clear hbw;by_cases hlt:q<segs.length
   ·obtain⟨x,hx⟩:∃x,segs[q]?=some x:=⟨segs[q],List.getElem?_eq_getElem hlt⟩
    obtain⟨g,hsp,hcx⟩:=HS.out q x hx;subst hsp;have hgz:g<w.heap.size:=z82 hcx;have hcr:wr.cell? ⟨g,q,none⟩=some (.string ⟨x.toArray⟩):=by rw[HBR.out.cell (p:=⟨g,q,none⟩) (show g<w.heap.size+1 by omega),HBW.out.cell (p:=⟨g,q,none⟩) hgz];exact hcx
    have hxl:=HX.out x (List.mem_of_getElem? hx);have HNX:Hid (z0F (segs.take (q+1))=(z0F (segs.take q)++ [47])++x):=zdE segs q x hx;generalize z0F (segs.take q)=acc at*;clear hx hcx;go_wp2_with fail;refine(Tryz.Builder_WriteString_k (w.heap.size+1) (w.heap.size+1) _ ⟨#[47]⟩ wr hI (by rw[Lib.byteCells_length];show _+1≤_;omega) (by omega)).mono ?_;rintro e W1 ⟨rfl,h1,b1,_⟩;have hI1:Lib.IsBuilderF 142 5 (w.heap.size+1) (w.heap.size+1) (Lib.byteCells (acc++ [47])) W1:=(by rw[Lib.byteCells_append];exact Or.inr h1);have hz1:w.heap.size+1<W1.heap.size:=Nat.lt_of_lt_of_le hz b1.size;have HB1:Hid (Below (w.heap.size+1) W W1):=HBR.out.trans b1;clear h1 b1;go_wp2_with fail;refine(Tryz.Builder_WriteString_k (w.heap.size+1) (w.heap.size+1) _ ⟨x.toArray⟩ W1 hI1 (by rw[Lib.byteCells_length,z07];simp;omega) (by omega)).mono ?_;rintro e W2 ⟨rfl,h2,b2,_⟩;have hI2:Lib.IsBuilderF 142 5 (w.heap.size+1) (w.heap.size+1) (Lib.byteCells ((acc++ [47])++x)) W2:=(by rw[Lib.byteCells_append];exact Or.inr h2);have hz2:w.heap.size+1<W2.heap.size:=Nat.lt_of_lt_of_le hz1 b2.size;have HB2:Hid (Below (w.heap.size+1) W W2):=HB1.out.trans b2;clear h2 b2;go_wp2;go_roundw
    case rel=>exact⟨q+1,by omega,by go_num,by rw[HNX.out];exact hI2,HB2.out,hz2⟩
    case measure=>(simp[intOf];try omega)
   ·have HQ:Hid (z0F (segs.take q)=z0F segs):=by show _=_;rw[List.take_of_length_le (by omega)]
    go_wp2_with(go_at_call 97;refine(Tryz.Builder_String_any_k (w.heap.size+1) (w.heap.size+1) _ _ hI (by omega)).mono ?_);rintro e W2 ⟨rfl,_,b2,_⟩;go_wp2;go_ret;rw[HE.out,←HQ.out];exact⟨rfl,HBW.out.trans ((HBR.out.trans b2).mono (by omega))⟩
def z6Y (k:Nat) (v:Value):Prop:=∀g n c,v=.slice (some ⟨g,0,none⟩) n c→g≠k
theorem zhq {k:Nat} {w w':World} {v:Value} (h:z71 w v) (hb:But k w w') (ho:z6Y k v):z71 w' v:=by intro g n c hv;obtain⟨cur,fr,hh⟩:=h g n c hv;exact⟨cur,fr,(hb.block g (Array.getElem?_eq_some_iff.1 hh).1 (ho g n c hv)).trans hh⟩
theorem zeu {w w':World} {v:Value} (h:z71 w v) (hb:Below w.heap.size w w'):z71 w' v:=by intro g n c hv;obtain⟨cur,fr,hh⟩:=h g n c hv;exact⟨cur,fr,(hb.block g (Array.getElem?_eq_some_iff.1 hh).1).trans hh⟩
theorem z5C {k:Nat} {w:World} {v:Value} {cs:Array Value} {t:TypeId} {fr:Nat×Nat} (h:z71 w v) (hk:w.heap[k]?=some (.cells cs t fr)) (ht:t≠9):z6Y k v:=by intro g n c hv e;subst e;obtain⟨cur,fr2,hh⟩:=h g n c hv;rw[hk] at hh;simp only[Option.some.injEq,Obj.cells.injEq] at hh;exact ht hh.2.1
theorem z3x {k:Nat} {w w':World} {v:Value} {segs:List Bs} (h:z1f w v segs) (hb:But k w w') (ho:z6Y k v):z1f w' v segs:=by obtain⟨⟨sp,cap,rfl,h1,h2,h3⟩,ht⟩:=h;refine⟨⟨sp,cap,rfl,h1,h2,fun hn=>?_⟩,zhq ht hb ho⟩;obtain⟨g,rfl,hc⟩:=h3 hn;refine⟨g,rfl,fun j x hx=>?_⟩;have:=hc j x hx;have hgz:=z82 this;rw[←this];exact World.cell?_of_block (a:=⟨g,j,none⟩) (hb.block g hgz (ho g _ _ rfl))
theorem z19 {w w':World} {v:Value} {segs:List Bs} (h:z1f w v segs) (hb:Below w.heap.size w w'):z1f w' v segs:=by obtain⟨⟨sp,cap,rfl,h1,h2,h3⟩,ht⟩:=h;refine⟨⟨sp,cap,rfl,h1,h2,fun hn=>?_⟩,zeu ht hb⟩;obtain⟨g,rfl,hc⟩:=h3 hn;refine⟨g,rfl,fun j x hx=>?_⟩;have:=hc j x hx;have hgz:=z82 this;rw[←this];exact World.cell?_of_block (a:=⟨g,j,none⟩) (hb.block g hgz)
theorem z7t (s:Bs) (segs:List Bs):z08 s segs<+:segs:=by
 unfold z08;split
 ·exact List.prefix_refl _
 ·exact List.dropLast_prefix _
theorem zmv {a b:List Bs} (h:a<+:b) (j:Nat) (x:Bs) (hx:a[j]?=some x):b[j]?=some x:=by obtain⟨t,rfl⟩:=h;have hj:=(List.getElem?_eq_some_iff.1 hx).1;rw[List.getElem?_append_left hj];exact hx
theorem zdB (k:Nat) (qh:Bool) (qt:ByteArray) (c0 c1 c2 c3 c4 c5 c6 c7 c8 c11 c12 b0 b1 b2 b3 b4 b5 b11 b12:Value) (op bqh:Bool) (tx bqt:ByteArray) (sp:Option Go.Addr) (n cap:Nat) (w:World) (hk:w.heap[k]?=some (.cells #[c0,c1,c2,c3,c4,c5,c6,c7,c8,.bool qh,.string qt,c11,c12] 77 (0,0))):Calls Tryz.prog 280 #[.pointer (some ⟨k,0,none⟩),.string ⟨#[]⟩,.agg #[b0,b1,b2,b3,b4,b5,.bool op,.string tx,.slice sp n cap,.bool bqh,.string bqt,b11,b12]] w fun e w'=>e=.returned (.tuple #[])∧But k w w'∧w'.heap[k]?=some (.cells #[c0,c1,c2,c3,c4,c5,.bool op,.string tx,.slice sp n cap,.bool (if qh then qh else bqh),.string (if qh then qt else bqt),c11,c12] 77 (0,0)):=by
 have hkz:=(Array.getElem?_eq_some_iff.1 hk).1;have HB0:Hid (But k w w):=But.of_below (Below.refl _ _);have j6:w.cell? ⟨k,6,none⟩=some c6:=z00 hk 6;have j7:w.cell? ⟨k,7,none⟩=some c7:=z00 hk 7;have j8:w.cell? ⟨k,8,none⟩=some c8:=z00 hk 8;have j9:w.cell? ⟨k,9,none⟩=some (.bool qh):=z00 hk 9;have j10:w.cell? ⟨k,10,none⟩=some (.string qt):=z00 hk 10;have i6:=z04 hk 6;have i7:=z04 hk 7;have i8:=z04 hk 8;have i9:=z04 hk 9;have i10:=z04 hk 10;have g6:=heap_setCell_same _ k 6 _ 77 (.bool op) hk;have g7:=heap_setCell_same _ k 7 _ 77 (.string tx) g6;have g8:=heap_setCell_same _ k 8 _ 77 (.slice sp n cap) g7;have g9:=heap_setCell_same _ k 9 _ 77 (.bool bqh) g8;have g10:=heap_setCell_same _ k 10 _ 77 (.string bqt) g9;have HG8:Hid _:=g8;have HG10:Hid _:=g10;have hne:w.heap.size≠k:=by omega
 have hne2:k≠w.heap.size:=by omega
 clear g6 g7 g8 g9 g10 hk;cases qh with
 |true=>simp only[if_true];go_enter Tryz.func280,Tryz.ntmps280;go_wp2;exact bodyPost_end (v:=.tuple #[]) (z3J rfl _ _ _) rfl ⟨rfl,(((HB0.out.setCell 6 _).setCell 7 _).setCell 8 _).alloc _,(z4z _ _ k (by simpa using hkz)).trans HG8⟩
 |false=>simp only[Bool.false_eq_true,if_false];go_enter Tryz.func280,Tryz.ntmps280;go_wp2;exact bodyPost_end (v:=.tuple #[]) (z3J rfl _ _ _) rfl ⟨rfl,(((((HB0.out.setCell 6 _).setCell 7 _).setCell 8 _).setCell 9 _).setCell 10 _).alloc _,(z4z _ _ k (by simpa using hkz)).trans HG10⟩
theorem zdC (k:Nat) (sc m:Bs) (q:Option Bs) (b:Adr) (bv:Value) (c1 c2 c3 c4 c5 c6 c7 c8 c11 c12:Value) (w:World) (hm:m.length≤100000) (hk:w.heap[k]?=some (.cells #[.string ⟨sc.toArray⟩,c1,c2,c3,c4,c5,c6,c7,c8,.bool q.isSome,.string ⟨(q.getD []).toArray⟩,c11,c12] 77 (0,0))) (hb:z1f w bv b.way.segs) (hoff:z6Y k bv) (hbl:b.way.segs.length≤1000000) (hbx:∀x∈b.way.segs,x.length≤1000000) (henv:Tryz.Env2 w):Calls Tryz.prog 280 #[.pointer (some ⟨k,0,none⟩),.string ⟨m.toArray⟩,.agg (z0f b bv)] w fun e w'=>e=.returned (.tuple #[])∧But k w w'∧∃v,w'.heap[k]?=some (.cells #[.string ⟨sc.toArray⟩,c1,c2,c3,c4,c5,.bool (z2X sc m q b).1.opaq,.string ⟨(z2X sc m q b).1.text.toArray⟩,v,.bool (z2X sc m q b).2.isSome,.string ⟨((z2X sc m q b).2.getD []).toArray⟩,c11,c12] 77 (0,0))∧z1f w' v (z2X sc m q b).1.segs:=by
 have hkz:=(Array.getElem?_eq_some_iff.1 hk).1;have HSR:=hI hb;obtain⟨W,hW⟩:=z09 (w.alloc (.cells (z0f b bv) 77));have hBW:Below w.heap.size w W:=by rw[hW];exact(Below.refl _ _).alloc (Nat.le_refl _) _
 have hWz:W.heap.size=w.heap.size+1:=by rw[hW];simp
 have hWk:=(hBW.block k hkz).trans hk;have hWb:W.heap[w.heap.size]?=some (.cells (z0f b bv) 77 (0,0)):=by rw[hW];exact z0K w _ _
 have HBW:=hI hBW;have hV:=henv.below hBW;by_cases h0:m=[]
 ·
  subst h0;obtain⟨⟨sp,cap,rfl,hnc,hcm,_⟩,_⟩:=hb;refine(zdB k q.isSome ⟨(q.getD []).toArray⟩ _ c1 c2 c3 c4 c5 c6 c7 c8 c11 c12 _ _ _ _ _ _ _ _ b.way.opaq b.query.isSome ⟨b.way.text.toArray⟩ ⟨(b.query.getD []).toArray⟩ sp b.way.segs.length cap w hk).mono ?_;rintro e w' ⟨rfl,hbu,hh⟩;have hg:z2X sc [] q b=(b.way,if q.isSome then q else b.query):=by unfold z2X;rw[if_neg (by simp)]
  refine⟨rfl,hbu,_,?_,by rw[hg];exact z3x HSR hbu hoff⟩;rw[hg,hh];cases q<;>rfl
 ·have e0:=z3Z m h0
  have HE:Hid (z2X sc m q b=(⟨false,[],z0z sc (z08 sc b.way.segs) m⟩,q)):=by show _=_;unfold z2X;rw[if_pos h0];rfl
  obtain⟨⟨sp,cap,rfl,hnc,hcm,hf⟩,_⟩:=hb;have k0:W.cell? ⟨k,0,none⟩=some (.string ⟨sc.toArray⟩):=z00 hWk 0;have d8:W.cell? ⟨w.heap.size,8,none⟩=some (.slice sp b.way.segs.length cap):=z00 hWb 8;have HWL:Hid (∀w1,Below W.heap.size W w1→Calls Tryz.prog 253 #[.string ⟨sc.toArray⟩,.slice sp b.way.segs.length cap] w1 fun e w'=>e=.returned (.slice sp (z08 sc b.way.segs).length cap)∧w'=w1):=by intro w1 h1;have hs1:=z19 (z19 HSR HBW) h1;obtain⟨⟨sp2,cap2,he,_,_,hf2⟩,_⟩:=hs1;injection he with e1 _ e2;subst e1;subst e2;refine z8s sc sp cap b.way.segs w1 hnc (by unfold maxLen at hcm;omega) (fun x hx=>by have:=hbx x hx;omega) ?_;intro j x hx;obtain⟨g,hg,hc⟩:=hf2 (fun e=>by rw[e] at hx;simp at hx);refine⟨⟨g,0,none⟩,hg,?_⟩;have:=hc j x hx;rw[Lib.add_plain,Nat.zero_add];exact this
  have HRP:Hid (∀w1,Below W.heap.size W w1→Calls Tryz.prog 163 #[.pointer (some ⟨k,0,none⟩),.slice sp (z08 sc b.way.segs).length cap,.string ⟨m.toArray⟩] w1 fun e w'=>e=.returned (.tuple #[])∧But k w w'∧∃v,w'.heap[k]?=some (.cells #[.string ⟨sc.toArray⟩,c1,c2,c3,c4,c5,.bool false,.string ⟨#[]⟩,v,.bool q.isSome,.string ⟨(q.getD []).toArray⟩,c11,c12] 77 (0,0))∧z1f w' v (z0z sc (z08 sc b.way.segs) m)):=by
   intro w1 h1;have hpre:=z7t sc b.way.segs;have hs1:=z19 (z19 HSR HBW) h1;obtain⟨⟨sp2,cap2,he,_,_,hf2⟩,_⟩:=hs1;injection he with e1 _ e2;subst e1;subst e2;refine(z35 k sc m c1 c2 c3 c4 c5 c6 c7 c8 _ _ c11 c12 sp cap (z08 sc b.way.segs) w1 hm (Nat.le_trans hpre.length_le hbl) (fun x hx=>hbx x (hpre.subset hx)) ((h1.block k (by omega)).trans hWk) ?_ (hV.below h1)).mono ?_
   ·intro hn
    obtain⟨g,hg,hc⟩:=hf2 (fun e=>by rw[e] at hn;exact hn (List.prefix_nil.1 (z7t sc [])));exact⟨g,hg,fun j x hx=>hc j x (zmv hpre j x hx)⟩
   ·rintro e w' ⟨rfl,hb',v,h2,h3⟩
    exact⟨rfl,(But.of_below HBW).trans ((But.of_below h1).trans hb'),v,h2,z5n h3⟩
  clear hk hWk hWb henv hV hoff hbl hbx hf hm hBW;obtain⟨s,hsd⟩:=z09 (⟨m.toArray⟩:ByteArray);rw[←hsd] at e0 HRP⊢;generalize z0z sc (z08 sc b.way.segs) m=rs at*;generalize z08 sc b.way.segs=wl at*;generalize b.way.segs=segs at*;unfold maxLen at hcm;clear hsd h0;go_enter Tryz.func280,Tryz.ntmps280;go_wp2_with fail;rw[←hW];clear hW;go_region_with (first|(go_at_call 253;refine Calls.mono (HWL _ (by exact z1x rfl rfl rfl rfl)) ?_;rintro e w1 ⟨rfl,hw1⟩;have hw1:=hw1.symm;subst hw1)|(go_at_call 163;refine Calls.mono (HRP _ (by exact z1x rfl rfl rfl rfl)) ?_;rintro e w1 ⟨rfl,hbz,v,h2,h3⟩;have HF:Hid _:=And.intro hbz (And.intro h2 h3);clear hbz h2 h3));all_goals
   go_wp2;rw[HE.out];exact bodyPost_ret (v:=.tuple #[]) (z3J rfl _ _ _) rfl ⟨rfl,HF.out.1,_,HF.out.2.1,HF.out.2.2⟩
end Go.Proofs
namespace Go.Moor
open Go
def z3b (m:Bs) (q:Option Bs) (b:Adr):Way×Option Bs:=
 if z0h (z0l (z0v m)).1 then(z0M sFile [] m,q)
 else if m.head? =some 47 then(z0M sFile (z13 b.way.segs) m,q)
 else z2X sFile m q b
end Go.Moor
namespace Go.Proofs
open Go.RowKit Go.Moor Go.Proofs.Tryz
theorem zcq (a:Adr) (v:Value) (w:World) (hv:z1f w v a.way.segs) (hx:∀x∈a.way.segs,x.length≤1000000):Calls Tryz.prog 303 #[.agg (z0f a v)] w fun e w'=>(∃u,e=.returned u∧z1f w u (z13 a.way.segs)∧(∀g n c,u=.slice (some ⟨g,0,none⟩) n c→∃n2 c2,v=.slice (some ⟨g,0,none⟩) n2 c2))∧Below w.heap.size w w':=by
 obtain⟨sc,⟨us,pa,ha,ho,po⟩,⟨op,tx,segs⟩,qu,fr⟩:=a;unfold z0f;simp only at hv hx⊢;have HB:Hid (∀o:Obj,Below w.heap.size w (w.alloc o)):=fun o=>(Below.refl _ _).alloc (Nat.le_refl _) o;obtain⟨⟨sp,cap,rfl,hnc,hcm,hf⟩,htag⟩:=hv;unfold maxLen at hcm;generalize qu.isSome=q1 at*;generalize qu.getD []=q2 at*;generalize fr.isSome=f1 at*;generalize fr.getD []=f2 at*;have hnil:z1f w (.slice none 0 0) []:=⟨⟨none,0,rfl,Nat.le_refl _,Nat.zero_le _,fun h=>absurd rfl h⟩,fun g n c h=>by cases h⟩;match segs,hnc,hf,hx,htag with
 | [],hnc,_,_,_=>have HE:Hid (z1f w (.slice none 0 0) (z13 [])):=hnil;clear hnil;show Calls Tryz.prog _ #[.agg #[_,_,_,_,_,_,_,_,.slice sp 0 cap,_,_,_,_]] w _;go_enter Tryz.func303,Tryz.ntmps303;go_wp2;go_ret;exact⟨⟨_,rfl,HE,fun g n c h=>by cases h⟩,HB _⟩
 |x::r,hnc,hf,hx,htag=>
  obtain⟨g,rfl,hc⟩:=hf (by simp);have hcx:=hc 0 x rfl;have hgz:=z82 hcx;have HI:=hI fun w1=>z8n x w1 (by have:=hx x (by simp);omega);have hc1:1≤cap:=by simp at hnc;omega
  cases ht:z15 x with
  |true=>
   have HE:Hid (z1f w (.slice (some ⟨g,0,none⟩) 1 cap) (z13 (x::r))):=by
    have e1:z13 (x::r)=[x]:=(by unfold z13;rw[if_pos ⟨by simp,ht⟩];rfl);show z1f _ _ _;rw[e1];refine⟨⟨some ⟨g,0,none⟩,cap,rfl,hc1,by unfold maxLen;omega,fun _=>⟨g,rfl,fun j y hy=>?_⟩⟩,fun g2 n2 c2 h=>by injection h with h _ _;injection h with h;injection h with h _;subst h;exact htag _ _ _ rfl⟩;cases j with
    |zero=>simp at hy;subst hy;exact hcx
    |succ j=>simp at hy
   rw[ht] at HI;clear ht hf hc hx hnil htag;show Calls Tryz.prog _ #[.agg #[_,_,_,_,_,_,_,_,.slice (some ⟨g,0,none⟩) (r.length+1) cap,_,_,_,_]] w _;have hr1:r.length+1≤cap:=hnc;go_enter Tryz.func303,Tryz.ntmps303;go_wp2_with fail;refine(HI _).mono ?_;rintro e w' ⟨rfl,hw0⟩;obtain rfl:=hw0.symm;go_wp2;go_ret;exact⟨⟨_,rfl,HE,fun g2 n c h=>by injection h with h _ _;injection h with h;injection h with h _;subst h;exact⟨_,_,rfl⟩⟩,HB _⟩
  |false=>have HE:Hid (z1f w (.slice none 0 0) (z13 (x::r))):=(by have e1:z13 (x::r)=[]:=(by unfold z13;rw[if_neg (by simp[ht])]);show z1f _ _ _;rw[e1];exact hnil);rw[ht] at HI;clear ht hf hc hx hnil htag;show Calls Tryz.prog _ #[.agg #[_,_,_,_,_,_,_,_,.slice (some ⟨g,0,none⟩) (r.length+1) cap,_,_,_,_]] w _;have hr1:r.length+1≤cap:=hnc;go_enter Tryz.func303,Tryz.ntmps303;go_wp2_with fail;refine(HI _).mono ?_;rintro e w' ⟨rfl,hw0⟩;obtain rfl:=hw0.symm;go_wp2;go_ret;exact⟨⟨_,rfl,HE,fun g2 n c h=>by cases h⟩,HB _⟩
def z6X (k:Nat) (sc:Bs) (c1 c2 c3 c4 c5 c11 c12:Value) (p:Moor.Way×Option Bs) (w':World):Prop:=
 ∃v,w'.heap[k]?=some (.cells #[.string ⟨sc.toArray⟩,c1,c2,c3,c4,c5,.bool p.1.opaq,.string ⟨p.1.text.toArray⟩,v,.bool p.2.isSome,.string ⟨(p.2.getD []).toArray⟩,c11,c12] 77 (0,0))∧z1f w' v p.1.segs
theorem zfU {w:World} {sp:Option Go.Addr} {n cap:Nat} {segs:List Bs} (h:z1f w (.slice sp n cap) segs):n=segs.length∧(segs≠[]→∃g,sp=some ⟨g,0,none⟩∧∀(j:Nat) x,segs[j]?=some x→w.cell? ⟨g,j,none⟩=some (.string ⟨x.toArray⟩)):=by obtain⟨⟨sp2,cap2,he,_,_,hf⟩,_⟩:=h;injection he with e1 e2 e3;subst e1;exact⟨e2,hf⟩
theorem zhp (m:Bs):Lib.trimPrefix m [47]=z0v m:=by
 unfold Lib.trimPrefix z0v Lib.hasPrefix;cases m with
 |nil=>rfl
 |cons c m=>
  by_cases hc:c=47
  ·subst hc;simp
  ·have:List.isPrefixOf [47] (c::m)=false:=by simp[List.isPrefixOf];exact fun h=>hc h.symm
   rw[this];simp only[Bool.false_eq_true,if_false];split
   ·rename_i h;injection h with h _;exact absurd h hc
   ·rfl
theorem zcV (m:Bs):Lib.hasPrefix m [47]=decide (m.head? =some 47):=by
 cases m with
 |nil=>rfl
 |cons c m=>
  simp only[Lib.hasPrefix,List.isPrefixOf,Bool.and_true,List.head?_cons];by_cases hc:c=47
  ·subst hc;rfl
  ·have:((47:UInt8)==c)=false:=by rw[beq_eq_false_iff_ne];exact fun h=>hc h.symm
   rw[this];simp[hc]
theorem zdA (m:Bs):(z0v m).length≤m.length:=by
 unfold z0v;split
 ·simp
 ·exact Nat.le_refl _
theorem z7q (k:Nat) (m:Bs) (q:Option Bs) (b:Adr) (bv:Value) (c1 c2 c3 c4 c5 c6 c7 c8 c11 c12:Value) (w:World) (hm:m.length≤100000) (hk:w.heap[k]?=some (.cells #[.string ⟨sFile.toArray⟩,c1,c2,c3,c4,c5,c6,c7,c8,.bool q.isSome,.string ⟨(q.getD []).toArray⟩,c11,c12] 77 (0,0))) (hb:z1f w bv b.way.segs) (hoff:z6Y k bv) (hbl:b.way.segs.length≤1000000) (hbx:∀x∈b.way.segs,x.length≤1000000) (henv:Tryz.Env2 w):Calls Tryz.prog 279 #[.pointer (some ⟨k,0,none⟩),.string ⟨m.toArray⟩,.agg (z0f b bv)] w fun e w'=>e=.returned (.tuple #[])∧But k w w'∧z6X k sFile c1 c2 c3 c4 c5 c11 c12 (z3b m q b) w':=by
 have hkz:=(Array.getElem?_eq_some_iff.1 hk).1;have HCP:=hI fun w1=>by
  have:=Tryz.strings_CutPrefix ⟨m.toArray⟩ ⟨#[47]⟩ w1;rw[show(⟨#[47]⟩:ByteArray).data.toList=[47] from rfl,show(⟨m.toArray⟩:ByteArray).data.toList=m from rfl,zhp,zcV] at this;exact this
 have HBD:Hid (∀w1,Calls Tryz.prog 302 #[.string ⟨(z0v m).toArray⟩] w1 fun e w'=>e=.returned (.bool (z0h (z0l (z0v m)).1))∧Below w1.heap.size w1 w'):=fun w1=>by
  refine(z5z (z0v m) w1 (by have:=zdA m;omega)).mono ?_;rintro e w' ⟨rfl,n,rfl⟩;exact⟨rfl,z4l _ _ _⟩
 have HRP:Hid (∀(begun:List Bs) (sp:Option Go.Addr) (cap:Nat) w1,Below w.heap.size w w1→z1f w1 (.slice sp begun.length cap) begun→begun.length≤1000000→(∀x∈begun,x.length≤1000000)→Calls Tryz.prog 163 #[.pointer (some ⟨k,0,none⟩),.slice sp begun.length cap,.string ⟨m.toArray⟩] w1 fun e w'=>e=.returned (.tuple #[])∧But k w w'∧z6X k sFile c1 c2 c3 c4 c5 c11 c12 (z0M sFile begun m,q) w'):=by intro begun sp cap w1 h1 hs hl hx;refine(z35 k sFile m c1 c2 c3 c4 c5 c6 c7 c8 _ _ c11 c12 sp cap begun w1 hm hl hx ((h1.block k hkz).trans hk) (zfU hs).2 (henv.below h1)).mono ?_;rintro e w' ⟨rfl,hb',v,h2,h3⟩;exact⟨rfl,(But.of_below h1).trans hb',v,h2,z5n h3⟩
 have HDR:Hid (∀w1,Below w.heap.size w w1→Calls Tryz.prog 303 #[.agg (z0f b bv)] w1 fun e w'=>(∃sp cap,e=.returned (.slice sp (z13 b.way.segs).length cap)∧z1f w' (.slice sp (z13 b.way.segs).length cap) (z13 b.way.segs))∧Below w.heap.size w w'):=by intro w1 h1;refine(zcq b bv w1 (z19 hb h1) hbx).mono ?_;rintro e w' ⟨⟨u,rfl,hu,_⟩,hb'⟩;have hu2:=z19 hu hb';obtain⟨⟨sp,cap,rfl,_,_,_⟩,_⟩:=hu;exact⟨⟨sp,cap,rfl,hu2⟩,h1.trans (hb'.mono h1.size)⟩
 have HGO:Hid (∀w1,Below w.heap.size w w1→Calls Tryz.prog 280 #[.pointer (some ⟨k,0,none⟩),.string ⟨m.toArray⟩,.agg (z0f b bv)] w1 fun e w'=>e=.returned (.tuple #[])∧But k w w'∧z6X k sFile c1 c2 c3 c4 c5 c11 c12 (z2X sFile m q b) w'):=by intro w1 h1;refine(zdC k sFile m q b bv c1 c2 c3 c4 c5 c6 c7 c8 c11 c12 w1 hm ((h1.block k hkz).trans hk) (z19 hb h1) hoff hbl hbx (henv.below h1)).mono ?_;rintro e w' ⟨rfl,hb',hv⟩;exact⟨rfl,(But.of_below h1).trans hb',hv⟩
 have HNIL:Hid (∀w1:World,z1f w1 (.slice none 0 0) []):=fun w1=>⟨⟨none,0,rfl,Nat.le_refl _,Nat.zero_le _,fun h=>absurd rfl h⟩,fun g n c h=>by cases h⟩;have HDL:Hid ((z13 b.way.segs).length≤1000000∧∀x∈z13 b.way.segs,x.length≤1000000):=by
  unfold z13;split
  ·exact⟨by simp;omega,fun x hx=>hbx x (List.mem_of_mem_take hx)⟩
  ·exact⟨by simp,fun x hx=>by cases hx⟩
 have HE:Hid (z3b m q b=if z0h (z0l (z0v m)).1 then(z0M sFile [] m,q) else if m.head? =some 47 then(z0M sFile (z13 b.way.segs) m,q) else z2X sFile m q b):=rfl;have HAL:Hid (∀o:Obj,Below w.heap.size w (w.alloc o)):=fun o=>(Below.refl _ _).alloc (Nat.le_refl _) o;generalize hcell:z0f b bv=AC at*;have hAC:∃x0 x1 x2 x3 x4 x5 x6 x7 x8 x9 x10 x11 x12,AC=#[x0,x1,x2,x3,x4,x5,x6,x7,x8,x9,x10,x11,x12]:=⟨_,_,_,_,_,_,_,_,_,_,_,_,_,hcell.symm⟩;obtain⟨x0,x1,x2,x3,x4,x5,x6,x7,x8,x9,x10,x11,x12,rfl⟩:=hAC;clear hk henv hb hbl hbx hm hoff hcell;cases hd:z0h (z0l (z0v m)).1 with
 |true=>
  have HE2:Hid (z3b m q b=(z0M sFile [] m,q)):=by show _=_;rw[HE.out,if_pos hd]
  rw[hd] at HBD;clear hd HE;generalize z0v m=tm at*;generalize decide (m.head? =some 47)=h47 at*;go_enter Tryz.func279,Tryz.ntmps279;go_wp2_with fail;refine(HCP _).mono ?_;rintro e w1 ⟨rfl,hw1⟩;obtain rfl:=hw1.symm;go_wp2_with fail;refine(HBD _).mono ?_;rintro e w2 ⟨rfl,b2⟩;have hb2:=(HAL _).trans (b2.mono (by simp));have HRP2:=HRP [] none 0 w2 hb2 (HNIL w2) (by simp) (by simp);have HRP3:Hid _:=HRP2;clear HRP2 b2 hb2;go_wp2_with fail;refine Calls.mono HRP3 ?_;rintro e w3 ⟨rfl,hb3,hr3⟩;have HF:Hid _:=And.intro hb3 hr3;clear hb3 hr3;go_wp2;rw[HE2.out];exact bodyPost_end (v:=.tuple #[]) (z3J rfl _ _ _) rfl ⟨rfl,HF.out.1,HF.out.2⟩
 |false=>
  rw[hd] at HBD;by_cases h47:m.head? =some 47
  ·have HE2:Hid (z3b m q b=(z0M sFile (z13 b.way.segs) m,q)):=by show _=_;rw[HE.out,if_neg (by simp[hd]),if_pos h47]
   rw[decide_eq_true h47] at HCP;clear hd HE h47;generalize z0v m=tm at*;go_enter Tryz.func279,Tryz.ntmps279;go_wp2_with fail;refine(HCP _).mono ?_;rintro e w1 ⟨rfl,hw1⟩;obtain rfl:=hw1.symm;go_wp2_with fail;refine(HBD _).mono ?_;rintro e w2 ⟨rfl,b2⟩;have hb2:=(HAL _).trans (b2.mono (by simp));have hcl:=(b2.block w.heap.size (by simp)).trans (z0K w _ _);have y0:w2.cell? ⟨w.heap.size,0,none⟩=some x0:=z00 hcl 0;have y1:w2.cell? ⟨w.heap.size,1,none⟩=some x1:=z00 hcl 1;have y2:w2.cell? ⟨w.heap.size,2,none⟩=some x2:=z00 hcl 2;have y3:w2.cell? ⟨w.heap.size,3,none⟩=some x3:=z00 hcl 3;have y4:w2.cell? ⟨w.heap.size,4,none⟩=some x4:=z00 hcl 4;have y5:w2.cell? ⟨w.heap.size,5,none⟩=some x5:=z00 hcl 5;have y6:w2.cell? ⟨w.heap.size,6,none⟩=some x6:=z00 hcl 6;have y7:w2.cell? ⟨w.heap.size,7,none⟩=some x7:=z00 hcl 7;have y8:w2.cell? ⟨w.heap.size,8,none⟩=some x8:=z00 hcl 8;have y9:w2.cell? ⟨w.heap.size,9,none⟩=some x9:=z00 hcl 9;have y10:w2.cell? ⟨w.heap.size,10,none⟩=some x10:=z00 hcl 10;have y11:w2.cell? ⟨w.heap.size,11,none⟩=some x11:=z00 hcl 11;have y12:w2.cell? ⟨w.heap.size,12,none⟩=some x12:=z00 hcl 12;have HB2:=hI hb2;clear b2 hb2 hcl;go_wp2_with fail;refine(HDR w2 HB2).mono ?_;rintro e w3 ⟨⟨sp,cap,rfl,hs3⟩,b3⟩;have HRP3:Hid _:=HRP (z13 b.way.segs) sp cap w3 b3 hs3 HDL.out.1 HDL.out.2;clear hs3 b3 y0 y1 y2 y3 y4 y5 y6 y7 y8 y9 y10 y11 y12;go_wp2_with fail;refine Calls.mono HRP3 ?_;rintro e w4 ⟨rfl,hb4,hr4⟩;have HF:Hid _:=And.intro hb4 hr4;clear hb4 hr4;go_wp2;rw[HE2.out];exact bodyPost_end (v:=.tuple #[]) (z3J rfl _ _ _) rfl ⟨rfl,HF.out.1,HF.out.2⟩
  ·have HE2:Hid (z3b m q b=z2X sFile m q b):=by show _=_;rw[HE.out,if_neg (by simp[hd]),if_neg h47]
   rw[decide_eq_false h47] at HCP;clear hd HE h47;generalize z0v m=tm at*;go_enter Tryz.func279,Tryz.ntmps279;go_wp2_with fail;refine(HCP _).mono ?_;rintro e w1 ⟨rfl,hw1⟩;obtain rfl:=hw1.symm;go_wp2_with fail;refine(HBD _).mono ?_;rintro e w2 ⟨rfl,b2⟩;have hb2:=(HAL _).trans (b2.mono (by simp));have hcl:=(b2.block w.heap.size (by simp)).trans (z0K w _ _);have y0:w2.cell? ⟨w.heap.size,0,none⟩=some x0:=z00 hcl 0;have y1:w2.cell? ⟨w.heap.size,1,none⟩=some x1:=z00 hcl 1;have y2:w2.cell? ⟨w.heap.size,2,none⟩=some x2:=z00 hcl 2;have y3:w2.cell? ⟨w.heap.size,3,none⟩=some x3:=z00 hcl 3;have y4:w2.cell? ⟨w.heap.size,4,none⟩=some x4:=z00 hcl 4;have y5:w2.cell? ⟨w.heap.size,5,none⟩=some x5:=z00 hcl 5;have y6:w2.cell? ⟨w.heap.size,6,none⟩=some x6:=z00 hcl 6;have y7:w2.cell? ⟨w.heap.size,7,none⟩=some x7:=z00 hcl 7;have y8:w2.cell? ⟨w.heap.size,8,none⟩=some x8:=z00 hcl 8;have y9:w2.cell? ⟨w.heap.size,9,none⟩=some x9:=z00 hcl 9;have y10:w2.cell? ⟨w.heap.size,10,none⟩=some x10:=z00 hcl 10;have y11:w2.cell? ⟨w.heap.size,11,none⟩=some x11:=z00 hcl 11;have y12:w2.cell? ⟨w.heap.size,12,none⟩=some x12:=z00 hcl 12;have HGO2:Hid _:=HGO w2 hb2;clear b2 hb2 hcl;go_wp2_with fail;refine Calls.mono HGO2 ?_;rintro e w3 ⟨rfl,hb3,hr3⟩;have HF:Hid _:=And.intro hb3 hr3;clear hb3 hr3;go_wp2;rw[HE2.out];exact bodyPost_end (v:=.tuple #[]) (z3J rfl _ _ _) rfl ⟨rfl,HF.out.1,HF.out.2⟩
def Tryz.BaseOk (w:World) (k:Nat) (p:Option Go.Addr) (ob:Option Adr):Prop:=
 match ob with
 |none=>p=none
 |some b=>∃kb bv,p=some ⟨kb,0,none⟩∧kb≠k∧w.heap[kb]?=some (.cells (z0f b bv) 77 (0,0))∧z1f w bv b.way.segs∧z6Y k bv∧b.way.segs.length≤1000000∧∀x∈b.way.segs,x.length≤1000000
theorem Tryz.BaseOk.but {w w':World} {k:Nat} {p:Option Go.Addr} {ob:Option Adr} (h:Tryz.BaseOk w k p ob) (hb:But k w w'):Tryz.BaseOk w' k p ob:=by
 cases ob with
 |none=>exact h
 |some b=>obtain⟨kb,bv,h1,h2,h3,h4,h5,h6,h7⟩:=h;exact⟨kb,bv,h1,h2,(hb.block kb (Array.getElem?_eq_some_iff.1 h3).1 h2).trans h3,z3x h4 hb h5,h5,h6,h7⟩
theorem Tryz.BaseOk.below {w w':World} {k:Nat} {p:Option Go.Addr} {ob:Option Adr} (h:Tryz.BaseOk w k p ob) (hb:Below w.heap.size w w'):Tryz.BaseOk w' k p ob:=h.but (But.of_below hb)
def z5e (k:Nat) (w':World):Prop:=∃cs:Array Value,w'.heap[k]?=some (.cells cs 77 (0,0))∧cs.size=13∧cs.all (·.oneCell')=true
theorem z4N (c0 c1 c2 c3 c4 c5 c6 c7 c8 c9 c10 c11 c12:Value) (h:(c0.oneCell'&&c1.oneCell'&&c2.oneCell'&&c3.oneCell'&&c4.oneCell'&&c5.oneCell'&&c6.oneCell'&&c7.oneCell'&&c8.oneCell'&&c9.oneCell'&&c10.oneCell'&&c11.oneCell'&&c12.oneCell')=true):(#[c0,c1,c2,c3,c4,c5,c6,c7,c8,c9,c10,c11,c12]:Array Value).all (·.oneCell')=true:=by simp only[Bool.and_eq_true] at h;simp[h]
def z41 (k:Nat) (sc:Bs) (c11 c12:Value) (o:Except Int (Auth×Moor.Way×Option Bs)) (e:Ending) (w':World):Prop:=
 match o with
 | .error n=>∃x y te ve,e=.returned (.iface 96 (.agg #[.int .i64 n,.string x,.string y,.iface te ve]))
 | .ok (a,y,q)=>e=.returned .nilIface∧∃v,w'.heap[k]?=some (.cells #[.string ⟨sc.toArray⟩,.string ⟨a.user.toArray⟩,.string ⟨a.pass.toArray⟩,.bool a.has,.string ⟨a.host.toArray⟩,.int .i64 a.port,.bool y.opaq,.string ⟨y.text.toArray⟩,v,.bool q.isSome,.string ⟨(q.getD []).toArray⟩,c11,c12] 77 (0,0))∧z1f w' v y.segs
theorem zlY {k:Nat} {sc:Bs} {c11 c12:Value} {o:Except Int (Auth×Moor.Way×Option Bs)} {e:Ending} {w':World} (h:z41 k sc c11 c12 o e w'):∃v,e=.returned v:=by
 cases o with
 |error n=>obtain⟨x,y,te,ve,rfl⟩:=h;exact⟨_,rfl⟩
 |ok p=>obtain⟨a,y,q⟩:=p;obtain⟨rfl,_⟩:=h;exact⟨_,rfl⟩
theorem zaO {k:Nat} {sc:Bs} {c1 c2 c3 c5 c9 c10 c11 c12:Value} {B:Nat} {o:Except Int (Value×List Bs)} {e:Ending} {w':World} (h:z5A k sc c1 c2 c3 c5 c9 c10 c11 c12 B o e w'):∃v,e=.returned v:=by
 cases o with
 |error n=>obtain⟨x,y,te,ve,rfl⟩:=h;exact⟨_,rfl⟩
 |ok p=>obtain⟨a,y⟩:=p;obtain⟨rfl,_⟩:=h;exact⟨_,rfl⟩
theorem zkf (k:Nat) (m:Bs) (q:Option Bs) (ob:Option Adr) (bp:Option Go.Addr) (c6 c7 c8 c11 c12:Value) (w:World) (hm:m.length≤100000) (hk:w.heap[k]?=some (.cells #[.string ⟨sFile.toArray⟩,.string ⟨#[]⟩,.string ⟨#[]⟩,.bool false,.string ⟨#[]⟩,.int .i64 (-1),c6,c7,c8,.bool q.isSome,.string ⟨(q.getD []).toArray⟩,c11,c12] 77 (0,0))) (h1c:(c6.oneCell'&&c7.oneCell'&&c8.oneCell'&&c11.oneCell'&&c12.oneCell')=true) (hkg:29≤k) (hbase:Tryz.BaseOk w k bp ob) (henv:Tryz.Env2 w):Calls Tryz.prog 244 #[.pointer (some ⟨k,0,none⟩),.string ⟨m.toArray⟩,.pointer bp] w fun e w'=>But k w w'∧z41 k sFile c11 c12 (z1Q hostTell m q ob) e w'∧(∀n,z1Q hostTell m q ob=.error n→z5e k w'):=by
 have hkz:=(Array.getElem?_eq_some_iff.1 hk).1;have j3:w.cell? ⟨k,3,none⟩=some (.bool false):=z00 hk 3;have i3:=z04 hk 3;have g3:=heap_setCell_same w k 3 _ 77 (.bool true) hk;obtain⟨W,hW⟩:=z09 (w.setCell ⟨k,3,none⟩ (.bool true));rw[←hW] at g3;have H13:Hid (z5e k W):=⟨_,g3,rfl,z4N _ _ _ _ _ _ _ _ _ _ _ _ _ (by simp only[Bool.and_eq_true] at h1c;obtain⟨⟨⟨⟨a6,a7⟩,a8⟩,a11⟩,a12⟩:=h1c;rw[a6,a7,a8,a11,a12];rfl)⟩;clear h1c;have hBU:But k w W:=by rw[hW];exact(But.of_below (Below.refl _ _)).setCell 3 _
 have HBU:=hI hBU;have hVW:=henv.but hBU hkg;have HCP:=hI (Tryz.strings_CutPrefix ⟨m.toArray⟩ ⟨#[47,47]⟩ W);cases h2:List.isPrefixOf [47,47] m with
 |true=>
  have ht:Lib.trimPrefix m [47,47]=m.drop 2:=by unfold Lib.trimPrefix;rw[z50,h2];rfl
  rw[ht,z50,h2] at HCP;have HE:Hid (z1Q hostTell m q ob=match z40 sFile (m.drop 2) (.string ⟨#[]⟩) with| .error n=>.error n| .ok p=>.ok (z1P (if z0h (z0l (m.drop 2)).1 then [] else((z1v hostTell (z0l (m.drop 2)).1).getD [])),⟨false,[],p.2⟩,q)):=by
   show _=_;unfold z1Q z40;rw[if_pos h2];simp only;cases hd:z0h (z0l (m.drop 2)).1 with
   |true=>rfl
   |false=>
    simp only[Bool.false_eq_true,if_false];cases hfh:z1v hostTell (z0l (m.drop 2)).1 with
    |none=>rfl
    |some h=>rfl
  have HFH:=hI (z81 k sFile (m.drop 2) _ _ _ _ _ c6 c7 c8 _ _ c11 c12 W (by rw[List.length_drop];omega) g3 hkg hVW);clear h2 ht hk henv g3 hVW hBU hbase;go_enter Tryz.func244,Tryz.ntmps244;go_wp2_with fail;rw[←hW];refine HCP.out.mono ?_;rintro e w1 ⟨rfl,hw0⟩;obtain rfl:=hw0.symm;clear hW;go_wp2_with fail;refine HFH.out.mono ?_;rintro e w2 ⟨hb,hr,hx⟩;obtain⟨ev,rfl⟩:=zaO hr;have HX:Hid (∀n,z1Q hostTell m q ob=.error n→z5e k w2):=by
   intro n hn;rw[HE.out] at hn;cases hfr:z40 sFile (m.drop 2) (.string ⟨#[]⟩) with
   |error n2=>obtain⟨cs,h1,h2⟩:=H13;exact⟨cs,(hx n2 hfr).trans h1,h2⟩
   |ok p=>rw[hfr] at hn;cases hn
  have HF:Hid (z41 k sFile c11 c12 (z1Q hostTell m q ob) (.returned ev) w2):=by
   show z41 _ _ _ _ _ _ _;rw[HE.out];unfold z40 at hr⊢;cases hd:z0h (z0l (m.drop 2)).1 with
   |true=>rw[hd] at hr;obtain⟨h1,v,h3,h4⟩:=hr;exact⟨h1,v,h3,z5n h4⟩
   |false=>
    rw[hd] at hr;simp only[Bool.false_eq_true,if_false] at hr⊢;cases hfh:z1v hostTell (z0l (m.drop 2)).1 with
    |none=>rw[hfh] at hr;exact hr
    |some h=>rw[hfh] at hr;obtain⟨h1,v,h3,h4⟩:=hr;exact⟨h1,v,h3,z5n h4⟩
  have HB:=hI (HBU.out.trans hb);clear hr hb hx;go_wp2;go_ret;exact⟨HB,HF,HX⟩
 |false=>
  rw[z50,h2] at HCP;cases ob with
  |none=>have hbp:bp=none:=hbase;subst hbp;have HE:Hid (z1Q hostTell m q none=.ok (z1P [],z0M sFile [] m,q)):=(by show _=_;unfold z1Q;rw[if_neg (by simp[h2])]);have HRP:Hid (Calls Tryz.prog 163 #[.pointer (some ⟨k,0,none⟩),.slice none 0 0,.string ⟨m.toArray⟩] W fun e w'=>e=.returned (.tuple #[])∧But k W w'∧∃v,w'.heap[k]?=some (.cells #[.string ⟨sFile.toArray⟩,.string ⟨#[]⟩,.string ⟨#[]⟩,.bool true,.string ⟨#[]⟩,.int .i64 (-1),.bool false,.string ⟨#[]⟩,v,.bool q.isSome,.string ⟨(q.getD []).toArray⟩,c11,c12] 77 (0,0))∧w'.ownsRow W.heap.size 9 1 v (z0z sFile [] m).length (z1J (z0z sFile [] m))):=z35 k sFile m _ _ _ _ _ c6 c7 c8 _ _ c11 c12 none 0 [] W hm (by simp) (by simp) g3 (by simp) hVW;clear h2 hk henv g3 hVW hBU hbase;generalize Lib.trimPrefix m [47,47]=tp at*;go_enter Tryz.func244,Tryz.ntmps244;go_wp2_with fail;rw[←hW];refine HCP.out.mono ?_;rintro e w1 ⟨rfl,hw0⟩;obtain rfl:=hw0.symm;clear hW;go_wp2_with fail;refine HRP.out.mono ?_;rintro e w2 ⟨rfl,hb,v,h3,h4⟩;have HF:Hid (z41 k sFile c11 c12 (.ok (z1P [],z0M sFile [] m,q)) (.returned .nilIface) w2):=⟨rfl,v,h3,z5n h4⟩;have HB:=hI (HBU.out.trans hb);clear h3 h4 hb;go_wp2;go_ret;rw[HE.out];exact⟨HB,HF,fun n h=>by cases h⟩
  |some b=>
   have hbW:=hbase.but hBU;obtain⟨kb,bv,rfl,hkb,hcl,hsr,hoff,hbl,hbx⟩:=hbW;have HE:Hid (z1Q hostTell m q (some b)=.ok (z1P b.auth.host,(z3b m q b).1,(z3b m q b).2)):=by
    show _=_;unfold z1Q z3b;rw[if_neg (by simp[h2])];simp only;cases hd:z0h (z0l (z0v m)).1 with
    |true=>rfl
    |false=>simp only[Bool.false_eq_true,if_false];split<;>rfl
   have hwkb:=hcl;have b4:W.cell? ⟨kb,4,none⟩=some (.string ⟨b.auth.host.toArray⟩):=z00 hcl 4;have k4:W.cell? ⟨k,4,none⟩=some (.string ⟨#[]⟩):=z00 g3 4;have f4:=z04 g3 4;have g4:=heap_setCell_same W k 4 _ 77 (.string ⟨b.auth.host.toArray⟩) g3;obtain⟨V,hV⟩:=z09 (W.setCell ⟨k,4,none⟩ (.string ⟨b.auth.host.toArray⟩));rw[←hV] at g4;have hBV:But k W V:=(by rw[hV];exact(But.of_below (Below.refl _ _)).setCell 4 _);have hclV:=(hBV.block kb (Array.getElem?_eq_some_iff.1 hcl).1 hkb).trans hcl;have HRB:=hI (z7q k m q b bv _ _ _ _ _ c6 c7 c8 c11 c12 V hm g4 (z3x hsr hBV hoff) hoff hbl hbx (hVW.but hBV hkg));have HBV:=hI (HBU.out.trans hBV);generalize hcell:z0f b bv=AC at*;have hAC:∃x0 x1 x2 x3 x4 x5 x6 x7 x8 x9 x10 x11 x12,AC=#[x0,x1,x2,x3,x4,x5,x6,x7,x8,x9,x10,x11,x12]:=⟨_,_,_,_,_,_,_,_,_,_,_,_,_,hcell.symm⟩;obtain⟨x0,x1,x2,x3,x4,x5,x6,x7,x8,x9,x10,x11,x12,rfl⟩:=hAC;have y0:W.cell? ⟨kb,0,none⟩=some x0:=z00 hcl 0;have y1:W.cell? ⟨kb,1,none⟩=some x1:=z00 hcl 1;have y2:W.cell? ⟨kb,2,none⟩=some x2:=z00 hcl 2;have y3:W.cell? ⟨kb,3,none⟩=some x3:=z00 hcl 3;have y4:W.cell? ⟨kb,4,none⟩=some x4:=z00 hcl 4;have y5:W.cell? ⟨kb,5,none⟩=some x5:=z00 hcl 5;have y6:W.cell? ⟨kb,6,none⟩=some x6:=z00 hcl 6;have y7:W.cell? ⟨kb,7,none⟩=some x7:=z00 hcl 7;have y8:W.cell? ⟨kb,8,none⟩=some x8:=z00 hcl 8;have y9:W.cell? ⟨kb,9,none⟩=some x9:=z00 hcl 9;have y10:W.cell? ⟨kb,10,none⟩=some x10:=z00 hcl 10;have y11:W.cell? ⟨kb,11,none⟩=some x11:=z00 hcl 11;have y12:W.cell? ⟨kb,12,none⟩=some x12:=z00 hcl 12;have hkb2:k≠kb:=fun h=>hkb h.symm;clear b4;have b4:(Value.string ⟨b.auth.host.toArray⟩)=x4:=(by simp only[z0f,Array.mk.injEq,List.cons.injEq] at hcell;exact hcell.2.2.2.2.1);subst b4;clear h2 hk henv g3 hVW hBU hbase hcl hsr hoff hbl hbx hclV hBV hcell hwkb g4;generalize Lib.trimPrefix m [47,47]=tp at*;generalize hhost:(⟨b.auth.host.toArray⟩:ByteArray)=host at*;have HH:=hI hhost;clear hhost;go_enter Tryz.func244,Tryz.ntmps244;go_wp2_with fail;rw[←hW];refine HCP.out.mono ?_;rintro e w1 ⟨rfl,hw0⟩;obtain rfl:=hw0.symm;clear hW;go_wp2_with fail;rw[←hV];clear hV;refine Calls.mono HRB ?_;rintro e w2 ⟨rfl,hb,hr⟩;have HF:Hid (But k w w2∧z41 k sFile c11 c12 (.ok (z1P b.auth.host,(z3b m q b).1,(z3b m q b).2)) (.returned .nilIface) w2):=(by refine⟨HBV.out.trans hb,rfl,?_⟩;rw[←HH.out] at hr;exact hr);clear hb hr;go_wp2;go_ret;rw[HE.out];exact⟨HF.out.1,HF.out.2,fun n h=>by cases h⟩
end Go.Proofs
