import Derived.Test.YtkcnageeamappaaGreatDoorXU9
set_option maxHeartbeats 32000000
set_option maxRecDepth 8000
set_option linter.unusedSimpArgs false
namespace Go.Proofs
open Go.RowKit Go.Moor Go.Proofs.Tryz Go.Moor
theorem tu (p:UInt8->Bool) (l:Bs) (a b:Nat) (o:a<=b) (k:∀i (h:i<l.length),a<=i->i<b->p l[i]=true) (m:b<=l.length) (d:b=l.length\/∃h:b<l.length,p l[b]=false):(l.drop a).takeWhile p=(l.drop a).take (b- a)/\(l.drop a).dropWhile p=l.drop b:=by
 have c:l.drop a=(l.drop a).take (b- a)++l.drop b:=by conv=>lhs;rw[<-la (b- a) (l.drop a),fQ,show a+(b- a)=b by omega]
 have g:∀x∈(l.drop a).take (b- a),p x=true:=by intro x e;obtain⟨i,f,rfl⟩:=List.mem_iff_getElem.1 e;rw[cL,cm] at f;rw[BZ,qD];exact k (a+i) (by omega) (by omega) (by omega)
 have j:(l.drop b).takeWhile p=[]/\(l.drop b).dropWhile p=l.drop b:=by
  rcases d with h|⟨h,n⟩
  .rw[h,im .refl]
   exact⟨rfl,rfl⟩
  .grind[List.drop_eq_getElem_cons,List.takeWhile_cons,List.dropWhile_cons]
 constructor
 .grind[List.takeWhile_append_of_pos]
 .conv=>lhs;rw[c]
  rw[oe g,j.2]
theorem zJ (l:Bs) (b:Nat) (h:b<l.length):eu (l.drop b)=cY l[b]:=by rw[ch h];rfl
theorem Ln:∀c:Fin 256,¬c.val=32->dd [c.val.toUInt8]=ah 0 [c.val.toUInt8]:=by decide+kernel
theorem Lo (c:UInt8) (h:¬c=32):dd [c]=ah 0 [c]:=by have:=Ln ⟨c.toNat,c.toNat_lt⟩ (λe=>h (cU.1 e));simpa using this
theorem Lp (x y:Bs):dd (x++y)=dd x++dd y:=by simp[dd,ah]
theorem Lq (x:Bs):(dd x).length<=9*x.length:=by
 have a:∀l:Bs,(l.flatMap λc=>if c=32 then [37,50,48] else [c]).length<=3*l.length:=by
  intro l;induction l with
  |nil=>simp
  |cons c l d=>grind
 have b:=iT 0 x;have e:=a (ah 0 x);unfold dd;omega
theorem Tryz.Mem.opq {B R k j:Nat} {c:Value} {s:ByteArray} {w0 w:World} {u:Adr} {b:Value} {a g d:Int} (h:Mem B R k j c s w0 u b a g d w) (x:Bs):Mem B R k j c s w0 {u with w:=⟨true,x,[]⟩} (.slice (some ⟨w.heap.size,0,none⟩) 1 1) a g d (((w.setCell ⟨j,6,none⟩ (.bool true)).setCell ⟨j,7,none⟩ (.slice (some ⟨w.heap.size,0,none⟩) 1 1)).alloc (.cells #[.string ⟨x.toArray⟩] 9)):=by
 have hz:((w.setCell (Ad j 6) (.bool true)).setCell (Ad j 7) (.slice (some (Ad w.heap.size 0)) 1 1)).heap.size=w.heap.size:=by simp
 have n:=h.jz;have l:=h.kz;have f:=aD w j 6 _ _ (.bool true) h.U;have m:(bD u b).setIfInBounds 6 (.bool true)=bD {u with w:=⟨true,x,[]⟩} b:=rfl;rw[m] at f;have e:=aD _ j 7 _ _ (.slice (some (Ad w.heap.size 0)) 1 1) f;have i:(bD {u with w:=⟨true,x,[]⟩} b).setIfInBounds 7 (.slice (some (Ad w.heap.size 0)) 1 1)=bD {u with w:=⟨true,x,[]⟩} (.slice (some (Ad w.heap.size 0)) 1 1):=rfl;rw[i] at e;refine⟨((h.below.setCell h.bj _).setCell h.bj _).alloc (by rw[hz];exact h.bz) _,?_,(uD _ _ j (by rw[hz];exact n)).trans e,h.bk,h.bj,h.ne,h.kr,h.jr,?_,?_⟩
 .refine(uD _ _ k (by rw[hz];exact l)).trans ?_
  refine(fj _ (Ad j 7) k _ h.ne).trans ?_;exact(fj _ (Ad j 6) k _ h.ne).trans h.K
 .have:=h.rz
  simp;omega
 .refine .inr ⟨rfl,w.heap.size,1,rfl,.refl,by simp[maxLen],?_,by simp,.inr h.rz⟩
  have:=ew ((w.setCell (Ad j 6) (.bool true)).setCell (Ad j 7) (.slice (some (Ad w.heap.size 0)) 1 1)) #[Sv x] 9 0;rwa[hz] at this
theorem Lr {B R k j:Nat} {m:Value} {s:ByteArray} {w0:World} {u:Adr} {E:Value} (a f:Nat) {w:World} (hm:Mem B R k j m s w0 u E (a:Nat) (f:Nat) 0 w) (ha:a<=s.size) (hs:s.size<=1000000):Calls prog 182 #[.pointer (some ⟨k,0,none⟩)] w fun e w'=>e=.returned (.tuple #[])/\bl B R k j m s w0 (iA ⟨u,s.data.toList.drop a,f,0⟩) w':=by
 obtain⟨l,D⟩:=am s.data.toList;have c0:l.length=s.size:=by rw[D,bT];rfl
 have HG:Hid (∀(q:Nat) (h:q<s.size) (t:q<l.length),l[q]=s[q]):=by intro q h t;subst D;simp;rfl
 have M:=hI fun q h=>ky s q h;have N:Hid (∀(b:Nat) W,b<=s.size->Mem B R k j m s w0 u E (b:Nat) (f:Nat) 0 W->CQ 221 #[Pt k] W (.bool (eu (l.drop b))) (Mem B R k j m s w0 u E (b:Nat) (f:Nat) 0)):=by intro b W g T;rw[D];refine(tQ b T (by omega)).mono ?_;rintro e w' ⟨he,n,rfl⟩;exact⟨he,T.drewN n⟩
 have O:=hI fun c W=>hZ ⟨#[c]⟩ 0 W (by show 1<=_;omega);have a8:Hid (∀(b:Nat) (u2:Adr) a1 W,b<=s.size->Mem B R k j m s w0 u2 a1 (b:Nat) (f:Nat) 0 W->CQ 184 #[Pt k] W (.tuple #[]) (bl B R k j m s w0 (bw ⟨u2,l.drop b,f,0⟩))):=by intro b u2 a1 W g T;rw[D];exact jC b f T g (by omega)
 have L:Hid (∀b,a<=b->b<=s.size->(∀i (h:i<l.length),a<=i->i<b->cY l[i]=false)->eu (l.drop b)=true->iA ⟨u,s.data.toList.drop a,f,0⟩=bw ⟨{u with w:=⟨true,dd ((l.drop a).take (b- a)),[]⟩},l.drop b,f,0⟩):=by
  intro b G g H hx;rw[<-D];have:=tu (fun c=>!cY c) l a b G (fun i h h1 t=>by rw[H i h h1 t];rfl) (by omega) (by
   grind[zJ])
  unfold iA;simp only;rw[this.1,this.2]
 have K:Hid (∀b,a<=b->b<=s.size->(∀i (h:i<l.length),a<=i->i<b->cY l[i]=false)->eu (l.drop b)=false->∃h:b<s.size,(∀i (h:i<l.length),a<=i->i<b+1->cY l[i]=false)/\dd ((l.drop a).take (b+1- a))=dd ((l.drop a).take (b- a))++(if(s[b].toNat:Int)=32 then [37,50,48] else ah 0 [s[b]])):=by
  intro b G g H t;have v:b<l.length:=by
   obtain h|h:=jL b l.length
   .exact h
   .rw[im h] at t
    cases t
  refine⟨by omega,fun i h h3 h4=>?_,?_⟩
  .grind[zJ]
  .have e:(l.drop a).take (b+1- a)=(l.drop a).take (b- a)++ [s[b]'(by omega)]:=by
    rw[show b+1- a=(b- a)+1 by omega,iz _ (b- a) (by rw[cm];omega)];congr 2;rw[qD,<-HG.out b (by omega) v];congr 1;omega
   rw[e,Lp];congr 1;by_cases p:(s[b].toNat:Int)=32
   .rw[ae p,(dt s[b] 32 (by decide)).2 p]
    decide+kernel
   .rw[ab p]
    exact Lo _ (fun e=>p ((dt s[b] 32 (by decide)).1 e))
 have P:Hid (∀b,b<=s.size->(dd ((l.drop a).take (b- a))).length<=9000000):=by intro b g;have:=Lq ((l.drop a).take (b- a));rw[cL,cm] at this;show _<=_;omega
 have HM:=hI hm;clear hm D HG;go_enter func182,ntmps182;go_wp2_with fail;refine mR (N a w ha HM) fun w1 a3=>?_;have a5:Hid _:=a3;clear a3 HM;go_wp2_with fail;go_loopw [2,3] (fun x y wr=>∃b:Nat,a<=b/\b<=s.size/\x=.string ⟨(dd ((l.drop a).take (b- a))).toArray⟩/\y=.bool (eu (l.drop b))/\(∀i (h:i<l.length),a<=i->i<b->cY l[i]=false)/\Mem B R k j m s w0 u E (b:Nat) (f:Nat) 0 wr) (fun x y wr=>s.size-((wr.cell? (Ad k 3)).map intOf).getD 0|>.toNat)
 case atStart=>exact⟨a,.refl,ha,by rw[lI];rfl,rfl,fun i h h1 t=>by omega,a5⟩
 case round=>
  clear a5;obtain⟨b,G,g,rfl,rfl,H,d⟩:=hrel;have F:=hI H;have a9:=hI d;have y0:=d.y0;have y3:=d.y3;have y2:=d.y2;have i3:=d.f 3;have HL:Hid _:=P b g;clear H;cases I:eu (l.drop b) with
  |true=>have HE:Hid _:=L b G g F I;have c6:Ce wr j 6 (.bool u.w.o):=aa d.U 6;have c7:=d.v7;have d6:=d.g 6;have d7:=d.g 7;have b7:=d.jz;have b2:Hid _:=d.opq (dd ((l.drop a).take (b- a)));clear d L K N F I O M P;generalize dd ((l.drop a).take (b- a))=o at*;go_wp2_with fail;refine mH (a8 b _ _ _ g b2) fun w9 b4=>?_;go_wp2;go_end0;exact⟨rfl,by rw[HE.out];exact b4⟩
  |false=>
   obtain⟨v,Z,X⟩:=K b G g F I;have a6:Hid _:=Z;have C:Hid _:=X;have b5:=M b v;have b1:=HL.out;obtain⟨o,a0⟩:∃o,o=dd ((l.drop a).take (b- a)):=⟨_,rfl⟩;rw[<-a0] at C b1⊢;obtain⟨z,Q⟩:∃z,z=dd ((l.drop a).take (b+1- a)):=⟨_,rfl⟩;rw[<-Q] at C;have a4:Hid (z=dd ((l.drop a).take (b+1- a))):=Q;have b9:(b:Int)<(s.size:Int):=(by omega);by_cases p:(s[b].toNat:Int)=32
   .have J:Hid ((⟨o.toArray⟩:ByteArray)++⟨#[37,50,48]⟩=⟨z.toArray⟩):=by
     show _=_;rw[C.out,ae p];exact aP o [37,50,48]
    have a7:∀V:World,(Op.stringOp .add ⟨o.toArray⟩ ⟨#[37,50,48]⟩).run Tryz.prog V=.ok (.string ⟨z.toArray⟩) V:=fun V=>by
     rw[bm V _ _ (by rw[al];show _+3<=_;omega),J.out]
    have U:Hid (∀n,Tryz.Mem B R k j m s w0 u E ((b+1:Nat):Int) (f:Nat) 0 ((wr.drewN n).setCell ⟨k,3,none⟩ (.int .i64 ((b:Int)+1)))):=fun n=>(a9.out.drewN n).set_a _;clear d L K F Z I X C J a0 Q M O P b5;go_wp2;go_quiet (fail);go_wp2_with fail;refine af (N.out (b+1) _ v (U.out _)) ?_;rintro e w4 ⟨rfl,A⟩;have Y:Hid _:=A;have z3:w4.cell? ⟨k,3,none⟩=some (.int .i64 ((b+1:Nat):Int)):=aa A.K 3;clear A;go_wp2;go_roundw
    case rel=>exact⟨b+1,by omega,v,by rw[<-a4.out],rfl,a6.out,Y.out⟩
    case measure=>(simp[intOf,y3,z3];try omega)
   .have J:Hid ((⟨o.toArray⟩:ByteArray)++⟨(ah 0 [s[b]]).toArray⟩=⟨z.toArray⟩):=by
     show _=_;rw[C.out,ab p];exact aP o (ah 0 [s[b]])
    have b3:(ah 0 [s[b]]).length<=3:=iT 0 [s[b]];have a7:∀V:World,(Op.stringOp .add ⟨o.toArray⟩ ⟨(ah 0 [s[b]]).toArray⟩).run Tryz.prog V=.ok (.string ⟨z.toArray⟩) V:=fun V=>by
     rw[bm V _ _ (by rw[al,al];omega),J.out]
    have b8:((s[b].toNat:Int)==32)=false:=(by simpa using p);have b6:Hid _:=O s[b];have q6:IntKind.i64.wrap ((b:Int)+1)=(b:Int)+1:=(by rw[lc];unfold wrap64;omega);have q2:(b:Int)+1<=(s.size:Int):=(by omega);have q3:((b:Int)+1).toNat=b+1:=(by omega);have q5:(b:Int)<=(b:Int)+1:=(by omega);have b0:Hid (∀r,Bl wr r->Ce r k 2 (.string s)/\Ce r k 3 (Iv (b:Nat))/\r.frozen? (Ad k 3)=false/\Hid (∀n,Mem B R k j m s w0 u E ((b+1:Nat):Int) (f:Nat) 0 ((r.drewN n).setCell (Ad k 3) (Iv ((b:Int)+1))))):=(by intro r h5;have S:=d.off h5;exact⟨aa S.K 2,aa S.K 3,S.f 3,fun n=>(S.drewN n).set_a _⟩);generalize(⟨(ah 0 [s[b]]).toArray⟩:ByteArray)=eb at*;clear d L K F Z I X C J a0 Q M O P p b3;go_wp2;go_quiet (fail);go_wp2;go_region_held3 (fun w'=>w'.cell? ⟨k,2,none⟩=some (.string s)/\w'.cell? ⟨k,3,none⟩=some (.int .i64 (b:Nat))) (go_keep) (first|(go_at_call 40;refine af (b6.out _) ?_;rintro e r ⟨rfl,a2⟩;obtain⟨z2,z3,x3,U⟩:=b0.out r ((du rfl rfl rfl rfl:Below wr.heap.size wr (wr.drewN _)).trans a2);clear a2))
    go_wp2_with fail;refine mR (N (b+1) _ v (U 0)) fun w4 A=>?_;have Y:Hid _:=A;have t3:=A.y3;clear A;go_wp2;go_roundw
    case rel=>exact⟨b+1,by omega,v,by rw[<-a4.out],rfl,a6,Y⟩
    case measure=>(simp[intOf,y3,t3];try omega)
end Go.Proofs
