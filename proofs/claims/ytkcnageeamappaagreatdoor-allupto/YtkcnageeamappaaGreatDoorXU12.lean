import Derived.Test.YtkcnageeamappaaGreatDoorXU9
import Derived.Test.YtkcnageeamappaaGreatDoorXU10
set_option maxHeartbeats 32000000
set_option maxRecDepth 8000
set_option linter.unusedSimpArgs false
namespace Go.Proofs
open Go.RowKit Go.Moor Go.Proofs.Tryz Go.Moor
theorem qf (w:World) (j i:Nat) (a:Array Value) (t:TypeId) (v:Value) (h:w.heap[j]?=some (.cells a t (0,0))):(w.drew.setCell ⟨j,i,none⟩ v).heap[j]?=some (.cells (a.setIfInBounds i v) t (0,0)):=aD w.drew j i a t v h
theorem Tryz.Mem.besideOpaque {B R k j:Nat} {l:Value} {s:ByteArray} {w0 w:World} {u b:Adr} {F:Nat} {d c:Value} {a o p:Int} (h:Mem B R k j l s w0 u d a o p w) (y:UBase B w0 b F c) (m:b.w.o=true):Mem B R k j l s w0 {u with s:=b.s,w:=b.w,q:=b.q} c a o p ((((((((w.drew.setCell ⟨j,0,none⟩ (.string ⟨b.s.toArray⟩)).setCell ⟨j,6,none⟩ (.bool true)).drew.setCell ⟨j,7,none⟩ c).drew).setCell ⟨j,8,none⟩ (.bool b.q.isSome)).drew).setCell ⟨j,9,none⟩ (.string ⟨(b.q.getD []).toArray⟩))):=by
 have f:OnlyAt j w ((((((((w.drew.setCell (Ad j 0) (Sv b.s)).setCell (Ad j 6) (.bool true)).drew.setCell (Ad j 7) c).drew).setCell (Ad j 8) (.bool b.q.isSome)).drew).setCell (Ad j 9) (Sv (b.q.getD [])))):=(((((((OnlyAt.refl j w).drew.set 0 _).set 6 _).drew.set 7 _).drew).set 8 _).drew).set 9 _;have q:=qf w j 0 _ _ (Sv b.s) h.U;have I:(bD u d).setIfInBounds 0 (Sv b.s)=bD {u with s:=b.s} d:=rfl;rw[I] at q;have r:=aD _ j 6 _ _ (.bool true) q;have J:(bD {u with s:=b.s} d).setIfInBounds 6 (.bool true)=bD {u with s:=b.s,w:=⟨true,[],[]⟩} d:=rfl;rw[J] at r;have n:=qf _ j 7 _ _ c r;have G:(bD {u with s:=b.s,w:=⟨true,[],[]⟩} d).setIfInBounds 7 c=bD {u with s:=b.s,w:=⟨true,[],[]⟩} c:=rfl;rw[G] at n;have E:=qf _ j 8 _ _ (.bool b.q.isSome) n;have e:=qf _ j 9 _ _ (Sv (b.q.getD [])) E;have D:((bD {u with s:=b.s,w:=⟨true,[],[]⟩} c).setIfInBounds 8 (.bool b.q.isSome)).setIfInBounds 9 (Sv (b.q.getD []))=bD {u with s:=b.s,w:=⟨true,[],[]⟩,q:=b.q} c:=rfl;rw[D] at e;have x:bD {u with s:=b.s,w:=⟨true,[],[]⟩,q:=b.q} c=bD {u with s:=b.s,w:=b.w,q:=b.q} c:=by unfold bD;rw[m]
 rw[x] at e;refine h.upd f e ?_;obtain⟨K,_⟩|⟨_,g,v,z,C,H,A,i⟩:=y.row
 .grind
 .have t:=f.below h.below h.bj
  refine .inr ⟨m,g,v,z,C,H,?_,?_,.inl i⟩
  .rw[<-A]
   exact t.cell i
  .rw[f.size]
   exact cq i h.bz
theorem Le {B R k j:Nat} {bv:Value} {s:ByteArray} {w0:World} {u:Adr} {pv:Value} (a st:Nat) {w:World} {base:Option Adr} (hm:Mem B R k j bv s w0 u pv (a:Nat) (st:Nat) 0 w) (hb:iY B w0 bv base) (ha:a<=s.size) (hs:s.size<=35184372088832):Calls prog 175 #[.pointer (some ⟨k,0,none⟩)] w λe w'=>e=.returned (.tuple #[])/\iD B R k j bv s w0 (gi base ⟨u,s.data.toList.drop a,st,0⟩) w':=by
 have y0:w.cell? ⟨k,0,none⟩=some (.pointer (some ⟨j,0,none⟩)):=aa hm.K 0;have y1:w.cell? ⟨k,1,none⟩=some bv:=aa hm.K 1;have y4:w.cell? ⟨k,4,none⟩=some (.int .i64 (st:Nat)):=aa hm.K 4;have y5:w.cell? ⟨k,5,none⟩=some (.int .i64 0):=aa hm.K 5;have f4:=aj hm.K 4;have f5:=aj hm.K 5;have HM:Hid (Tryz.Mem B R k j bv s w0 u pv (a:Nat) (st:Nat) 0 w):=hm;cases base with
 |none=>have hbv:bv=.pointer none:=hb;subst hbv;clear hm hb;go_enter ra,rb;go_wp2;exact aO (v:=.tuple #[]) (bf rfl _ _ _) rfl ⟨rfl,kJ (HM.out.set_er 3) _ rfl (by decide)⟩
 |some b=>
  obtain⟨bj,bpv,hbv,hbu⟩:=hb;subst hbv;have hub:w.heap[bj]?=some (.cells (bD b bpv) 116 (0,0)):=(hm.below.block bj hbu.lt).trans hbu.U;have HC:Hid _:=mx k a s w (aa hm.K 2) (aa hm.K 3) (by omega);have hkj:=hm.ne;have hjk:j≠k:=λe=>hm.ne e.symm;have hbjj:bj≠j:=by have:=hbu.lt;have:=hm.bj;omega
  have hbjk:bj≠k:=by have:=hbu.lt;have:=hm.bk;omega
  have b6:w.cell? ⟨bj,6,none⟩=some (.bool b.w.o):=aa hub 6;have b0:w.cell? ⟨bj,0,none⟩=some (.string ⟨b.s.toArray⟩):=aa hub 0;have c0:w.cell? ⟨j,0,none⟩=some (.string ⟨u.s.toArray⟩):=aa hm.U 0;have d0:=aj hm.U 0;obtain⟨ci,hci⟩:∃ci,ci=bn (s.data.toList.drop a):=⟨_,rfl⟩;rw[<-hci] at HC;cases hop:b.w.o with
  |true=>
   rw[hop] at b6;by_cases h35:(ci==35)=true
   .have HE:Hid (gi (some b) ⟨u,s.data.toList.drop a,st,0⟩=bw ⟨{u with s:=b.s,w:=b.w,q:=b.q},s.data.toList.drop a,st,0⟩):=by
     show _=_;have hh:(s.data.toList.drop a).head? =some 35:=(mD _).2 (by rw[<-hci];exact h35);unfold gi;simp only;rw[ab (λh=>h.2 hh),ae hop]
    have HB:Hid _:=λn=>(hm.drewN n).besideOpaque hbu hop;have HMD:Hid (∀W,Tryz.Mem B R k j (.pointer (some ⟨bj,0,none⟩)) s w0 {u with s:=b.s,w:=b.w,q:=b.q} bpv (a:Nat) (st:Nat) 0 W->Calls Tryz.prog 184 #[.pointer (some ⟨k,0,none⟩)] W λe w'=>e=.returned (.tuple #[])/\bl B R k j (.pointer (some ⟨bj,0,none⟩)) s w0 (bw ⟨{u with s:=b.s,w:=b.w,q:=b.q},s.data.toList.drop a,st,0⟩) w'):=λW hW=>jC a st hW ha hs;have b7:w.cell? ⟨bj,7,none⟩=some bpv:=aa hub 7;obtain⟨bg,bcap,hbp⟩:∃g cap,bpv=.slice (some ⟨g,0,none⟩) 1 cap:=by
     rcases hbu.row with⟨h2,_⟩|⟨_,g,cap,hv,_⟩
     .rw[hop] at h2;cases h2
     .exact⟨g,cap,hv⟩
    have b8:w.cell? ⟨bj,8,none⟩=some (.bool b.q.isSome):=aa hub 8;have b9:w.cell? ⟨bj,9,none⟩=some (.string ⟨(b.q.getD []).toArray⟩):=aa hub 9;have c6:w.cell? ⟨j,6,none⟩=some (.bool u.w.o):=aa hm.U 6;have c7:w.cell? ⟨j,7,none⟩=some pv:=aa hm.U 7;have c8:w.cell? ⟨j,8,none⟩=some (.bool u.q.isSome):=aa hm.U 8;have c9:w.cell? ⟨j,9,none⟩=some (.string ⟨(u.q.getD []).toArray⟩):=aa hm.U 9;have d6:=aj hm.U 6;have d7:=aj hm.U 7;have d8:=aj hm.U 8;have d9:=aj hm.U 9;have n35:(ci !=35)=false:=(by unfold bne;rw[h35];rfl);rw[hbp] at b7;have HBP:Hid (bpv=.slice (some ⟨bg,0,none⟩) 1 bcap):=hbp;clear hm hbu hub hci hop h35 hbp y4 f4 y5 f5;go_enter ra,rb;go_wp2_with fail;refine af HC.out ?_;rintro e w1 ⟨rfl,n,rfl⟩;go_wp2;go_region;go_wp2;go_region;go_wp2;go_region;go_wp2;go_region;go_wp2_with fail;refine af (HMD.out _ (by rw[<-HBP.out];exact HB.out n)) ?_;rintro e w2 ⟨rfl,hf⟩;have HF:Hid _:=hf;clear hf;go_wp2;exact bS (v:=.tuple #[]) (bf rfl _ _ _) rfl ⟨rfl,by rw[HE.out];exact iZ HF.out rfl⟩
   .have hno:(ci==35)=false:=by simpa using h35
    have HE:Hid ((gi (some b) ⟨u,s.data.toList.drop a,st,0⟩).err=3):=(by show _=_;unfold gi;simp only;rw[ae ⟨hop,qr _ 35 _ (mD _) (by rw[<-hci];exact hno)⟩]);have n35:(ci !=35)=true:=(by unfold bne;rw[hno];rfl);clear hm hbu hub hci hop h35 hno b0 c0 d0;go_enter ra,rb;go_wp2_with fail;refine af HC.out ?_;rintro e w1 ⟨rfl,n,rfl⟩;go_wp2;exact aO (v:=.tuple #[]) (bf rfl _ _ _) rfl ⟨rfl,kJ ((HM.out.drewN n).set_er 3) _ HE.out (by decide)⟩
  |false=>
   rw[hop] at b6;have HE:Hid (gi (some b) ⟨u,s.data.toList.drop a,st,0⟩=⟨{u with s:=b.s},s.data.toList.drop a,(if b.s=sFile then 8 else 1),0⟩):=by show _=_;unfold gi;simp only;rw[ab (λh=>by rw[hop] at h;cases h.1),ab (by simp[hop])]
   have HB:Hid _:=hm.drew.uset (u':={u with s:=b.s}) 0 (.string ⟨b.s.toArray⟩) rfl rfl;by_cases hf:b.s=sFile
   .have e1:((⟨b.s.toArray⟩:ByteArray).toList==[102,105,108,101])=true:=fE b.s _ hf
    rw[ae hf] at HE;generalize(⟨b.s.toArray⟩:ByteArray)=bcb at*;clear hm hbu hub hci hop hf HC y5 f5;go_enter ra,rb;go_wp2;go_region;go_wp2;exact bS (v:=.tuple #[]) (bf rfl _ _ _) rfl ⟨rfl,by rw[HE.out];exact iZ (bN (a:=a) (HB.out.set_st 8) ha _ rfl) rfl⟩
   .have e1:((⟨b.s.toArray⟩:ByteArray).toList==[102,105,108,101])=false:=dV b.s _ hf
    rw[ab hf] at HE;generalize(⟨b.s.toArray⟩:ByteArray)=bcb at*;clear hm hbu hub hci hop hf HC y5 f5;go_enter ra,rb;go_wp2;go_region;go_wp2;exact bS (v:=.tuple #[]) (bf rfl _ _ _) rfl ⟨rfl,by rw[HE.out];exact iZ (bN (a:=a) (HB.out.set_st 1) ha _ rfl) rfl⟩
theorem Lf (p:Bs):bG p=0\/bG p=1\/bG p=2:=by grind[bG]
theorem mv (a r:Bs):(bV a r).length<=r.length:=(uf _).length_le
theorem Tryz.Mem.push {B R k j:Nat} {g:Value} {s:ByteArray} {w0 w:World} {u:Adr} {d:Value} {a n i:Int} (h:Mem B R k j g s w0 u d a n i w) (o:u.w.o=false) (x:Bs) (c:Option Go.Addr) (e:Nat) (b:World) (p:b.ownsRow R 9 1 (.slice c (u.w.g.length+1) e) (u.w.g.length+1) (aW u.w.g++ [.string ⟨x.toArray⟩])) (m:(w.alloc (.cells #[.string ⟨x.toArray⟩] 9)).drew.grownBy b d.ownBlock):Ce b k 0 (.pointer (some ⟨j,0,none⟩))/\Ce b j 7 d/\b.frozen? ⟨j,7,none⟩=false/\Ce b k 3 (.int .i64 a)/\b.frozen? ⟨k,3,none⟩=false/\Hid (Mem B R k j g s w0 {u with w:=⟨false,[],u.w.g++ [x]⟩} (.slice c (u.w.g.length+1) e) a n i (b.setCell ⟨j,7,none⟩ (.slice c (u.w.g.length+1) e))):=by obtain⟨f,l,q⟩:=((h.alloc _).drew).far o m;refine⟨aa f 0,aa l 7,aj l 7,aa f 3,aj f 3,((h.alloc _).drew).grown o m (u.w.g++ [x]) _ ?_⟩;rw[cC,kn];exact p
theorem Tryz.Mem.lay {B R k j:Nat} {d:Value} {s:ByteArray} {w0 w:World} {u:Adr} {c:Value} {a f e:Int} (h:Mem B R k j d s w0 u c a f e w) (g:u.w.o=false) (x:Bs):(w.alloc (.cells #[.string ⟨x.toArray⟩] 9)).drew.ownsRow R 9 1 c u.w.g.length (aW u.w.g)/\qt (w.alloc (.cells #[.string ⟨x.toArray⟩] 9)).drew (.slice (some ⟨w.heap.size,0,none⟩) 1 1) 1 [.string ⟨x.toArray⟩]/\R<=(w.alloc (.cells #[.string ⟨x.toArray⟩] 9)).drew.heap.size:=by
 refine⟨((h.alloc _).drew).owned g,.inr ⟨(Ad w.hz 0),1,rfl,rfl,?_⟩,((h.alloc _).drew).rz⟩;intro q v b;match q,b with
 |0,b=>simp at b;subst b;exact ew w #[Sv x] 9 0
theorem lw (x:Bs):∀q∈[Value.string ⟨x.toArray⟩],q.oneCell'=true:=by intro q a;rw[kZ] at a;subst a;rfl
theorem zG (a:Bs) (segs:List Bs) (p:Bs) (m:Bool) (h:bG p=1):bW a segs p m=segs++(if m then [] else [[]]):=by simp_all[bW]
theorem zH (a:Bs) (segs:List Bs) (p:Bs) (m:Bool) (h:bG p=2):bW a segs p m=aI a segs++(if m then [] else [[]]):=by simp_all[bW]
theorem Lg (segs:List Bs) (p:Bs) (m:Bool) (h:bG p=0) (b:segs=[]) (a:aC p=true):bW sFile segs p m=segs++ [p.take 1++ [58]]:=by simp_all[bW,fR]
theorem tr (a:Bs) (segs:List Bs) (p:Bs) (m:Bool) (h:bG p=0) (b:¬(segs=[]/\a=sFile/\aC p=true)):bW a segs p m=segs++ [ah 4 p]:=by simp_all[bW,fR]
end Go.Proofs
