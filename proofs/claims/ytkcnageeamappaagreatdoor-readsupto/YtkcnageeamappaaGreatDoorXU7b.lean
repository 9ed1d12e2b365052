import Derived.Test.YtkcnageeamappaaGreatDoorXU3P
import Derived.OneCell
import Derived.Laws.OwnMore
import Derived.Deep.RegionLaw
set_option maxHeartbeats 32000000
set_option maxRecDepth 8000
namespace Go.Proofs
open Go.RowKit Go.Moor Go.Proofs.Tryz
def z1w (u:Adr) (pv:Value):Array Value:=#[.string ⟨u.scheme.toArray⟩,.string ⟨u.auth.user.toArray⟩,.string ⟨u.auth.pass.toArray⟩,.bool u.auth.has,.string ⟨u.auth.host.toArray⟩,.int .i64 u.auth.port,.bool u.way.opaq,pv,.bool u.query.isSome,.string ⟨(u.query.getD []).toArray⟩,.bool u.frag.isSome,.string ⟨(u.frag.getD []).toArray⟩]
def z8i (j:Nat) (bv:Value) (s:ByteArray) (a st er:Int):Array Value:=#[.pointer (some ⟨j,0,none⟩),bv,.string s,.int .i64 a,.int .i64 st,.int .i64 er]
def Tryz.WayRow (B R:Nat) (w:World) (y:Moor.Way) (pv:Value):Prop:=
 (y.opaq=false∧w.ownsRow R 9 1 pv y.segs.length (z1J y.segs))∨
 (y.opaq=true∧∃g cap,pv=.slice (some ⟨g,0,none⟩) 1 cap∧1≤cap∧cap≤maxLen∧w.cell? ⟨g,0,none⟩=some (.string ⟨y.text.toArray⟩)∧g<w.heap.size∧(g<B∨R≤g))
structure Tryz.Mem (B R k j:Nat) (bv:Value) (s:ByteArray) (w0:World) (u:Adr) (pv:Value) (a st er:Int) (w:World):Prop where
 below:Below B w0 w
 mach:w.heap[k]?=some (.cells (z8i j bv s a st er) 168 (0,0))
 url:w.heap[j]?=some (.cells (z1w u pv) 116 (0,0))
 bk:B≤k
 bj:B≤j
 ne:k≠j
 kr:k<R
 jr:j<R
 rz:R≤w.heap.size
 row:WayRow B R w u.way pv
theorem Tryz.WayRow.setCell {B R:Nat} {w:World} {y:Moor.Way} {pv:Value} (h:WayRow B R w y pv) {p:Go.Addr} (h1:B≤p.block) (h2:p.block<R) (v:Value):WayRow B R (w.setCell p v) y pv:=by
 rcases h with⟨ho,hr⟩|⟨ho,g,cap,hv,h3,h4,hc,hg,hb⟩
 ·exact Or.inl ⟨ho,ownsRow_setCell_below hr h2 v⟩
 ·refine Or.inr ⟨ho,g,cap,hv,h3,h4,?_,by simpa using hg,hb⟩
  rw[←hc];exact World.cell?_of_block (Below.heap_setCell w p v g (by omega))
theorem Tryz.WayRow.below {B R:Nat} {w w':World} {y:Moor.Way} {pv:Value} (h:WayRow B R w y pv) (hb:Below w.heap.size w w'):WayRow B R w' y pv:=by
 rcases h with⟨ho,hr⟩|⟨ho,g,cap,hv,h3,h4,hc,hg,hb'⟩
 ·exact Or.inl ⟨ho,z5t hr hb⟩
 ·exact Or.inr ⟨ho,g,cap,hv,h3,h4,by rw[←hc];exact hb.cell hg,Nat.lt_of_lt_of_le hg hb.size,hb'⟩
section
variable {B R k j : Nat} {bv : Value} {s : ByteArray} {w0 w : World} {u : Adr} {pv : Value} {a st er : Int}
theorem Tryz.Mem.kz (h:Mem B R k j bv s w0 u pv a st er w):k<w.heap.size:=Nat.lt_of_lt_of_le h.kr h.rz
theorem Tryz.Mem.jz (h:Mem B R k j bv s w0 u pv a st er w):j<w.heap.size:=Nat.lt_of_lt_of_le h.jr h.rz
theorem Tryz.Mem.bz (h:Mem B R k j bv s w0 u pv a st er w):B≤w.heap.size:=Nat.le_trans h.bk (Nat.le_of_lt h.kz)
theorem Tryz.Mem.off (h:Mem B R k j bv s w0 u pv a st er w) {w':World} (hb:Below w.heap.size w w'):Mem B R k j bv s w0 u pv a st er w':=
 ⟨h.below.trans (hb.mono h.bz),(hb.block k h.kz).trans h.mach,(hb.block j h.jz).trans h.url,h.bk,h.bj,h.ne,h.kr,h.jr,Nat.le_trans h.rz hb.size,h.row.below hb⟩
theorem Tryz.Mem.drewN (h:Mem B R k j bv s w0 u pv a st er w) (n:Nat):Mem B R k j bv s w0 u pv a st er (w.drewN n):=h.off ⟨rfl,rfl,rfl,Nat.le_refl _,fun _ _=>rfl⟩
theorem Tryz.Mem.mset (h:Mem B R k j bv s w0 u pv a st er w) {a' st' er':Int} (i:Nat) (v:Value) (hcs:(z8i j bv s a st er).setIfInBounds i v=z8i j bv s a' st' er'):Mem B R k j bv s w0 u pv a' st' er' (w.setCell ⟨k,i,none⟩ v):=
 ⟨h.below.setCell h.bk v,by rw[←hcs];exact heap_setCell_same w k i _ _ v h.mach,(heap_setCell_other w ⟨k,i,none⟩ j v (fun e=>h.ne e.symm)).trans h.url,h.bk,h.bj,h.ne,h.kr,h.jr,by simpa using h.rz,h.row.setCell h.bk h.kr v⟩
theorem Tryz.Mem.uset (h:Mem B R k j bv s w0 u pv a st er w) {u':Adr} (i:Nat) (v:Value) (hcs:(z1w u pv).setIfInBounds i v=z1w u' pv) (hw:u'.way=u.way):Mem B R k j bv s w0 u' pv a st er (w.setCell ⟨j,i,none⟩ v):=
 ⟨h.below.setCell h.bj v,(heap_setCell_other w ⟨j,i,none⟩ k v h.ne).trans h.mach,by rw[←hcs];exact heap_setCell_same w j i _ _ v h.url,h.bk,h.bj,h.ne,h.kr,h.jr,by simpa using h.rz,by rw[hw];exact h.row.setCell h.bj h.jr v⟩
theorem Tryz.Mem.set_a (h:Mem B R k j bv s w0 u pv a st er w) (a':Int):Mem B R k j bv s w0 u pv a' st er (w.setCell ⟨k,3,none⟩ (.int .i64 a')):=h.mset 3 _ rfl
theorem Tryz.Mem.set_st (h:Mem B R k j bv s w0 u pv a st er w) (st':Int):Mem B R k j bv s w0 u pv a st' er (w.setCell ⟨k,4,none⟩ (.int .i64 st')):=h.mset 4 _ rfl
theorem Tryz.Mem.set_er (h:Mem B R k j bv s w0 u pv a st er w) (er':Int):Mem B R k j bv s w0 u pv a st er' (w.setCell ⟨k,5,none⟩ (.int .i64 er')):=h.mset 5 _ rfl
end
def z1I:Bs→Int
 | []=> -1
 |c::_=>(c.toNat:Nat)
theorem zfL (s:ByteArray) (a:Nat) (h:s.size≤a):z1I (s.data.toList.drop a)= -1:=by rw[List.drop_of_length_le (by rw[Array.length_toList];exact h)];rfl
theorem znH (s:ByteArray) (a:Nat) (h:a<s.size):z1I (s.data.toList.drop a)=((s[a].toNat:Nat):Int):=by rw[List.drop_eq_getElem_cons (by rw[Array.length_toList];exact h)];rfl
theorem zgL (k a:Nat) (s:ByteArray) (w:World) (h2:w.cell? ⟨k,2,none⟩=some (.string s)) (h3:w.cell? ⟨k,3,none⟩=some (.int .i64 (a:Nat))) (ha:a≤s.size+1):CN 176 #[.pointer (some ⟨k,0,none⟩)] w (.int .i64 (z1I (s.data.toList.drop a))):=by
 by_cases hlt:a<s.size
 ·rw[znH s a hlt]
  have hi:(a:Int)<(s.size:Int):=by omega
  go_enter func176,ntmps176;go_wp2;go_quiet (fail);go_wp2;go_quiet (fail);go_wp2;go_ret;refine⟨?_,_,World.drewN_drewN ..⟩;show Ending.returned (.int .i64 (wrap64 ((s[a].toNat:Nat):Int)))=_;have hb:=s[a].toNat_lt;rw[show wrap64 ((s[a].toNat:Nat):Int)=((s[a].toNat:Nat):Int) from by unfold wrap64;omega]
 ·rw[zfL s a (by omega)]
  have hi:¬(a:Int)<(s.size:Int):=by omega
  go_enter func176,ntmps176;go_wp2;go_quiet (fail);go_wp2;go_ret;exact⟨rfl,_,rfl⟩
theorem ziD (sc r:Bs):z0o (z06 sc) r=((z1I r==47)||((z1I r==92)&&z0b sc)):=by
 cases r with
 |nil=>rfl
 |cons c r=>
  have e1:∀k:Nat,k<256→(c==UInt8.ofNat k)=((c.toNat:Int)==(k:Int)):=by intro k hk;rw[Bool.eq_iff_iff,beq_iff_eq,beq_iff_eq];exact z1e c k hk
  show(c==47||(c==92&&z0b sc))=_;have e47:(c==47)=((c.toNat:Int)==47):=e1 47 (by decide);have e92:(c==92)=((c.toNat:Int)==92):=e1 92 (by decide);rw[e47,e92];rfl
def z2n (r:Bs):Bool:=r.isEmpty||z0o z2d r
theorem zk7 (r:Bs):z2n r=(decide (z1I r<0)||(z1I r==63)||(z1I r==35)):=by
 cases r with
 |nil=>rfl
 |cons c r=>
  have e1:∀k:Nat,k<256→(c==UInt8.ofNat k)=((c.toNat:Int)==(k:Int)):=by intro k hk;rw[Bool.eq_iff_iff,beq_iff_eq,beq_iff_eq];exact z1e c k hk
  show(false||(c==63||c==35))=_;have e63:(c==63)=((c.toNat:Int)==63):=e1 63 (by decide);have e35:(c==35)=((c.toNat:Int)==35):=e1 35 (by decide);rw[e63,e35];have h0:decide (z1I (c::r)<0)=false:=decide_eq_false (by show¬((c.toNat:Int)<0);omega);rw[h0];rfl
theorem zmp (k j a:Nat) (s:ByteArray) (sc:Bs) (w:World) (h0:w.cell? ⟨k,0,none⟩=some (.pointer (some ⟨j,0,none⟩))) (h2:w.cell? ⟨k,2,none⟩=some (.string s)) (h3:w.cell? ⟨k,3,none⟩=some (.int .i64 (a:Nat))) (hu:w.cell? ⟨j,0,none⟩=some (.string ⟨sc.toArray⟩)) (ha:a≤s.size+1):CN 178 #[.pointer (some ⟨k,0,none⟩)] w (.bool (z0o (z06 sc) (s.data.toList.drop a))):=by
 have HC:Hid _:=zgL k a s w h2 h3 ha;have HS:=hI fun w1=>zae ⟨sc.toArray⟩ w1;rw[ziD];generalize z1I (s.data.toList.drop a)=c at*;clear h2 h3 ha;cases h47:(c==47) with
 |true=>go_enter func178,ntmps178;go_wp2_with fail;refine Calls.mono HC ?_;rintro e w1 ⟨rfl,n,rfl⟩;go_wp2;go_ret;exact⟨rfl,_,rfl⟩
 |false=>
  cases h92:(c==92) with
  |true=>generalize z0b sc=sp at*;go_enter func178,ntmps178;go_wp2_with fail;refine Calls.mono HC ?_;rintro e w1 ⟨rfl,n,rfl⟩;go_wp2_with fail;refine Calls.mono (HS _) ?_;rintro e w1 ⟨rfl,hw1⟩;obtain rfl:=hw1.symm;go_wp2;go_ret;exact⟨rfl,_,rfl⟩
  |false=>go_enter func178,ntmps178;go_wp2_with fail;refine Calls.mono HC ?_;rintro e w1 ⟨rfl,n,rfl⟩;go_wp2;go_ret;exact⟨rfl,_,rfl⟩
theorem znI (k a:Nat) (s:ByteArray) (w:World) (h2:w.cell? ⟨k,2,none⟩=some (.string s)) (h3:w.cell? ⟨k,3,none⟩=some (.int .i64 (a:Nat))) (ha:a≤s.size+1):CN 221 #[.pointer (some ⟨k,0,none⟩)] w (.bool (z2n (s.data.toList.drop a))):=by
 have HC:Hid _:=zgL k a s w h2 h3 ha;rw[zk7];generalize z1I (s.data.toList.drop a)=c at*;clear h2 h3 ha;cases h0:decide (c<0) with
 |true=>go_enter func221,ntmps221;go_wp2_with fail;refine Calls.mono HC ?_;rintro e w1 ⟨rfl,n,rfl⟩;go_wp2;go_ret;exact⟨rfl,_,rfl⟩
 |false=>
  cases h63:(c==63) with
  |true=>go_enter func221,ntmps221;go_wp2_with fail;refine Calls.mono HC ?_;rintro e w1 ⟨rfl,n,rfl⟩;go_wp2;go_ret;exact⟨rfl,_,rfl⟩
  |false=>
   cases h35:(c==35) with
   |true=>go_enter func221,ntmps221;go_wp2_with fail;refine Calls.mono HC ?_;rintro e w1 ⟨rfl,n,rfl⟩;go_wp2;go_ret;exact⟨rfl,_,rfl⟩
   |false=>go_enter func221,ntmps221;go_wp2_with fail;refine Calls.mono HC ?_;rintro e w1 ⟨rfl,n,rfl⟩;go_wp2;go_ret;exact⟨rfl,_,rfl⟩
section
variable {B R k j : Nat} {bv : Value} {s : ByteArray} {w0 w : World} {u : Adr} {pv : Value} {a st er : Int}
theorem Tryz.Mem.y0 (h:Tryz.Mem B R k j bv s w0 u pv a st er w):w.cell? ⟨k,0,none⟩=some (.pointer (some ⟨j,0,none⟩)):=z00 h.mach 0
theorem Tryz.Mem.y1 (h:Tryz.Mem B R k j bv s w0 u pv a st er w):w.cell? ⟨k,1,none⟩=some bv:=z00 h.mach 1
theorem Tryz.Mem.y2 (h:Tryz.Mem B R k j bv s w0 u pv a st er w):w.cell? ⟨k,2,none⟩=some (.string s):=z00 h.mach 2
theorem Tryz.Mem.y3 (h:Tryz.Mem B R k j bv s w0 u pv a st er w):w.cell? ⟨k,3,none⟩=some (.int .i64 a):=z00 h.mach 3
theorem Tryz.Mem.y4 (h:Tryz.Mem B R k j bv s w0 u pv a st er w):w.cell? ⟨k,4,none⟩=some (.int .i64 st):=z00 h.mach 4
theorem Tryz.Mem.y5 (h:Tryz.Mem B R k j bv s w0 u pv a st er w):w.cell? ⟨k,5,none⟩=some (.int .i64 er):=z00 h.mach 5
theorem Tryz.Mem.v0 (h:Tryz.Mem B R k j bv s w0 u pv a st er w):w.cell? ⟨j,0,none⟩=some (.string ⟨u.scheme.toArray⟩):=z00 h.url 0
theorem Tryz.Mem.v3 (h:Tryz.Mem B R k j bv s w0 u pv a st er w):w.cell? ⟨j,3,none⟩=some (.bool u.auth.has):=z00 h.url 3
theorem Tryz.Mem.v4 (h:Tryz.Mem B R k j bv s w0 u pv a st er w):w.cell? ⟨j,4,none⟩=some (.string ⟨u.auth.host.toArray⟩):=z00 h.url 4
theorem Tryz.Mem.v7 (h:Tryz.Mem B R k j bv s w0 u pv a st er w):w.cell? ⟨j,7,none⟩=some pv:=z00 h.url 7
theorem Tryz.Mem.f (h:Tryz.Mem B R k j bv s w0 u pv a st er w) (i:Nat):w.frozen? ⟨k,i,none⟩=false:=z04 h.mach i
theorem Tryz.Mem.g (h:Tryz.Mem B R k j bv s w0 u pv a st er w) (i:Nat):w.frozen? ⟨j,i,none⟩=false:=z04 h.url i
end
theorem z05 {fn:Func} (h:fn.results=#[]) (tmps:Array Value) (P:Program) (w:World):(results fn tmps).run P w=.ok (.tuple #[]) w:=by simp[results,h]
def z61 (r:Bs):Nat:=if r.head? =some 63 then 11 else if r.head? =some 35 then 12 else 13
theorem z9V (r:Bs) (k:Nat) (hk:k<256):(r.head? =some (UInt8.ofNat k))↔(z1I r==(k:Int))=true:=by
 rw[beq_iff_eq];cases r with
 |nil=>simp[z1I]
 |cons c r=>show(some c=some _)↔_;rw[Option.some_inj];exact z1e c k hk
theorem z8l (r:Bs):r.head? =some 63↔(z1I r==63)=true:=z9V r 63 (by decide)
theorem z6T (r:Bs):r.head? =some 35↔(z1I r==35)=true:=z9V r 35 (by decide)
theorem za2 (r:Bs):r.head? =some 47↔(z1I r==47)=true:=z9V r 47 (by decide)
theorem zk8 (r:Bs) (h:(z1I r==63)=true):z61 r=11:=if_pos ((z8l r).2 h)
theorem z5x (r:Bs) (c:UInt8) (b:Bool) (hi:r.head? =some c↔b=true) (h:b=false):¬r.head? =some c:=fun e=>by
 have:=hi.1 e;rw[h] at this;cases this
theorem zk9 (r:Bs) (h:(z1I r==63)=false) (h2:(z1I r==35)=true):z61 r=12:=by unfold z61;rw[if_neg (z5x r 63 _ (z8l r) h),if_pos ((z6T r).2 h2)]
theorem zka (r:Bs) (h:(z1I r==63)=false) (h2:(z1I r==35)=false):z61 r=13:=by unfold z61;rw[if_neg (z5x r 63 _ (z8l r) h),if_neg (z5x r 35 _ (z6T r) h2)]
theorem zlU {B R k j:Nat} {bv:Value} {s:ByteArray} {w0:World} {u:Adr} {pv:Value} (a:Nat) {st er:Int} {w:World} (hm:Mem B R k j bv s w0 u pv (a:Nat) st er w) (ha:a≤s.size) (hs:s.size≤35184372088832):CQ 184 #[.pointer (some ⟨k,0,none⟩)] w (.tuple #[]) (Mem B R k j bv s w0 u pv ((a+1:Nat):Int) (z61 (s.data.toList.drop a):Nat) er):=by
 have y3:=hm.y3;have y4:=hm.y4;have HC:Hid _:=zgL k a s w (z00 hm.mach 2) y3 (by omega);have i3:=hm.f 3;have i4:=hm.f 4;have HM:=hI hm;clear hm;obtain⟨r,hr⟩:=z09 (s.data.toList.drop a);rw[←hr] at HC⊢;clear hr;have H63:Hid _:=zk8 r;have H35:Hid _:=zk9 r;have HNO:Hid _:=zka r;generalize z61 r=ms at*;generalize z1I r=c at*;cases h63:(c==63) with
 |true=>have e1:=H63 h63;subst e1;clear H63 H35 HNO;go_enter func184,ntmps184;go_wp2_with fail;refine Calls.mono HC ?_;rintro e w1 ⟨rfl,n,rfl⟩;go_wp2;exact bodyPost_end (v:=.tuple #[]) (z05 rfl _ _ _) rfl ⟨rfl,((HM.out.drewN n).set_st _).set_a _⟩
 |false=>
  cases h35:(c==35) with
  |true=>have e1:=H35 h63 h35;subst e1;clear H63 H35 HNO;go_enter func184,ntmps184;go_wp2_with fail;refine Calls.mono HC ?_;rintro e w1 ⟨rfl,n,rfl⟩;go_wp2;exact bodyPost_end (v:=.tuple #[]) (z05 rfl _ _ _) rfl ⟨rfl,((HM.out.drewN n).set_st _).set_a _⟩
  |false=>have e1:=HNO h63 h35;subst e1;clear H63 H35 HNO;go_enter func184,ntmps184;go_wp2_with fail;refine Calls.mono HC ?_;rintro e w1 ⟨rfl,n,rfl⟩;go_wp2;exact bodyPost_end (v:=.tuple #[]) (z05 rfl _ _ _) rfl ⟨rfl,((HM.out.drewN n).set_st _).set_a _⟩
theorem zhk (sc:Bs) (l:Bs) (b:Nat) (h:b<l.length):z3y sc l[b]=(z0o (z06 sc) (l.drop b)||z2n (l.drop b)):=by rw[List.drop_eq_getElem_cons h];rfl
theorem ziE (sc:Bs) (l:Bs) (a b:Nat) (hab:a≤b) (hb:b≤l.length) (hno:∀i (h:i<l.length),a≤i→i<b→z3y sc l[i]=false) (hst:b=l.length∨∃h:b<l.length,z3y sc l[b]=true):z1i sc (l.drop a)=(l.drop a).take (b- a)∧z23 sc (l.drop a)=l.drop b:=by
 have hsplit:l.drop a=(l.drop a).take (b- a)++l.drop b:=by conv=>lhs;rw[←List.take_append_drop (b- a) (l.drop a),List.drop_drop,show a+(b- a)=b by omega]
 have hpos:∀x∈(l.drop a).take (b- a),(!z3y sc x)=true:=by intro x hx;obtain⟨i,hi,rfl⟩:=List.mem_iff_getElem.1 hx;rw[List.length_take,List.length_drop] at hi;rw[List.getElem_take,List.getElem_drop,hno (a+i) (by omega) (by omega) (by omega)];rfl
 have hhead:(l.drop b).takeWhile (fun c=>!z3y sc c)=[]∧(l.drop b).dropWhile (fun c=>!z3y sc c)=l.drop b:=by
  rcases hst with h|⟨h,h2⟩
  ·rw[h,List.drop_of_length_le (Nat.le_refl _)]
   exact⟨rfl,rfl⟩
  ·rw[List.drop_eq_getElem_cons h,List.takeWhile_cons,List.dropWhile_cons]
   simp only[h2];exact⟨rfl,rfl⟩
 unfold z1i z23;constructor
 ·conv=>lhs;rw[hsplit]
  rw[List.takeWhile_append_of_pos hpos,hhead.1,List.append_nil]
 ·conv=>lhs;rw[hsplit]
  rw[List.dropWhile_append_of_pos hpos,hhead.2]
theorem zcj {B R k j:Nat} {bv:Value} {s:ByteArray} {w0:World} {u:Adr} {pv:Value} (a:Nat) {st er:Int} {w:World} (hm:Mem B R k j bv s w0 u pv (a:Nat) st er w) (ha:a≤s.size) (hs:s.size≤35184372088832):Calls prog 220 #[.pointer (some ⟨k,0,none⟩)] w fun e w'=>∃b:Nat,a≤b∧b≤s.size∧e=.returned (.string ⟨(z1i u.scheme (s.data.toList.drop a)).toArray⟩)∧z23 u.scheme (s.data.toList.drop a)=s.data.toList.drop b∧Mem B R k j bv s w0 u pv (b:Nat) st er w':=by
 obtain⟨l,hl⟩:=z09 s.data.toList;have hlen:l.length=s.size:=by rw[hl,Array.length_toList];rfl
 have HXT:Hid (∀i j:Nat,s.extract i j=⟨((l.drop i).take (j- i)).toArray⟩):=by intro i j;rw[hl];exact z1Z s i j
 have HSL:Hid (∀(b:Nat) W,b≤s.size→Mem B R k j bv s w0 u pv (b:Nat) st er W→CQ 178 #[.pointer (some ⟨k,0,none⟩)] W (.bool (z0o (z06 u.scheme) (l.drop b))) (Mem B R k j bv s w0 u pv (b:Nat) st er)):=by intro b W hb hW;rw[hl];refine(zmp k j b s u.scheme W (z00 hW.mach 0) (z00 hW.mach 2) (z00 hW.mach 3) (z00 hW.url 0) (by omega)).mono ?_;rintro e w' ⟨he,n,rfl⟩;exact⟨he,hW.drewN n⟩
 have HMK:Hid (∀(b:Nat) W,b≤s.size→Mem B R k j bv s w0 u pv (b:Nat) st er W→CQ 221 #[.pointer (some ⟨k,0,none⟩)] W (.bool (z2n (l.drop b))) (Mem B R k j bv s w0 u pv (b:Nat) st er)):=by intro b W hb hW;rw[hl];refine(znI k b s W (z00 hW.mach 2) (z00 hW.mach 3) (by omega)).mono ?_;rintro e w' ⟨he,n,rfl⟩;exact⟨he,hW.drewN n⟩
 rw[←hl];have HEND:Hid (∀b,a≤b→b≤s.size→(∀i (h:i<l.length),a≤i→i<b→z3y u.scheme l[i]=false)→(z0o (z06 u.scheme) (l.drop b)=true∨z2n (l.drop b)=true)→s.extract a b=⟨(z1i u.scheme (l.drop a)).toArray⟩∧z23 u.scheme (l.drop a)=l.drop b):=by
  intro b hab hb hno hx;have:=ziE u.scheme l a b hab (by omega) hno (by
   rcases Nat.lt_or_ge b l.length with h|h
   ·right
    refine⟨h,?_⟩;rw[zhk u.scheme l b h];rcases hx with hx|hx<;>simp[hx]
   ·left;omega)
  rw[this.1,HXT.out];exact⟨rfl,this.2⟩
 have HNEXT:Hid (∀b,b≤s.size→(∀i (h:i<l.length),a≤i→i<b→z3y u.scheme l[i]=false)→z0o (z06 u.scheme) (l.drop b)=false→z2n (l.drop b)=false→b<s.size∧∀i (h:i<l.length),a≤i→i<b+1→z3y u.scheme l[i]=false):=by
  intro b hb hno h1 h2;have hlt:b<l.length:=by
   rcases Nat.lt_or_ge b l.length with h|h
   ·exact h
   ·rw[List.drop_of_length_le h] at h2
    cases h2
  refine⟨by omega,fun i h h3 h4=>?_⟩;rcases Nat.lt_or_ge i b with h5|h5
  ·exact hno i h h3 h5
  ·have:i=b:=by omega
   subst this;rw[zhk u.scheme l i hlt,h1,h2];rfl
 have y3:=hm.y3;have HM:=hI hm;clear hm hl HXT;go_enter func220,ntmps220;go_wp2_with fail;refine Calls.mono (HSL a w ha HM) ?_;rintro e w1 ⟨rfl,hm1⟩;have HM1:Hid _:=hm1;clear hm1;go_wp2_with fail;refine Calls.mono (HMK a w1 ha HM1) ?_;rintro e w2 ⟨rfl,hm2⟩;have HM2:Hid _:=hm2;clear hm2 y3 HM HM1;go_wp2_with fail;go_loopw [4,5] (fun x y wr=>∃b:Nat,a≤b∧b≤s.size∧x=.bool (z0o (z06 u.scheme) (l.drop b))∧y=.bool (z2n (l.drop b))∧(∀i (h:i<l.length),a≤i→i<b→z3y u.scheme l[i]=false)∧Mem B R k j bv s w0 u pv (b:Nat) st er wr) (fun x y wr=>s.size-((wr.cell? ⟨k,3,none⟩).map intOf).getD 0|>.toNat)
 case atStart=>exact⟨a,Nat.le_refl _,ha,rfl,rfl,fun i h h1 h2=>by omega,HM2⟩
 case round=>
  obtain⟨b,hab,hb,rfl,rfl,hno,hmr⟩:=hrel;have HNO:=hI hno;have HMR:=hI hmr;have y3:=hmr.y3;have y2:=hmr.y2;have i3:=hmr.f 3;clear hno hmr HM2;cases hx:z0o (z06 u.scheme) (l.drop b) with
  |true=>
   have HF:Hid _:=HEND b hab hb HNO (Or.inl hx);have hex:=HF.out.1;have HBH:Hid _:=HF.out.2;generalize z2n (l.drop b)=mk at*;clear HEND HNEXT HSL HMK HNO hx HF;go_wp2;go_quiet (fail);go_wp2;go_ret;refine⟨b,hab,hb,?_,HBH,HMR.out.drewN _⟩;first|rfl|(rw[hex])
  |false=>
   cases hy:z2n (l.drop b) with
   |true=>
    have HF:Hid _:=HEND b hab hb HNO (Or.inr hy);have hex:=HF.out.1;have HBH:Hid _:=HF.out.2;clear HEND HNEXT HSL HMK HNO hx hy HF;go_wp2;go_quiet (fail);go_wp2;go_ret;refine⟨b,hab,hb,?_,HBH,HMR.out.drewN _⟩;first|rfl|(rw[hex])
   |false=>
    obtain⟨hlt,hno2⟩:=HNEXT b hb HNO hx hy;have HNO2:Hid _:=hno2;have HM3:Hid (Mem B R k j bv s w0 u pv ((b+1:Nat):Int) st er (wr.setCell ⟨k,3,none⟩ (.int .i64 ((b:Int)+1)))):=HMR.out.set_a _;clear HEND HNEXT HNO hno2 hx hy HMR;go_wp2_with fail;refine Calls.mono (HSL (b+1) _ hlt HM3) ?_;rintro e w3 ⟨rfl,hm4⟩;have HM4:Hid _:=hm4;clear hm4;go_wp2_with fail;refine Calls.mono (HMK (b+1) _ hlt HM4) ?_;rintro e w4 ⟨rfl,hm5⟩;have HM5:Hid _:=hm5;have z3:=hm5.y3;clear hm5;go_wp2;go_roundw
    case rel=>exact⟨b+1,by omega,hlt,rfl,rfl,HNO2,HM5⟩
    case measure=>(simp[intOf,y3,z3];try omega)
theorem zfN (l:Bs) (a:Nat) (h:l.length<a+2):z1T (l.drop a)=false:=by unfold z1T;rw[z55 _ (by rw[List.length_take,List.length_drop];omega)];rfl
def zlV:ByteArray:=⟨#[47,92,63,35]⟩
theorem ziF (l:Bs) (a:Nat) (h:l.length=a+2):z1T (l.drop a)=z0h ((l.drop a).take 2):=by unfold z1T;have e:(l.drop a).drop 2=[]:=List.drop_of_length_le (by rw[List.length_drop];omega);rw[e];simp
theorem zgM (l:Bs) (a:Nat) (h:a+2<l.length):z1T (l.drop a)=(z0h ((l.drop a).take 2)&&zlV.data.toList.contains l[a+2]):=by
 unfold z1T;congr 1;rw[List.drop_drop,List.drop_eq_getElem_cons h];have e:z0o (fun c=>c==47||c==92||c==63||c==35) (l[a+2]::List.drop (a+2+1) l)=zlV.data.toList.contains l[a+2]:=by show(l[a+2]==47||l[a+2]==92||l[a+2]==63||l[a+2]==35)=List.contains [47,92,63,35] l[a+2];simp only[List.contains_cons,List.contains_nil,Bool.or_false,Bool.or_assoc]
 rw[e];cases hc:zlV.data.toList.contains l[a+2] with
 |true=>exact List.all_eq_true.2 (fun _ _=>rfl)
 |false=>rfl
theorem z7p (k a:Nat) (s:ByteArray) (w:World) (h2:w.cell? ⟨k,2,none⟩=some (.string s)) (h3:w.cell? ⟨k,3,none⟩=some (.int .i64 (a:Nat))) (ha:a≤s.size) (hs:s.size≤35184372088832):CN 225 #[.pointer (some ⟨k,0,none⟩)] w (.bool (z1T (s.data.toList.drop a))):=by
 obtain⟨l,hl⟩:=z09 s.data.toList;have hlen:l.length=s.size:=by rw[hl,Array.length_toList];rfl
 have HG:Hid (∀(q:Nat) (h:q<s.size) (h2:q<l.length),l[q]=s[q]):=by intro q h h2;subst hl;simp;rfl
 have hext:s.extract a (a+2)=⟨((l.drop a).take 2).toArray⟩:=by rw[hl,z1Z,show a+2- a=2 by omega]
 have HDR:Hid (∀W,C0 223 #[.string ⟨((l.drop a).take 2).toArray⟩] W (.bool (z0h ((l.drop a).take 2)))):=fun W=>z7E _ W;rw[←hl];clear hl;by_cases hsh:s.size<a+2
 ·have HE:Hid _:=zfN l a (by omega)
  have hi:(s.size:Int)<(a:Int)+2:=by omega
  rw[HE.out];clear HG HDR hext;go_enter func225,ntmps225;go_wp2;go_quiet (fail);go_wp2;go_ret;exact⟨rfl,_,rfl⟩
 ·have hi:¬(s.size:Int)<(a:Int)+2:=by omega
  have q1:a+2≤s.size:=by omega
  have q2:(a:Int)+2≤(s.size:Int):=by omega
  have q3:((a:Int)+2).toNat=a+2:=by omega
  have q4:(0:Int)≤(a:Int)+2:=by omega
  have q5:(a:Int)≤(a:Int)+2:=by omega
  have q6:IntKind.i64.wrap ((a:Int)+2)=(a:Int)+2:=by rw[IntWalk.i64_left];unfold wrap64;omega
  have HEE:Hid (s.size=a+2→z1T (l.drop a)=z0h ((l.drop a).take 2)):=fun h=>ziF l a (by omega);have HEM:Hid (∀h:a+2<s.size,z1T (l.drop a)=(z0h ((l.drop a).take 2)&&zlV.data.toList.contains s[a+2])):=by intro h;rw[zgM l a (by omega),HG.out (a+2) h (by omega)]
  have HHS:Hid (∀(c:UInt8) W,C0 110 #[.string ⟨#[47,92,63,35]⟩,.int .u8 c.toNat] W (.bool (zlV.data.toList.contains c))):=fun c W=>znX zlV c W (by decide);generalize(⟨((l.drop a).take 2).toArray⟩:ByteArray)=db at*;generalize z0h ((l.drop a).take 2)=D at*;generalize z1T (l.drop a)=X at*;cases D with
  |false=>
   have HX:Hid (X=false):=by
    rcases Nat.lt_or_ge (a+2) s.size with h|h
    ·exact HEM h
    ·exact HEE (by omega)
   rw[HX.out];clear HEE HEM HHS HX HG hlen;go_enter func225,ntmps225;go_wp2;go_quiet (fail);go_wp2;go_quiet ((go_at_call 223;refine Calls.mono (HDR _) ?_;rintro e w2 ⟨rfl,hw2⟩;exact⟨rfl,_,hw2⟩));go_wp2;go_quiet (fail);go_wp2;go_ret;exact⟨rfl,_,by rw[World.drewN_drewN,World.drewN_drewN]⟩
  |true=>
   by_cases he:s.size=a+2
   ·have HX:Hid _:=HEE he
    have heb:(((a:Int)+2)==(s.size:Int))=true:=(by rw[he];simp);rw[HX.out];clear HEE HEM HHS HX HG hlen he;go_enter func225,ntmps225;go_wp2;go_quiet (fail);go_wp2;go_quiet ((go_at_call 223;refine Calls.mono (HDR _) ?_;rintro e w2 ⟨rfl,hw2⟩;exact⟨rfl,_,hw2⟩));go_wp2;go_quiet (fail);go_wp2;go_ret;exact⟨rfl,_,by rw[World.drewN_drewN,World.drewN_drewN]⟩
   ·have hlt:a+2<s.size:=by omega
    have HX:Hid (X=zlV.data.toList.contains s[a+2]):=(by show _=_;rw[HEM.out hlt,Bool.true_and]);have heb:(((a:Int)+2)==(s.size:Int))=false:=(by rw[beq_eq_false_iff_ne];omega);have HHC:Hid _:=HHS s[a+2];have q7:(a:Int)+2<(s.size:Int):=(by omega);rw[HX.out];generalize zlV.data.toList.contains s[a+2]=Y at*;clear HEE HEM HHS HX HG hlen he;go_enter func225,ntmps225;go_wp2;go_quiet (fail);go_wp2;go_quiet ((go_at_call 223;refine Calls.mono (HDR _) ?_;rintro e w2 ⟨rfl,hw2⟩;exact⟨rfl,_,hw2⟩));go_wp2;go_quiet ((go_at_call 110;refine Calls.mono (HHC _) ?_;rintro e w2 ⟨rfl,hw2⟩;exact⟨rfl,_,hw2⟩));go_wp2;go_ret;exact⟨rfl,_,by rw[World.drewN_drewN,World.drewN_drewN]⟩
theorem Tryz.Mem.reway {B R k j:Nat} {bv:Value} {s:ByteArray} {w0 w:World} {u:Adr} {pv:Value} {a st er:Int} (h:Mem B R k j bv s w0 u pv a st er w) (y:Moor.Way) (ho:u.way.opaq=y.opaq) (hr:WayRow B R w y pv):Mem B R k j bv s w0 {u with way:=y} pv a st er w:=
 ⟨h.below,h.mach,by rw[h.url];unfold z1w;rw[ho],h.bk,h.bj,h.ne,h.kr,h.jr,h.rz,hr⟩
theorem Tryz.Mem.repath {B R k j:Nat} {bv:Value} {s:ByteArray} {w0 w:World} {u:Adr} {pv:Value} {a st er:Int} (h:Mem B R k j bv s w0 u pv a st er w) (y:Moor.Way) (ho:u.way.opaq=y.opaq) (pv':Value) (hr:WayRow B R w y pv'):Mem B R k j bv s w0 {u with way:=y} pv' a st er (w.setCell ⟨j,7,none⟩ pv'):=
 ⟨h.below.setCell h.bj _,(heap_setCell_other w ⟨j,7,none⟩ k _ h.ne).trans h.mach,(heap_setCell_same w j 7 _ _ pv' h.url).trans (by unfold z1w;rw[ho];rfl),h.bk,h.bj,h.ne,h.kr,h.jr,by simpa using h.rz,hr.setCell h.bj h.jr _⟩
theorem Tryz.Mem.owned {B R k j:Nat} {bv:Value} {s:ByteArray} {w0 w:World} {u:Adr} {pv:Value} {a st er:Int} (h:Mem B R k j bv s w0 u pv a st er w) (ho:u.way.opaq=false):w.ownsRow R 9 1 pv u.way.segs.length (z1J u.way.segs):=by
 rcases h.row with⟨_,hr⟩|⟨h2,_⟩
 ·exact hr
 ·rw[ho] at h2;cases h2
theorem zfO (x:Bs) (hd:z0h x=true):∃(h:1<(⟨x.toArray⟩:ByteArray).size),z15 x=decide ((((⟨x.toArray⟩:ByteArray)[1]'h).toNat:Int)=58):=by
 match x,hd with
 | [p,q],hd=>refine⟨by show 1<2;omega,?_⟩;show(z0h [p,q]&&q==58)=_;rw[hd,Bool.true_and];show(q==58)=decide ((q.toNat:Int)=58);rw[Bool.eq_iff_iff,beq_iff_eq,decide_eq_true_iff];exact z1e q 58 (by decide)
theorem zag {B R k j:Nat} {bv:Value} {s:ByteArray} {w0:World} {u:Adr} {pv:Value} {a st er:Int} {w:World} (hm:Mem B R k j bv s w0 u pv a st er w) (ho:u.way.opaq=false):Calls prog 224 #[.pointer (some ⟨k,0,none⟩)] w fun e w'=>e=.returned (.tuple #[])∧∃pv',Mem B R k j bv s w0 {u with way:=⟨false,[],z08 u.scheme u.way.segs⟩} pv' a st er w':=by
 obtain⟨sc,au,⟨op,tx,segs⟩,qq,ff⟩:=u;have ho1:op=false:=ho;subst ho1;have hown:w.ownsRow R 9 1 pv segs.length (z1J segs):=hm.owned ho;obtain⟨sp,cap,hpv,hnc,hcm,hsh⟩:=z1t hown;have hcm2:cap≤9223372036854775807:=hcm;have y0:=hm.y0;have u7:=hm.v7;have u0:=hm.v0;have i7:=hm.g 7;rw[hpv] at hown u7;have HLESS:Hid _:=zeA sc hown;have HPUT:Hid (∀n,w.ownsRow R 9 1 (.slice sp (z08 sc segs).length cap) (z08 sc segs).length (z1J (z08 sc segs))→Mem B R k j bv s w0 (⟨sc,au,⟨false,[],z08 sc segs⟩,qq,ff⟩:Adr) (.slice sp (z08 sc segs).length cap) a st er ((w.drewN n).setCell ⟨j,7,none⟩ (.slice sp (z08 sc segs).length cap))):=by intro n h;exact(hm.drewN n).repath ⟨false,[],_⟩ ho _ (Or.inl ⟨rfl,h⟩)
 have HSAME:Hid (z08 sc segs=segs→Mem B R k j bv s w0 (⟨sc,au,⟨false,[],z08 sc segs⟩,qq,ff⟩:Adr) pv a st er w):=by intro h;rw[h];exact hm.reway ⟨false,[],segs⟩ ho (Or.inl ⟨rfl,by rw[hpv];exact hown⟩)
 clear hm hcm;show Calls _ _ _ _ fun e w'=>e=.returned (.tuple #[])∧∃pv',Mem B R k j bv s w0 (⟨sc,au,⟨false,[],z08 sc segs⟩,qq,ff⟩:Adr) pv' a st er w';clear ho;match segs,hnc,hsh with
 | [],hnc,hsh=>have HF:Hid _:=HSAME (by unfold z08;rw[if_neg (by simp)];rfl);clear HSAME HPUT HLESS hown hsh;go_enter func224,ntmps224;go_wp2;exact bodyPost_ret (v:=.tuple #[]) (z05 rfl _ _ _) rfl ⟨rfl,_,HF⟩
 |x::r,hnc,hsh=>
  obtain⟨g,hg,hcs⟩:=hsh (by simp);have c0:w.cell? ⟨g,0,none⟩=some (.string ⟨x.toArray⟩):=hcs 0 _ rfl;have HDR:Hid (∀W,C0 223 #[.string ⟨x.toArray⟩] W (.bool (z0h x))):=fun W=>z7E _ W;have HTX:Hid _:=zfO x;have HWL:Hid (¬(r=[]∧sc=sFile∧z15 x=true)→(z08 sc (x::r)).length=r.length):=by intro h;unfold z08;rw[if_neg (fun h2=>h ⟨by have:=h2.1;simpa using this,h2.2.1,h2.2.2⟩),List.length_dropLast];rfl
  have HWS:Hid (r=[]→sc=sFile→z15 x=true→z08 sc (x::r)=x::r):=by intro h1 h2 h3;unfold z08;rw[if_pos ⟨by rw[h1];rfl,h2,h3⟩]
  rw[hg] at u7 HPUT HLESS;have hn1:r.length+1≤cap:=hnc;have u7b:w.cell? ⟨j,7,none⟩=some (.slice (some ⟨g,0,none⟩) (r.length+1) cap):=u7;clear hown hcs u7 hg hsh hnc hpv;obtain⟨m,hmr⟩:=z09 r.length;have HR0:Hid (m=0↔r=[]):=by rw[hmr];exact⟨fun h=>List.length_eq_zero_iff.1 h,fun h=>by rw[h];rfl⟩
  rw[←hmr] at hn1 u7b;have HWL2:Hid (¬(r=[]∧sc=sFile∧z15 x=true)→(z08 sc (x::r)).length=m):=by rw[hmr];exact HWL
  clear hmr HWL;generalize hxb:(⟨x.toArray⟩:ByteArray)=xb at*;clear hxb;have hnb:((m:Int)+1==0)=false:=by rw[beq_eq_false_iff_ne];omega
  have q1:m≤cap:=by omega
  have q2:(m:Int)≤(cap:Int):=by omega
  have q3:(0:Int)≤(m:Int):=by omega
  have q4:IntKind.i64.wrap ((m:Int)+1- 1)=(m:Int):=by rw[IntWalk.i64_left];unfold wrap64;omega
  have q5:IntKind.i64.wrap (m:Int)=(m:Int):=by rw[IntWalk.i64_left];unfold wrap64;omega
  have HDROP:Hid (¬(r=[]∧sc=sFile∧z15 x=true)→∀n,∃pv',Mem B R k j bv s w0 (⟨sc,au,⟨false,[],z08 sc (x::r)⟩,qq,ff⟩:Adr) pv' a st er ((w.drewN n).setCell ⟨j,7,none⟩ (.slice (some ⟨g,0,none⟩) m cap))):=by intro h n;have:=HPUT n HLESS;rw[HWL2.out h] at this;exact⟨_,this⟩
  clear HPUT HLESS HWL2;by_cases hf:sc=sFile
  ·have e1:((⟨sc.toArray⟩:ByteArray).toList==[102,105,108,101])=true:=z4t sc _ hf
   generalize hscb:(⟨sc.toArray⟩:ByteArray)=scb at*;clear hscb;by_cases h1:m=0
   ·have hr0:=HR0.out.1 h1
    have h1b:((m:Int)+1==1)=true:=(by rw[h1];rfl);clear h1;cases hd:z0h x with
    |false=>
     have ht:z15 x=false:=(by show(z0h x&&_)=false;rw[hd];rfl);have HF:Hid _:=HDROP (fun h=>by rw[ht] at h;cases h.2.2);rw[hd] at HDR;clear hd HTX HWS HDROP HSAME HR0 ht hf;go_enter func224,ntmps224;go_wp2_with fail;refine Calls.mono (HDR _) ?_;rintro e w1 ⟨rfl,hw1⟩;obtain rfl:=hw1.symm;go_wp2;go_region;all_goals
      go_wp2;exact bodyPost_end (v:=.tuple #[]) (z05 rfl _ _ _) rfl ⟨rfl,HF 1⟩
    |true=>
     obtain⟨h58,ht⟩:=HTX hd;rw[hd] at HDR;by_cases hc:((xb[1]'h58).toNat:Int)=58
     ·rw[decide_eq_true hc] at ht
      have HF:Hid _:=HSAME (HWS hr0 hf ht);clear hd HTX HWS HDROP HSAME HR0 ht hf;go_enter func224,ntmps224;go_wp2_with fail;refine Calls.mono (HDR _) ?_;rintro e w1 ⟨rfl,hw1⟩;obtain rfl:=hw1.symm;go_wp2;exact bodyPost_ret (v:=.tuple #[]) (z05 rfl _ _ _) rfl ⟨rfl,_,HF⟩
     ·rw[decide_eq_false hc] at ht
      have HF:Hid _:=HDROP (fun h=>by rw[ht] at h;cases h.2.2);have hcb:(((xb[1]'h58).toNat:Int)==58)=false:=(by simpa using hc);clear hd HTX HWS HDROP HSAME HR0 ht hf hc;go_enter func224,ntmps224;go_wp2_with fail;refine Calls.mono (HDR _) ?_;rintro e w1 ⟨rfl,hw1⟩;obtain rfl:=hw1.symm;go_wp2;go_region;all_goals
       go_wp2;exact bodyPost_end (v:=.tuple #[]) (z05 rfl _ _ _) rfl ⟨rfl,HF 1⟩
   ·have HF:Hid _:=HDROP (fun h=>h1 (HR0.out.2 h.1))
    have h1b:((m:Int)+1==1)=false:=(by rw[beq_eq_false_iff_ne];omega);generalize z0h x=D at*;clear HTX HWS HDROP HSAME HR0 hf;go_enter func224,ntmps224;go_wp2_with fail;refine Calls.mono (HDR _) ?_;rintro e w1 ⟨rfl,hw1⟩;obtain rfl:=hw1.symm;go_wp2;go_region;all_goals
     go_wp2;exact bodyPost_end (v:=.tuple #[]) (z05 rfl _ _ _) rfl ⟨rfl,HF 1⟩
  ·have HF:Hid _:=HDROP (fun h=>hf h.2.1)
   have e1:((⟨sc.toArray⟩:ByteArray).toList==[102,105,108,101])=false:=z38 sc _ hf;generalize hscb:(⟨sc.toArray⟩:ByteArray)=scb at*;clear hscb;generalize z0h x=D at*;clear HTX HWS HDROP HSAME HR0 hf;go_enter func224,ntmps224;go_wp2_with fail;refine Calls.mono (HDR _) ?_;rintro e w1 ⟨rfl,hw1⟩;obtain rfl:=hw1.symm;go_wp2;go_region;all_goals
    go_wp2;exact bodyPost_end (v:=.tuple #[]) (z05 rfl _ _ _) rfl ⟨rfl,HF 1⟩
def zem (w:World) (xv:Value) (m:Nat) (news:List Value):Prop:=(xv=.slice none 0 0∧m=0∧news=[])∨∃ad c,xv=.slice (some ad) m c∧news.length=m∧∀j u,news[j]?=some u→w.cell? (ad.add j)=some u
theorem z2o {P:Program} (w:World) {ops:Array Oper} {o:Oper} {a:Act} {K:Act→World→Prop} {Q:Exit→Act→World→Prop} {E:Prop} (hgd:o.guard=none) (s x:Operand) (t:TypeId) (ho:o.op=.call {callee:=.builtin .append,args:=#[s,x],argTypes:=#[t,t]}) (base:Nat) (e:TypeId) (i:TypeInfo) (z:Value) (bytes:Nat) (ht:P.underlying t=some (.slice e)) (hi:P.info? e=some i) (hz:i.zero=some z) (hsize:i.size=1) (hby:i.bytes=bytes) (hzs:z.cells.size=1) (v:Value) (n:Nat) (xs:List Value) (hs:a.eval s=v) (hown:w.ownsRow base e 1 v n xs) (xv:Value) (m:Nat) (news:List Value) (hx:a.eval x=xv) (hrow:zem w xv m news) (h1:∀u∈news,u.oneCell'=true) (h63:n+m≤maxLen) (hbytes:(n+m)*bytes≤140737488355328) (hbase:base≤w.heap.size) (h:∀sp cap w',w'.ownsRow base e 1 (.slice sp (n+m) cap) (n+m) (xs++news)→w.grownBy w' v.ownBlock→K (a.put o.dst (.slice sp (n+m) cap)) w'):if Region.wanted o (yielded ops a.tmps)=true then Oper.wp P o a w K Q else E:=by
 have hw:Region.wanted o (yielded ops a.tmps)=true:=by simp[Region.wanted,hgd]
 rw[if_pos hw];have key:∃v' w',(Builtin.append_ #[t,t] o.type #[v,xv]).run P w=.ok v' w'∧w'.ownsRow base e 1 v' (n+m) (xs++news)∧w.grownBy w' v.ownBlock:=by
  rcases hrow with⟨rfl,rfl,rfl⟩|⟨ad,c,rfl,hl,hn⟩
  ·refine⟨v,w,run_append_owned_none (P:=P) w base t o.type e i 1 ht hi v n xs hown,?_,⟨rfl,rfl,rfl,Nat.le_refl _,fun _ _ _=>rfl⟩⟩
   rw[List.append_nil];exact hown
  ·obtain⟨v',w',hr,h2,h3,_⟩:=run_append_own (P:=P) w base t o.type e i z 1 bytes ht hi hz hsize hby hzs (by decide) v n xs hown ad m c news (by omega) hn h1 h63 hbytes hbase
   exact⟨v',w',hr,h2,h3⟩
 obtain⟨v',w',hr,h2,h3⟩:=key;obtain⟨sp,cap,rfl,_⟩:=z1t h2;unfold Oper.wp execOp;simp only[ho,resolve,invoke,builtin,Sem.run_bind,Sem.run_pure,Result.andThen_ok,List.map_toArray,List.map_cons,List.map_nil,hs,hx,hr];exact h sp cap w' h2 h3
section
variable {B R k j : Nat} {bv : Value} {s : ByteArray} {w0 w : World} {u : Adr} {pv : Value} {a st er : Int}
theorem Tryz.Mem.grown (h:Mem B R k j bv s w0 u pv a st er w) (ho:u.way.opaq=false) {w5:World} (hg:w.grownBy w5 pv.ownBlock) (segs:List Bs) (pv':Value) (hr:w5.ownsRow R 9 1 pv' segs.length (z1J segs)):Mem B R k j bv s w0 {u with way:=⟨false,[],segs⟩} pv' a st er (w5.setCell ⟨j,7,none⟩ pv'):=by
 have hlt:=(h.owned ho).lt;have hk:some k≠pv.ownBlock:=fun e=>by have:=(hlt k e.symm).1;have:=h.kr;omega
 have hj:some j≠pv.ownBlock:=fun e=>by have:=(hlt j e.symm).1;have:=h.jr;omega
 have hb5:=h.below.grown hg h.bz (fun q hq=>by have:=(hlt q hq).1;have:=h.kr;have:=h.bk;omega);have hm5:=(hg.block k h.kz hk).trans h.mach;have hu5:=(hg.block j h.jz hj).trans h.url;exact⟨hb5.setCell h.bj _,(heap_setCell_other w5 ⟨j,7,none⟩ k _ h.ne).trans hm5,(heap_setCell_same w5 j 7 _ _ pv' hu5).trans (by unfold z1w;rw[ho];rfl),h.bk,h.bj,h.ne,h.kr,h.jr,by simpa using Nat.le_trans h.rz hg.size,Or.inl ⟨rfl,ownsRow_setCell_below hr h.jr _⟩⟩
theorem Tryz.Mem.far (h:Mem B R k j bv s w0 u pv a st er w) (ho:u.way.opaq=false) {w5:World} (hg:w.grownBy w5 pv.ownBlock):w5.heap[k]?=some (.cells (z8i j bv s a st er) 168 (0,0))∧w5.heap[j]?=some (.cells (z1w u pv) 116 (0,0))∧Below B w0 w5:=by
 have hlt:=(h.owned ho).lt;have hk:some k≠pv.ownBlock:=fun e=>by have:=(hlt k e.symm).1;have:=h.kr;omega
 have hj:some j≠pv.ownBlock:=fun e=>by have:=(hlt j e.symm).1;have:=h.jr;omega
 exact⟨(hg.block k h.kz hk).trans h.mach,(hg.block j h.jz hj).trans h.url,h.below.grown hg h.bz (fun q hq=>by have:=(hlt q hq).1;have:=h.kr;have:=h.bk;omega)⟩
theorem Tryz.Mem.alloc (h:Mem B R k j bv s w0 u pv a st er w) (o:Obj):Mem B R k j bv s w0 u pv a st er (w.alloc o):=h.off ((Below.refl _ _).alloc (Nat.le_refl _) o)
theorem Tryz.Mem.drew (h:Mem B R k j bv s w0 u pv a st er w):Mem B R k j bv s w0 u pv a st er w.drew:=h.off (Below.refl _ _).drew
end
structure Tryz.UBase (B:Nat) (w0:World) (b:Adr) (bj:Nat) (bpv:Value):Prop where
 lt:bj<B
 url:w0.heap[bj]?=some (.cells (z1w b bpv) 116 (0,0))
 row:(b.way.opaq=false∧zem w0 bpv b.way.segs.length (z1J b.way.segs)∧(∀g,bpv.ownBlock=some g→g<B)∧∃sp cap,bpv=.slice sp b.way.segs.length cap∧((0<b.way.segs.length)→∃g,sp=some ⟨g,0,none⟩))∨(b.way.opaq=true∧∃g cap,bpv=.slice (some ⟨g,0,none⟩) 1 cap∧1≤cap∧cap≤maxLen∧w0.cell? ⟨g,0,none⟩=some (.string ⟨b.way.text.toArray⟩)∧g<B)
theorem ziG (a:Go.Addr) (j:Nat):(a.add j).block=a.block:=by unfold Addr.add;split<;>rfl
theorem Tryz.UBase.rowAt {B:Nat} {w0 w:World} {b:Adr} {bj:Nat} {bpv:Value} (h:UBase B w0 b bj bpv) (hb:Below B w0 w) (ho:b.way.opaq=false):zem w bpv b.way.segs.length (z1J b.way.segs):=by
 rcases h.row with⟨_,hr,hlt,_⟩|⟨h2,_⟩
 ·rcases hr with hr|⟨ad,c,hv,hl,hn⟩
  ·exact Or.inl hr
  ·refine Or.inr ⟨ad,c,hv,hl,fun j u hu=>?_⟩
   have hg:=hlt ad.block (by rw[hv];rfl);rw[hb.cell (p:=ad.add j) (by rw[ziG];exact hg)];exact hn j u hu
 ·rw[ho] at h2;cases h2
def z3u (B R k j:Nat) (bv:Value) (s:ByteArray) (w0:World) (c:Mc) (w:World):Prop:=
 ∃pv,∃a:Nat,Mem B R k j bv s w0 c.u pv (a:Nat) (c.st:Nat) c.err w∧s.data.toList.drop a=c.r∧(a≤s.size∨(c.st=13∧a≤s.size+1))
theorem zmq {B R k j:Nat} {bv:Value} {s:ByteArray} {w0 w:World} {u:Adr} {pv:Value} {a st:Nat} {er:Int} (h:Mem B R k j bv s w0 u pv ((a+1:Nat):Int) (z61 (s.data.toList.drop a):Nat) er w) (ha:a≤s.size):z3u B R k j bv s w0 (z0L ⟨u,s.data.toList.drop a,st,er⟩) w:=by
 refine⟨pv,a+1,h,?_,?_⟩
 ·show _=(s.data.toList.drop a).drop 1
  rw[List.drop_drop]
 ·rcases Nat.lt_or_ge a s.size with h2|h2
  ·exact Or.inl h2
  ·refine Or.inr ⟨?_,by omega⟩
   show z61 (s.data.toList.drop a)=13;rw[List.drop_of_length_le (by rw[Array.length_toList];exact h2)];rfl
structure OnlyAt (j:Nat) (w w':World):Prop where
 os:w'.os=w.os
 tape:w'.tape=w.tape
 output:w'.output=w.output
 size:w'.heap.size=w.heap.size
 oth:∀q,q≠j→w'.heap[q]?=w.heap[q]?
theorem OnlyAt.refl (j:Nat) (w:World):OnlyAt j w w:=⟨rfl,rfl,rfl,rfl,fun _ _=>rfl⟩
theorem OnlyAt.set {j:Nat} {w w':World} (h:OnlyAt j w w') (i:Nat) (v:Value):OnlyAt j w (w'.setCell ⟨j,i,none⟩ v):=⟨h.os,h.tape,h.output,by simpa using h.size,fun q hq=>(heap_setCell_other w' ⟨j,i,none⟩ q v hq).trans (h.oth q hq)⟩
theorem OnlyAt.drewN {j:Nat} {w w':World} (h:OnlyAt j w w') (n:Nat):OnlyAt j w (w'.drewN n):=⟨h.os,h.tape,h.output,h.size,h.oth⟩
theorem OnlyAt.drew {j:Nat} {w w':World} (h:OnlyAt j w w'):OnlyAt j w w'.drew:=⟨h.os,h.tape,h.output,h.size,h.oth⟩
theorem OnlyAt.below {B j:Nat} {w0 w w':World} (h:OnlyAt j w w') (hb:Below B w0 w) (hj:B≤j):Below B w0 w':=⟨h.os.trans hb.os,h.tape.trans hb.tape,h.output.trans hb.output,by rw[h.size];exact hb.size,fun q hq=>(h.oth q (by omega)).trans (hb.block q hq)⟩
theorem Tryz.WayRow.only {B R j:Nat} {w w':World} {y:Moor.Way} {pv:Value} (h:WayRow B R w y pv) (ho:OnlyAt j w w') (h1:B≤j) (h2:j<R):WayRow B R w' y pv:=by
 rcases h with⟨hop,hr⟩|⟨hop,g,cap,hv,h3,h4,hc,hg,hb⟩
 ·refine Or.inl ⟨hop,hr.1,?_⟩
  rcases hr.2 with hx|⟨g,cap,cur,e1,e2,e3,e4⟩
  ·exact Or.inl hx
  ·exact Or.inr ⟨g,cap,cur,e1,e2,(ho.oth g (by omega)).trans e3,e4⟩
 ·refine Or.inr ⟨hop,g,cap,hv,h3,h4,?_,by rw[ho.size];exact hg,hb⟩
  rw[←hc];exact World.cell?_of_block (ho.oth g (by omega))
theorem Tryz.Mem.upd {B R k j:Nat} {bv:Value} {s:ByteArray} {w0 w:World} {u:Adr} {pv:Value} {a st er:Int} (h:Mem B R k j bv s w0 u pv a st er w) {w':World} (ho:OnlyAt j w w') {u':Adr} {pv':Value} (hj:w'.heap[j]?=some (.cells (z1w u' pv') 116 (0,0))) (hrow:WayRow B R w' u'.way pv'):Mem B R k j bv s w0 u' pv' a st er w':=
 ⟨ho.below h.below h.bj,(ho.oth k h.ne).trans h.mach,hj,h.bk,h.bj,h.ne,h.kr,h.jr,by rw[ho.size];exact h.rz,hrow⟩
theorem Tryz.Mem.upd2 {B R k j:Nat} {bv:Value} {s:ByteArray} {w0 w:World} {u:Adr} {pv:Value} {a st er:Int} (h:Mem B R k j bv s w0 u pv a st er w) (i1 i2 n:Nat) (v1 v2:Value) {u':Adr} (hcs:((z1w u pv).setIfInBounds i1 v1).setIfInBounds i2 v2=z1w u' pv) (hw:u'.way=u.way):Mem B R k j bv s w0 u' pv a st er (((w.setCell ⟨j,i1,none⟩ v1).drewN n).setCell ⟨j,i2,none⟩ v2):=by have ho:=(((OnlyAt.refl j w).set i1 v1).drewN n).set i2 v2;refine h.upd ho ?_ (by rw[hw];exact h.row.only ho h.bj h.jr);rw[←hcs];exact heap_setCell_same _ j i2 _ _ v2 (heap_setCell_same w j i1 _ _ v1 h.url)
end Go.Proofs
