import Derived.Test.YtkcnageeamappaaGreatDoorXAParts
set_option maxHeartbeats 32000000
set_option maxRecDepth 8000
namespace Go.Proofs
open Go.RowKit Go.Moor Go.Proofs.Tryz
theorem zdJ (a:Adr):(z3D a).all (·.oneCell')=true:=by unfold z3D;simp[Value.oneCell']
theorem zas (t:Bs) (a:Adr) (h:z2T t=.ok a):Small 1000000 1000000 a:=by
 unfold z2T at h;split at h
 ·cases h
 ·have hs:=z2Q t none 20000 0 a (by omega) (by simp) h
  exact⟨by have:=hs.scheme;omega,by have:=hs.user;omega,by have:=hs.pass;omega,by have:=hs.host;omega,hs.port,by have:=hs.text;omega,by have:=hs.count;omega,fun x hx=>by have:=hs.segs x hx;omega,by have:=hs.query;omega,by have:=hs.frag;omega⟩
theorem znT (t:Bs) (a:Adr) (w:World) (ho:z2T t=.ok a) (ht:t.length≤maxLen) (henv:Env2 w):CB 22 #[.string ⟨t.toArray⟩] w (.tuple #[.agg (z3D a),.int .i64 0]):=by
 obtain⟨W,hW⟩:=z09 (w.alloc (.cells z0p 40));have hBW:Below w.heap.size w W:=by rw[hW];exact(Below.refl _ _).alloc (Nat.le_refl _) _
 have HBW:=hI hBW;have hsize:W.heap.size=w.heap.size+1:=by rw[hW];simp
 have hz0:W.heap[w.heap.size]?=some (.cells z0p 40 (0,0)):=by rw[hW];exact z0K w _ _
 have HZ:Hid (∀w1,Below W.heap.size W w1→w1.heap[w.heap.size]?=some (.cells z0p 40 (0,0))):=fun w1 h1=>(h1.block w.heap.size (by omega)).trans hz0;have HR:Hid (Calls prog 36 #[.string ⟨t.toArray⟩] W fun e w'=>(∃v,e=.returned (.tuple #[.agg (z0f a v),.int .i64 0])∧z1f w' v a.way.segs)∧Below W.heap.size W w'):=by have:=ziS t W ht (henv.below hBW);rw[ho] at this;exact this
 have HSM:Hid _:=zas t a ho;clear ht henv hBW hz0 ho;go_enter func22,ntmps22;go_upto_region 1 with fail;unfold z0p at hW;rw[←hW];clear hW;go_wp2_with fail;refine Calls.mono HR ?_;rintro e w2 ⟨⟨v,rfl,hsr⟩,b2⟩;have hv1:(z0f a v).all (·.oneCell')=true:=by obtain⟨⟨sp,cap,rfl,_⟩,_⟩:=hsr;exact z3g _ _ rfl
 obtain⟨V,hV⟩:=z09 ((w2.alloc (.cells z03 77)).setRow w2.heap.size (z0f a v));have HN:Hid ((w2.alloc (.cells z03 77)).heap[w2.heap.size]?=some (.cells z03 77 (0,0))):=z0K w2 _ _;have hVc:V.heap[w2.heap.size]?=some (.cells (z0f a v) 77 (0,0)):=by rw[hV];exact z3a HN _
 have hVB:Below w2.heap.size w2 V:=by rw[hV];exact below_setRow ((Below.refl _ _).alloc (Nat.le_refl _) _) (Nat.le_refl _) _
 have HVB:Hid _:=b2.trans (hVB.mono b2.size);have HP:Hid _:=zmC a v V (z19 hsr hVB) HSM;have HZS:Hid ((prog.info? 77).map (·.size)=some (z0f a v).size):=z1n;have HON:=hI hv1;have HZO:Hid (z03.size=(z0f a v).size):=(rfl:z03.size=(z0f a v).size);have HVC:Hid (((w2.alloc (.cells z03 77)).setRow w2.heap.size (z0f a v)).heap[w2.heap.size]?=some (.cells (z0f a v) 77 (0,0))):=by show _=_;rw[←hV];exact hVc
 have HVE:=hI hV;have HPZ:Hid ((prog.info? 40).map (·.size)=some (z3D a).size):=zmz;have HPO:Hid _:=zdJ a;have HPS:Hid (z0p.size=(z3D a).size):=(rfl:z0p.size=(z3D a).size);clear hsr b2 hVc hVB hv1 hV;generalize z0f a v=cs at*;obtain⟨pc,hpc⟩:=z09 (z3D a);rw[←hpc] at HP HPZ HPO HPS;have HPC:=hI hpc;clear hpc;go_wp2_with(first|refine wpList_store_row rfl 77 _ _ rfl w2.heap.size cs rfl rfl 77 z03 HN HZS HZO HON ?_|refine wpList_load_row rfl 77 _ rfl w2.heap.size rfl 77 cs (0,0) _ HVC underlying77 rfl HZS ?_);have hve:=HVE;unfold z03 at hve;rw[←hve];clear hve HVE;refine Calls.mono HP ?_;rintro e w3 ⟨rfl,b3⟩;have HB3:Hid _:=HVB.out.trans (b3.mono HVB.out.size);have HZ3:Hid _:=HZ w3 HB3;clear b3;go_wp2_with(refine wpList_store_row rfl 40 _ _ rfl w.heap.size pc rfl rfl 40 z0p HZ3 HPZ HPS HPO ?_);have hld:=run_loadVar_row (P:=prog) _ w.heap.size 40 40 pc (0,0) _ (z3a HZ3 pc) underlying40 rfl HPZ;refine bodyPost_ret (v:=.tuple #[.agg pc,.int .i64 0]) ?_ rfl ⟨by rw[HPC.out],below_setRow (HBW.out.trans (HB3.out.mono (by omega))) (Nat.le_refl _) _⟩;rw[results_cell_tmp rfl];simp[asAddr,Result.andThen,hld]
theorem zbk (b:Adr) (h:(none:Option Adr)=some b):Moor.Good hostTell b:=by cases h
theorem zcd (t:Bs) (u:Adr) (h:z0C hostTell t none=.ok u):Moor.Good hostTell u:=zd2 hostTell zeO t none zbk u h
theorem zaJ:∀l:List Bs,(∀x∈l,x.length≤20000)→(z0F l).length≤20001*l.length
 | [],_=>by simp[z0F]
 |x::l,h=>by
  have h1:=zaJ l (fun y hy=>h y (by simp[hy]));have h2:=h x (by simp);have e:z0F (x::l)=(47::x)++z0F l:=rfl;rw[e,List.length_append,List.length_cons,List.length_cons];omega
theorem zce (u:Adr) (hs:Small 20000 4100 u):(z1X u.way).length≤100000000:=by
 unfold z1X;split
 ·have:=hs.text;omega
 ·have h1:=zaJ u.way.segs hs.segs
  have h2:=hs.count;omega
theorem zlN (us:Bool) (u:Adr) (hs:Small 20000 4100 u):(z3Q us u).length≤200000000:=by
 have h0:=hs.scheme;have h1:=hs.user;have h2:=hs.pass;have h3:=hs.host;have hl:(z2I us u.auth).length≤50000:=by
  unfold z2I z16;split
  ·split
   ·simp;omega
   ·split
    ·simp;omega
    ·simp
  ·simp
 have hp:(z1m u.auth).length≤20020:=by
  unfold z1m;split
  ·omega
  ·rename_i hne
   rcases hs.port with h|h
   ·exact absurd h hne
   ·have:(z42 u.auth.port).length≤10:=z74 _ (by omega)
    simp;omega
 unfold z3Q;split
 ·simp
  omega
 ·simp
  omega
theorem zmk (j:Nat) (u:Adr) (pv:Value) (w:World) (hu:UAt w j u pv) (hs:Small 20000 4100 u) (hg:Moor.Good hostTell u):CB 69 #[.pointer (some ⟨j,0,none⟩)] w (.string ⟨(z3p u).toArray⟩):=
 znA j u pv w hu hs.port (fun h=>(hg.opaq h).2.1) (by have:=hs.scheme;have:=hs.user;have:=hs.pass;have:=hs.host;omega) (zce u hs) (by have:=hs.count;omega) (by have:=hs.query;have:=hs.frag;omega) (zlN true u hs)
theorem ziv (t:Bs):z1c hostTell t []=z0C hostTell t none:=by unfold z1c;rw[if_pos rfl]
theorem ziw (t b:Bs) (hb:b≠[]) (n:Int) (h:z0C hostTell b none=.error n):z1c hostTell t b=.error 2:=by unfold z1c;rw[if_neg hb,h]
theorem zk5 (t b:Bs) (hb:b≠[]) (x:Adr) (h:z0C hostTell b none=.ok x):z1c hostTell t b=z0C hostTell t (some x):=by unfold z1c;rw[if_neg hb,h]
theorem zfF {M:Nat} {x:Adr} (h:Small 20000 M x) (hm:M≤4100):Small 20000 4100 x:=⟨h.scheme,h.user,h.pass,h.host,h.port,h.text,Nat.le_trans h.count hm,h.segs,h.query,h.frag⟩
theorem zcf (t b:Bs) (w:World) (ht:t.length≤maxLen) (hb:b.length≤maxLen):CE 44 #[.string ⟨t.toArray⟩,.string ⟨b.toArray⟩] w (z68 (z5H hostTell t b)):=by
 have hts:=z07 t;have hbs:=z07 b;unfold maxLen at ht hb;by_cases hl:2000<t.length∨2000<b.length
 ·have HP:Hid (z5H hostTell t b=.error 1):=by show _=_;unfold z5H;rw[if_pos (by omega)]
  rw[HP.out];generalize(⟨t.toArray⟩:ByteArray)=tb at*;generalize(⟨b.toArray⟩:ByteArray)=bb at*;by_cases h1:2000<t.length
  ·have h1i:(2000:Int)<(tb.size:Int):=by omega
   clear hl HP;go_enter func44,ntmps44;go_wp2;go_ret2;exact⟨rfl,Below.refl _ _⟩
  ·have h1i:¬(2000:Int)<(tb.size:Int):=by omega
   have h2i:(2000:Int)<(bb.size:Int):=(by omega);clear hl HP;go_enter func44,ntmps44;go_wp2;go_ret2;exact⟨rfl,Below.refl _ _⟩
 ·have h1:t.length≤2000:=by omega
  have h2:b.length≤2000:=by omega
  have HP:=hI (zbs t b h1 h2);have HRT:Hid (∀(base:Option Adr) bv W,z6s W.heap.size W bv base→(∀x,base=some x→Moor.Good hostTell x∧Small 20000 2001 x)→Calls prog 68 #[.string ⟨t.toArray⟩,bv] W fun e w'=>zo3 W (z0C hostTell t base) e w'):=by
   intro base bv W h3 h4;exact zny t bv base W h3 (fun x hx=>(h4 x hx).1) (by
    cases base with
    |none=>exact Nat.zero_le _
    |some x=>have:=(h4 x rfl).2.count;show x.way.segs.length≤_;omega) h1
  have HRB:=hI fun W=>zny b (.pointer none) none W rfl zbk (Nat.zero_le _) h2;have HTX:Hid (∀(base:Option Adr) u j pv W,(∀x,base=some x→Moor.Good hostTell x∧Small 20000 2001 x)→z0C hostTell t base=.ok u→UAt W j u pv→CB 69 #[.pointer (some ⟨j,0,none⟩)] W (.string ⟨(z3p u).toArray⟩)):=by intro base u j pv W h3 h4 h5;refine zmk j u pv W h5 ?_ (zd2 hostTell zeO t base (fun x hx=>(h3 x hx).1) u h4);exact zfF (z2Q t base 20000 2001 u (by omega) (fun x hx=>(h3 x hx).2) h4) (by omega)
  have HBG:Hid (∀x,z0C hostTell b none=.ok x→Moor.Good hostTell x∧Small 20000 2001 x):=by intro x hx;have hs:=z2Q b none 20000 0 x (by omega) (by simp) hx;exact⟨zcd b x hx,⟨hs.scheme,hs.user,hs.pass,hs.host,hs.port,hs.text,by have:=hs.count;omega,hs.segs,hs.query,hs.frag⟩⟩
  have h1i:¬(2000:Int)<((⟨t.toArray⟩:ByteArray).size:Int):=by omega
  have h2i:¬(2000:Int)<((⟨b.toArray⟩:ByteArray).size:Int):=by omega
  have HBM:Hid _:=z8q b;rw[HP.out];generalize(⟨t.toArray⟩:ByteArray)=tb at*;generalize(⟨b.toArray⟩:ByteArray)=bb at*;clear hl HP hts hbs ht hb h1 h2;obtain⟨be,hbe⟩:∃be,bb.toList.isEmpty=be:=⟨_,rfl⟩;have HBM2:=hI (hbe.symm.trans HBM.out);clear HBM;go_enter func44,ntmps44;go_upto_if 20 with fail
  go_cut [6] from 19 to 28 (fun v wx=>∃base:Option Adr,z6s wx.heap.size wx v base∧Below w.heap.size w wx∧z1c hostTell t b=z0C hostTell t base∧∀x,base=some x→Moor.Good hostTell x∧Small 20000 2001 x)
  case first=>
   clear HRT HTX;cases be with
   |true=>
    have hbn:=List.isEmpty_iff.1 HBM2.out.symm;have HE:Hid (z1c hostTell t b=z0C hostTell t none):=(by rw[hbn];exact ziv t);clear hbn HBM2 HRB HBG;go_wp2;go_meet
    case rel=>exact⟨none,rfl,Below.refl _ _,HE.out,fun x hx=>by cases hx⟩
   |false=>
    have hbn:b≠[]:=(by rintro rfl;exact absurd HBM2.out (by decide));cases hr:z0C hostTell b none with
    |error n=>have HE:=hI (ziw t b hbn n hr);rw[hr] at HRB;clear hbn HBM2 hr HBG;go_wp2_with fail;refine Calls.mono (HRB.out _) ?_;rintro e w1 ⟨hb1,rfl,hn⟩;have HB1:Hid _:=hb1;have hn2:(n==0)=false:=(by rw[beq_eq_false_iff_ne];exact hn);clear hb1 hn;go_wp2;go_ret2;exact⟨by rw[HE.out];rfl,HB1.out⟩
    |ok x=>
     have HE:=hI (zk5 t b hbn x hr);have HX:Hid _:=HBG.out x hr;rw[hr] at HRB;clear hbn HBM2 hr HBG;go_wp2_with fail;refine Calls.mono (HRB.out _) ?_;rintro e w1 ⟨hb1,pv,rfl,hub,hat⟩;have HB1:Hid _:=hb1;have HUB:Hid _:=hub;clear hb1 hub hat;go_wp2;go_meet
     case rel=>exact⟨some x,⟨_,_,rfl,HUB.out⟩,HB1.out,HE.out,fun y hy=>by cases hy;exact HX.out⟩
  case rest=>
  obtain⟨base,hbv,hbw,hbe2,hgs⟩:=hcut;have HBW:=hI hbw;have HBE:Hid _:=hbe2;have HR:Hid _:=HRT.out base _ wc hbv hgs;have HT:Hid _:=fun u j pv W=>HTX.out base u j pv W hgs;clear hbv hbw hbe2 hgs HRT HTX HRB HBG HBM2;cases hr:z0C hostTell t base with
  |error n=>rw[hr] at HR HBE;clear hr HT;go_wp2_with fail;refine Calls.mono HR.out ?_;rintro e w1 ⟨hb1,rfl,hn⟩;have HB1:=hI (HBW.out.trans (hb1.mono HBW.out.size));have hn2:(n==0)=false:=(by rw[beq_eq_false_iff_ne];exact hn);clear hb1 hn;go_wp2;go_ret2;exact⟨by rw[HBE.out];rfl,HB1.out⟩
  |ok u=>rw[hr] at HR HBE;have HT2:Hid _:=fun j pv W h=>HT.out u j pv W hr h;clear hr HT;go_wp2_with fail;refine Calls.mono HR.out ?_;rintro e w1 ⟨hb1,pv,rfl,hub,hat⟩;have HB1:=hI (HBW.out.trans (hb1.mono HBW.out.size));have HT3:Hid _:=HT2.out _ pv w1 hat;clear hb1 hub hat HT2;go_wp2_with fail;refine Calls.mono HT3.out ?_;rintro e w2 ⟨rfl,hb2⟩;have HB2:=hI (HB1.out.trans (hb2.mono HB1.out.size));clear hb2;go_wp2;go_ret2;exact⟨by rw[HBE.out];rfl,HB2.out⟩
def znC (w:World) (res:Except Int Adr) (e:Ending) (w':World):Prop:=
 Below w.heap.size w w'∧match res with
 | .ok u=>∃j pv,e=.returned (.tuple #[.pointer (some ⟨j,0,none⟩),.int .i64 0])∧UAt w' j u pv∧Small 20000 4100 u∧Moor.Good hostTell u
 | .error er=>e=.returned (.tuple #[.pointer none,.int .i64 er])∧er≠0
theorem zml (t:Bs) (w:World) (ht:t.length≤maxLen):Calls prog 72 #[.string ⟨t.toArray⟩] w fun e w'=>znC w (z2T t) e w':=by
 have hts:=z07 t;unfold maxLen at ht;by_cases hl:2000<t.length
 ·have HP:Hid (z2T t=.error 1):=by show _=_;unfold z2T;rw[if_pos hl]
  rw[HP.out];generalize(⟨t.toArray⟩:ByteArray)=tb at*;have h1i:(2000:Int)<(tb.size:Int):=by omega
  clear hl HP;go_enter func72,ntmps72;go_wp2;go_ret2;exact⟨Below.refl _ _,rfl,by decide⟩
 ·have HP:Hid (z2T t=z0C hostTell t none):=by show _=_;unfold z2T;rw[if_neg hl]
  have HRB:=hI fun W=>zny t (.pointer none) none W rfl zbk (Nat.zero_le _) (by omega);have HBG:Hid (∀x,z0C hostTell t none=.ok x→Moor.Good hostTell x∧Small 20000 4100 x):=by intro x hx;have hs:=z2Q t none 20000 0 x (by omega) (by simp) hx;exact⟨zcd t x hx,zfF hs (by omega)⟩
  rw[HP.out];generalize(⟨t.toArray⟩:ByteArray)=tb at*;have h1i:¬(2000:Int)<(tb.size:Int):=by omega
  clear hl HP ht hts;cases hr:z0C hostTell t none with
  |error n=>rw[hr] at HRB;clear HBG hr;go_enter func72,ntmps72;go_wp2_with fail;refine Calls.mono (HRB _) ?_;rintro e w1 ⟨hb1,rfl,hn⟩;have HF:Hid (Below w.heap.size w w1∧n≠0):=⟨hb1,hn⟩;clear hb1 hn;go_wp2;go_ret2;exact⟨HF.out.1,rfl,HF.out.2⟩
  |ok u=>have HG:Hid _:=HBG u hr;rw[hr] at HRB;clear HBG hr;go_enter func72,ntmps72;go_wp2_with fail;refine Calls.mono (HRB _) ?_;rintro e w1 ⟨hb1,pv,rfl,hub,hat⟩;have HF:Hid (Below w.heap.size w w1∧UAt w1 w.heap.size u pv):=⟨hb1,hat⟩;clear hb1 hub hat;go_wp2;go_ret2;exact⟨HF.out.1,_,pv,rfl,HF.out.2,HG.out.2,HG.out.1⟩
theorem cutScheme_len (t:Bs):(z0k t).1.length≤t.length:=by
 unfold z0k;cases h:z1a 58 t with
 |none=>simp
 |some p=>
  obtain⟨a,b⟩:=p;have:=cutB_parts 58 t a b h;simp only;split
  ·rw[lower_len,this]
   simp
  ·simp
theorem zcW (t:Bs):z2T t=z9v hostTell t:=rfl
theorem z8S:z0p.all (·.oneCell')=true:=by unfold z0p;simp[Value.oneCell']
theorem zmN (t:Bs) (n:Int) (w:World) (ho:z2T t=.error n) (ht:t.length≤maxLen) (henv:Env2 w):CB 22 #[.string ⟨t.toArray⟩] w (.tuple #[.agg z0p,.int .i64 n]):=by
 obtain⟨W,hW⟩:=z09 (w.alloc (.cells z0p 40));have hBW:Below w.heap.size w W:=by rw[hW];exact(Below.refl _ _).alloc (Nat.le_refl _) _
 have HBW:=hI hBW;have hsize:W.heap.size=w.heap.size+1:=by rw[hW];simp
 have hz0:W.heap[w.heap.size]?=some (.cells z0p 40 (0,0)):=by rw[hW];exact z0K w _ _
 have HZ:Hid (∀w1,Below W.heap.size W w1→w1.heap[w.heap.size]?=some (.cells z0p 40 (0,0))):=fun w1 h1=>(h1.block w.heap.size (by omega)).trans hz0;have HR:Hid (Calls prog 36 #[.string ⟨t.toArray⟩] W fun e w'=>(∃cs,e=.returned (.tuple #[.agg cs,.int .i64 n])∧cs.size=13∧cs.all (·.oneCell')=true)∧Below W.heap.size W w'):=by have:=ziS t W ht (henv.below hBW);rw[ho] at this;exact this
 have hn:=zcZ (by rw[←zcW];exact ho);have HM:=hI ((by omega:w.heap.size<W.heap.size));clear ht henv hBW hz0 ho;go_enter func22,ntmps22;go_upto_region 1 with fail;unfold z0p at hW;rw[←hW];clear hW;go_wp2_with fail;refine Calls.mono HR ?_;rintro e w2 ⟨⟨cs,rfl,hcz,hone⟩,b2⟩;have HZS:Hid ((prog.info? 77).map (·.size)=some cs.size):=by show _=_;rw[hcz];exact z1n
 have HZO:Hid (z03.size=cs.size):=by show _=_;rw[hcz];rfl
 have HON:=hI hone;have HN:Hid ((w2.alloc (.cells z03 77)).heap[w2.heap.size]?=some (.cells z03 77 (0,0))):=z0K w2 _ _;have HB3:Hid (Below W.heap.size W ((w2.alloc (.cells z03 77)).setRow w2.heap.size cs)):=below_setRow (b2.alloc b2.size _) b2.size _;have HZ3:=hI (HZ _ HB3);clear hcz hone b2;go_wp2_with(first|refine wpList_store_row rfl 77 _ _ rfl w2.heap.size cs rfl rfl 77 z03 HN HZS HZO HON ?_|refine wpList_store_row rfl 40 _ _ rfl w.heap.size z0p rfl rfl 40 z0p HZ3 zmz rfl z8S ?_);(try simp only[Exit.inBlock,Exit.then]);have hld:=run_loadVar_row (P:=prog) _ w.heap.size 40 40 z0p (0,0) _ (z3a HZ3 z0p) underlying40 rfl zmz;refine bodyPost_ret (v:=.tuple #[.agg z0p,.int .i64 n]) ?_ rfl ⟨rfl,below_setRow (HBW.out.trans (HB3.out.mono (Nat.le_of_lt HM))) (Nat.le_refl _) _⟩;rw[results_cell_tmp rfl];simp only[z0p,z03] at hld;simp[asAddr,Result.andThen,hld,z0p]
def z4y (u:Adr):Bs:=if z0b u.scheme=true∧u.scheme≠sFile then u.scheme++([58,47,47]++z1m u.auth) else [110,117,108,108]
def z9U (o:Except Int Adr):Ending:=
 match o with
 | .error n=>.returned (.tuple #[.string ⟨#[]⟩,.int .i64 n])
 | .ok u=>.returned (.tuple #[.string ⟨(z4y u).toArray⟩,.int .i64 0])
theorem zhg (s:Bs):((z1z s).1<0)↔¬(z0b s=true∧s≠sFile):=by
 unfold z0b z1z;by_cases h1:s=zek∨s=sWs
 ·rw[if_pos h1]
  show(80:Int)<0↔¬(true=true∧s≠sFile);refine⟨fun h=>absurd h (by decide),fun h=>absurd ⟨rfl,?_⟩ h⟩;rintro rfl;revert h1;decide
 ·rw[if_neg h1]
  by_cases h2:s=zbt∨s=zhr
  ·rw[if_pos h2]
   show(443:Int)<0↔¬(true=true∧s≠sFile);refine⟨fun h=>absurd h (by decide),fun h=>absurd ⟨rfl,?_⟩ h⟩;rintro rfl;revert h2;decide
  ·rw[if_neg h2]
   by_cases h3:s=zhs
   ·rw[if_pos h3]
    show(21:Int)<0↔¬(true=true∧s≠sFile);refine⟨fun h=>absurd h (by decide),fun h=>absurd ⟨rfl,?_⟩ h⟩;rw[h3];decide
   ·rw[if_neg h3]
    by_cases h4:s=sFile
    ·rw[if_pos h4]
     exact⟨fun _ h=>h.2 h4,fun _=>by decide⟩
    ·rw[if_neg h4]
     exact⟨fun _ h=>absurd h.1 (by decide),fun _=>by decide⟩
theorem zfG (u:Adr) (h:z0b u.scheme=true∧u.scheme≠sFile) (hh:u.auth.has=true):z3Q false u=z4y u:=by unfold z3Q z4y z2I;rw[if_pos h,if_pos hh];simp
theorem zbl (t:Bs) (w:World) (ht:t.length≤maxLen):CE 47 #[.string ⟨t.toArray⟩] w (z9U (z2T t)):=by
 have HA:=hI fun W=>zml t W ht;generalize(⟨t.toArray⟩:ByteArray)=tb at*;cases hr:z2T t with
 |error n=>
  rw[hr] at HA;clear hr ht;go_enter func47,ntmps47;go_wp2_with fail;refine Calls.mono (HA _) ?_;rintro e w1 ⟨hb1,rfl,hn⟩;have HB1:=hI hb1;have hn2:(n !=0)=true:=by rw[bne_iff_ne];exact hn
  clear hb1 hn;go_wp2;go_ret2;exact⟨rfl,HB1⟩
 |ok u=>
  rw[hr] at HA;clear hr ht;have HOW:=hI fun W=>zo2 ⟨u.scheme.toArray⟩ W;by_cases ho:z0b u.scheme=true∧u.scheme≠sFile
  ·have hneg:=fun h=>(zhg u.scheme).1 h ho
   generalize(z1z u.scheme).1=op at*;go_enter func47,ntmps47;go_wp2_with fail;refine Calls.mono (HA _) ?_;rintro e w1 ⟨hb1,j,pv,rfl,hat,hsm,hgd⟩;have HB1:=hI hb1;have c0:w1.cell? ⟨j,0,none⟩=some (.string ⟨u.scheme.toArray⟩):=z00 hat.url 0;have HFR:Hid _:=zmj j u pv false w1 hat hsm.port (by have:=hsm.scheme;have:=hsm.user;have:=hsm.pass;have:=hsm.host;omega);have HFO:Hid _:=zfG u ho (hgd.spec ho.1).1;rw[HFO.out] at HFR;clear hb1 hat hsm hgd HFO ho;generalize(⟨u.scheme.toArray⟩:ByteArray)=scb at*;go_wp2_with fail;refine Calls.mono (HOW _) ?_;rintro e w2 ⟨rfl,hw2⟩;obtain rfl:=hw2.symm;go_wp2_with fail;refine Calls.mono HFR ?_;rintro e w3 ⟨rfl,hb3⟩;have HB3:Hid _:=HB1.out.trans (hb3.mono HB1.out.size);clear hb3;go_wp2;go_ret2;exact⟨rfl,HB3⟩
  ·have hneg:=(zhg u.scheme).2 ho
   have HOO:Hid (z4y u=[110,117,108,108]):=(by show _=_;unfold z4y;rw[if_neg ho]);generalize(z1z u.scheme).1=op at*;go_enter func47,ntmps47;go_wp2_with fail;refine Calls.mono (HA _) ?_;rintro e w1 ⟨hb1,j,pv,rfl,hat,hsm,hgd⟩;have HB1:=hI hb1;have c0:w1.cell? ⟨j,0,none⟩=some (.string ⟨u.scheme.toArray⟩):=z00 hat.url 0;clear hb1 hat hsm hgd ho;generalize(⟨u.scheme.toArray⟩:ByteArray)=scb at*;go_wp2_with fail;refine Calls.mono (HOW _) ?_;rintro e w2 ⟨rfl,hw2⟩;obtain rfl:=hw2.symm;go_wp2;go_ret2;exact⟨by show _=Ending.returned (.tuple #[.string ⟨(z4y u).toArray⟩,.int .i64 0]);rw[HOO.out];rfl,HB1⟩
theorem ziR (a:Adr) (v:Value) (w:World) (hs:Small 1000000 1000000 a) (henv:Env2 w):CB 71 #[.agg (z0f a v)] w (.string ⟨(z4y a).toArray⟩):=by
 obtain⟨W,hW⟩:=z09 (w.alloc (.cells (z0f a v) 77));have hBW:Below w.heap.size w W:=by rw[hW];exact(Below.refl _ _).alloc (Nat.le_refl _) _
 have hz0:W.heap[w.heap.size]?=some (.cells (z0f a v) 77 (0,0)):=by rw[hW];exact z0K w _ _
 have hsize:W.heap.size=w.heap.size+1:=by rw[hW];simp
 have HBW:Hid (∀w1,Below W.heap.size W w1→Below w.heap.size w w1):=fun w1 h1=>hBW.trans (h1.mono (by omega));have HSP:=hI fun w1=>z9l ⟨a.scheme.toArray⟩ w1;have HPL:Hid (∀w1,Below W.heap.size W w1→CQ 127 #[.agg (z1G a.auth)] w1 (.string ⟨(z1m a.auth).toArray⟩) (Below W.heap.size W)):=by intro w1 h1;refine(z9o a.auth w1 (by have:=hs.host;omega) hs.port ((henv.below hBW).below h1)).mono ?_;rintro e w' ⟨rfl,hb⟩;exact⟨rfl,h1.trans (hb.mono h1.size)⟩
 have l0:(⟨a.scheme.toArray⟩:ByteArray).size≤1000000:=by rw[z07];exact hs.scheme
 have l1:(⟨(z1m a.auth).toArray⟩:ByteArray).size≤1000020:=by
  rw[z07];have h3:=hs.host;unfold z1m;split
  ·omega
  ·rename_i hne
   rcases hs.port with h|h
   ·exact absurd h hne
   ·have:(z42 a.auth.port).length≤10:=z74 _ (by omega)
    simp;omega
 have hsp:=z0b a.scheme;have HC:Hid (∀w1,Below W.heap.size W w1→w1.heap[w.heap.size]?=some (.cells (z0f a v) 77 (0,0))):=fun w1 h1=>(h1.block w.heap.size (by omega)).trans hz0;have HW:=hI hW;have HAD:Hid ((⟨a.scheme.toArray⟩:ByteArray)++⟨#[58,47,47]⟩++⟨(z1m a.auth).toArray⟩=⟨(a.scheme++([58,47,47]++z1m a.auth)).toArray⟩):=by show _=_;have h1:(⟨a.scheme.toArray⟩:ByteArray)++⟨#[58,47,47]⟩=⟨(a.scheme++ [58,47,47]).toArray⟩:=z0G _ [58,47,47];rw[h1,z0G,List.append_assoc]
 have HOY:Hid (z0b a.scheme=true→¬a.scheme=sFile→z4y a=a.scheme++([58,47,47]++z1m a.auth)):=fun h1 h2=>if_pos ⟨h1,h2⟩;have HON:Hid (¬(z0b a.scheme=true∧a.scheme≠sFile)→z4y a=[110,117,108,108]):=fun h=>if_neg h;clear hsp;unfold z1G at HPL;cases hsp:z0b a.scheme with
 |false=>rw[HON.out (fun h=>by rw[hsp] at h;cases h.1)];rw[hsp] at HSP;have d0:W.cell? ⟨w.heap.size,0,none⟩=some (.string ⟨a.scheme.toArray⟩):=z00 (HC W (Below.refl _ _)) 0;clear hsp HOY HON HAD HPL henv hs hz0 hsize hBW hW l0 l1;unfold z0f at HW⊢;generalize(⟨a.scheme.toArray⟩:ByteArray)=scb at*;go_enter func71,ntmps71;go_upto_region 1 with fail;rw[←HW.out];go_wp2_with fail;refine Calls.mono (HSP _) ?_;rintro e w2 ⟨rfl,hw2⟩;obtain rfl:=hw2.symm;go_wp2;go_ret;exact⟨rfl,HBW W (Below.refl _ _)⟩
 |true=>
  rw[hsp] at HSP;by_cases hf:a.scheme=sFile
  ·rw[HON.out (fun h=>h.2 hf)]
   have e1:((⟨a.scheme.toArray⟩:ByteArray).toList==[102,105,108,101])=true:=z4t a.scheme _ hf;have d0:W.cell? ⟨w.heap.size,0,none⟩=some (.string ⟨a.scheme.toArray⟩):=z00 (HC W (Below.refl _ _)) 0;clear hsp HOY HON HAD HPL henv hs hz0 hsize hBW hW l0 l1 hf;unfold z0f at HW⊢;generalize(⟨a.scheme.toArray⟩:ByteArray)=scb at*;go_enter func71,ntmps71;go_upto_region 1 with fail;rw[←HW.out];go_wp2_with fail;refine Calls.mono (HSP _) ?_;rintro e w2 ⟨rfl,hw2⟩;obtain rfl:=hw2.symm;go_wp2;go_ret;exact⟨rfl,HBW W (Below.refl _ _)⟩
  ·rw[HOY.out hsp hf]
   rw[←HAD.out];have e1:((⟨a.scheme.toArray⟩:ByteArray).toList==[102,105,108,101])=false:=z38 a.scheme _ hf;have HD:Hid (∀w1,Below W.heap.size W w1→w1.cell? ⟨w.heap.size,0,none⟩=some (.string ⟨a.scheme.toArray⟩)∧w1.cell? ⟨w.heap.size,1,none⟩=some (.string ⟨a.auth.user.toArray⟩)∧w1.cell? ⟨w.heap.size,2,none⟩=some (.string ⟨a.auth.pass.toArray⟩)∧w1.cell? ⟨w.heap.size,3,none⟩=some (.bool a.auth.has)∧w1.cell? ⟨w.heap.size,4,none⟩=some (.string ⟨a.auth.host.toArray⟩)∧w1.cell? ⟨w.heap.size,5,none⟩=some (.int .i64 a.auth.port)):=by intro w1 h1;have k:=HC w1 h1;exact⟨z00 k 0,z00 k 1,z00 k 2,z00 k 3,z00 k 4,z00 k 5⟩
   obtain⟨d0,d1,d2,d3,d4,d5⟩:=HD W (Below.refl _ _);clear hsp HOY HON HAD henv hs hz0 hsize hBW hW hf HC;unfold z0f at HW⊢;generalize(⟨a.scheme.toArray⟩:ByteArray)=scb at*;generalize(⟨a.auth.user.toArray⟩:ByteArray)=x1 at*;generalize(⟨a.auth.pass.toArray⟩:ByteArray)=x2 at*;generalize(⟨a.auth.host.toArray⟩:ByteArray)=x4 at*;generalize(⟨(z1m a.auth).toArray⟩:ByteArray)=tp at*;have z3:(⟨#[58,47,47]⟩:ByteArray).size=3:=rfl;have g0:∀W:World,(Op.stringOp .add scb ⟨#[58,47,47]⟩).run prog W=.ok (.string (scb++⟨#[58,47,47]⟩)) W:=fun W=>run_string_add_sum W _ _ (by omega);have g1:∀W:World,(Op.stringOp .add (scb++⟨#[58,47,47]⟩) tp).run prog W=.ok (.string (scb++⟨#[58,47,47]⟩++tp)) W:=fun W=>run_string_add_sum W _ _ (by simp only[ByteArray.size_append];omega);clear z3 l0 l1;go_enter func71,ntmps71;go_upto_region 1 with fail;rw[←HW.out];clear HW;go_wp2_with fail;refine Calls.mono (HSP _) ?_;rintro e w2 ⟨rfl,hw2⟩;obtain rfl:=hw2.symm;go_wp2;go_region_held3 (fun w'=>w'.cell? ⟨w.heap.size,0,none⟩=some (.string scb)∧w'.cell? ⟨w.heap.size,1,none⟩=some (.string x1)∧w'.cell? ⟨w.heap.size,2,none⟩=some (.string x2)∧w'.cell? ⟨w.heap.size,3,none⟩=some (.bool a.auth.has)∧w'.cell? ⟨w.heap.size,4,none⟩=some (.string x4)∧w'.cell? ⟨w.heap.size,5,none⟩=some (.int .i64 a.auth.port)) (go_keep) (first|(go_at_call 127;refine Calls.mono (HPL _ (Below.refl _ _).drew) ?_;rintro e w5 ⟨rfl,hb5⟩;have HB5:=hI hb5;obtain⟨v0,v1,v2,v3,v4,v5⟩:=HD w5 hb5;clear hb5))
   all_goals
    go_wp2;go_ret;exact⟨rfl,HBW _ HB5⟩
theorem zlO (t:Bs) (n:Int) (w:World) (ho:z2T t=.error n) (ht:t.length≤maxLen) (henv:Env2 w):CB 46 #[.string ⟨t.toArray⟩] w (.tuple #[.string ⟨#[]⟩,.int .i64 n]):=by
 have HR:Hid (Calls prog 36 #[.string ⟨t.toArray⟩] w fun e w'=>(∃cs,e=.returned (.tuple #[.agg cs,.int .i64 n])∧cs.size=13∧cs.all (·.oneCell')=true)∧Below w.heap.size w w'):=by have:=ziS t w ht henv;rw[ho] at this;exact this
 have hn:=zcZ (by rw[←zcW];exact ho);clear ht henv ho;go_enter func46,ntmps46;go_wp2_with fail;refine Calls.mono HR ?_;rintro e w2 ⟨⟨cs,rfl,hcz,hone⟩,b2⟩;have HZS:Hid ((prog.info? 77).map (·.size)=some cs.size):=by show _=_;rw[hcz];exact z1n
 have HZO:Hid (z03.size=cs.size):=by show _=_;rw[hcz];rfl
 have HON:=hI hone;have HN:Hid ((w2.alloc (.cells z03 77)).heap[w2.heap.size]?=some (.cells z03 77 (0,0))):=z0K w2 _ _;have HB3:Hid (Below w.heap.size w ((w2.alloc (.cells z03 77)).setRow w2.heap.size cs)):=below_setRow (b2.alloc b2.size _) b2.size _;clear hcz hone b2;go_wp2_with(first|refine wpList_store_row rfl 77 _ _ rfl w2.heap.size cs rfl rfl 77 z03 HN HZS HZO HON ?_);go_ret2;exact⟨rfl,HB3⟩
theorem zcg (t:Bs) (w:World) (ht:t.length≤maxLen) (henv:Env2 w):CE 46 #[.string ⟨t.toArray⟩] w (z9U (z2T t)):=by
 cases ho:z2T t with
 |error n=>exact zlO t n w ho ht henv
 |ok a=>
  have HR:Hid (Calls prog 36 #[.string ⟨t.toArray⟩] w fun e w'=>(∃v,e=.returned (.tuple #[.agg (z0f a v),.int .i64 0])∧z1f w' v a.way.segs)∧Below w.heap.size w w'):=by have:=ziS t w ht henv;rw[ho] at this;exact this
  have HSM:Hid _:=zas t a ho;have HEV:=hI henv;clear ht henv ho;go_enter func46,ntmps46;go_wp2_with fail;refine Calls.mono HR ?_;rintro e w2 ⟨⟨v,rfl,hsr⟩,b2⟩;have hv1:(z0f a v).all (·.oneCell')=true:=by obtain⟨⟨sp,cap,rfl,_⟩,_⟩:=hsr;exact z3g _ _ rfl
  obtain⟨V,hV⟩:=z09 ((w2.alloc (.cells z03 77)).setRow w2.heap.size (z0f a v));have HN:Hid ((w2.alloc (.cells z03 77)).heap[w2.heap.size]?=some (.cells z03 77 (0,0))):=z0K w2 _ _;have hVc:V.heap[w2.heap.size]?=some (.cells (z0f a v) 77 (0,0)):=by rw[hV];exact z3a HN _
  have hVB:Below w2.heap.size w2 V:=by rw[hV];exact below_setRow ((Below.refl _ _).alloc (Nat.le_refl _) _) (Nat.le_refl _) _
  have hVW:=b2.trans (hVB.mono b2.size);have HVW:=hI hVW;have HP:Hid _:=ziR a v V HSM (HEV.out.below hVW);have HZS:Hid ((prog.info? 77).map (·.size)=some (z0f a v).size):=z1n;have HON:=hI hv1;have HZO:Hid (z03.size=(z0f a v).size):=(rfl:z03.size=(z0f a v).size);have HVC:Hid (((w2.alloc (.cells z03 77)).setRow w2.heap.size (z0f a v)).heap[w2.heap.size]?=some (.cells (z0f a v) 77 (0,0))):=by show _=_;rw[←hV];exact hVc
  have HVE:=hI hV;clear hsr b2 hVc hVB hv1 hV hVW;generalize z0f a v=cs at*;go_wp2_with(first|refine wpList_store_row rfl 77 _ _ rfl w2.heap.size cs rfl rfl 77 z03 HN HZS HZO HON ?_|refine wpList_load_row rfl 77 _ rfl w2.heap.size rfl 77 cs (0,0) _ HVC underlying77 rfl HZS ?_);have hve:=HVE;unfold z03 at hve;rw[←hve];clear hve HVE;refine Calls.mono HP ?_;rintro e w3 ⟨rfl,b3⟩;have HB3:Hid _:=HVW.out.trans (b3.mono HVW.out.size);clear b3;go_wp2;go_ret2;exact⟨rfl,HB3⟩
end Go.Proofs
