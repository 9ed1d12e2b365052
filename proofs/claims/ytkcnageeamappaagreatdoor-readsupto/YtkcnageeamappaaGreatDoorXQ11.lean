import Derived.Test.YtkcnageeamappaaGreatDoorXQ10
import Derived.Deep.CutBlock
set_option maxHeartbeats 32000000
set_option maxRecDepth 8000
namespace Go.Proofs
open Go.RowKit Go.Moor Go.Proofs.Tryz
theorem zoJ:(prog.info? 34).map (·.size)=some 8:=by kernel_rfl
def z0e (l:List Int):Array Value:=(l.map (Value.int .i64)).toArray
theorem z2E (l:List Int):(z0e l).all (·.oneCell')=true:=by unfold z0e;rw[List.all_toArray,List.all_eq_true];intro u hu;exact ints_oneCell .i64 l u hu
theorem z3T (l:List Int):(z0e l).size=l.length:=by simp[z0e]
theorem zb1 (l:List Int) (j:Nat) (h:j<l.length):(z0e l)[j]?=some (.int .i64 l[j]):=by simp[z0e,h]
theorem zda (l:List Int) (j:Nat) (x:Int):(z0e l).setIfInBounds j (.int .i64 x)=z0e (l.set j x):=by unfold z0e;simp[List.map_set]
structure Tryz.SixIs (w wr:World) (ps:List Int):Prop where
 below:Below w.heap.size w wr
 res:wr.heap[w.heap.size]?=some (.cells (z0e zero8) 34 (0,0))
 out:wr.heap[w.heap.size+1]?=some (.cells (z0e (z0w ps)) 34 (0,0))
 size:w.heap.size+2≤wr.heap.size
theorem Tryz.SixIs.on {w wr w':World} {ps:List Int} (h:SixIs w wr ps) (b:Below wr.heap.size wr w'):SixIs w w' ps:=
 ⟨h.below.trans (b.mono (by have:=h.size;omega)),(b.block _ (by have:=h.size;omega)).trans h.res,(b.block _ (by have:=h.size;omega)).trans h.out,Nat.le_trans h.size b.size⟩
theorem Tryz.SixIs.put {w wr:World} {ps qs:List Int} (h:SixIs w wr ps) (j:Nat) (x:Int) (hq:(z0w ps).set j x=z0w qs):SixIs w (wr.setCell ⟨w.heap.size+1,j,none⟩ (.int .i64 x)) qs:=by
 have e:=setCell_eq_setRow wr (w.heap.size+1) j _ _ _ (.int .i64 x) h.out;have h2:=setRow_heap wr (w.heap.size+1) (z0e (z0w ps)) ((z0e (z0w ps)).setIfInBounds j (.int .i64 x)) 34 (0,0) h.out;rw[←e,zda,hq] at h2;refine⟨h.below.setCell (by simp) _,?_,h2,?_⟩
 ·rw[e,Go.setRow_other wr (w.heap.size+1) w.heap.size _ (by omega)]
  exact h.res
 ·rw[e]
  have:=h.size;simp[World.setRow];exact this
theorem Tryz.SixIs.at {w wr:World} {ps:List Int} (h:SixIs w wr ps) (j:Nat) (hj:j<8) (h8:ps.length≤8):∃x,wr.cell? ⟨w.heap.size+1,j,none⟩=some (.int .i64 x):=by
 have hl:j<(z0w ps).length:=by rw[z1L ps h8];exact hj
 refine⟨(z0w ps)[j],?_⟩;rw[cell_of_row wr _ j _ _ (0,0) h.out,zb1 _ _ hl]
structure Tryz.SixMv (w wr:World) (ps:List Int) (m:Nat) (row:List Int):Prop where
 is:SixIs w wr ps
 row:wr.heap[m]?=some (.cells (z0e row) 34 (0,0))
 apart:w.heap.size+2≤m
theorem Tryz.SixMv.put {w wr:World} {ps:List Int} {m:Nat} {row row2:List Int} (h:SixMv w wr ps m row) (j:Nat) (x:Int) (hq:row.set j x=row2):SixMv w (wr.setCell ⟨m,j,none⟩ (.int .i64 x)) ps m row2:=by
 have e:=setCell_eq_setRow wr m j _ _ _ (.int .i64 x) h.row;have h2:=setRow_heap wr m (z0e row) ((z0e row).setIfInBounds j (.int .i64 x)) 34 (0,0) h.row;rw[←e,zda,hq] at h2;have ha:=h.apart;refine⟨⟨h.is.below.setCell (by show w.heap.size≤m;omega) _,?_,?_,?_⟩,h2,ha⟩
 ·rw[e,Go.setRow_other wr m w.heap.size _ (by omega)]
  exact h.is.res
 ·rw[e,Go.setRow_other wr m (w.heap.size+1) _ (by omega)]
  exact h.is.out
 ·rw[e]
  have:=h.is.size;simp[World.setRow];exact this
theorem Tryz.SixMv.at {w wr:World} {ps:List Int} {m:Nat} {row:List Int} (h:SixMv w wr ps m row) (j:Nat) (hj:j<row.length):∃x,wr.cell? ⟨m,j,none⟩=some (.int .i64 x):=by refine⟨row[j],?_⟩;rw[cell_of_row wr _ j _ _ (0,0) h.row,zb1 _ _ hj]
theorem Tryz.SixIs.piece {w wr:World} {ps:List Int} (h:SixIs w wr ps) (j:Nat) (hj:j<ps.length) (h8:ps.length≤8):wr.cell? ⟨w.heap.size+1,j,none⟩=some (.int .i64 ps[j]):=by
 have hl:j<(z0w ps).length:=by rw[z1L ps h8];omega
 rw[cell_of_row wr _ j _ _ (0,0) h.out,zb1 _ _ hl];have:=zmV ps j hj;rw[List.getElem?_eq_getElem hl] at this;rw[Option.some.inj this]
def z7g (o:Option Nat):Int:=match o with|none=> -1|some k=>(k:Int)
def zhP (o:Option (List Int)) (e:Ending):Prop:=
 match o with
 |some ps=>e=.returned (.tuple #[.agg (z0e ps),.bool true])
 |none=>∃l:List Int,l.length=8∧e=.returned (.tuple #[.agg (z0e l),.bool false])
theorem znY (s:ByteArray) (w:World) (hs:s.size≤4000):CP 116 #[.string s] w (zhP (z6S s.data.toList)):=by
 have HHX:=hI fun c w1=>zdY c w1;obtain⟨l,hl⟩:=z09 s.data.toList;have HLN:Hid (l.length=s.size):=by show _=_;rw[hl,Array.length_toList];rfl
 have HG:Hid (∀(k:Nat) (h:k<s.size) (h2:k<l.length),l[k]=s[k]):=by intro k h h2;subst hl;simp;rfl
 have HLA:Hid (∀(k:Nat) w1,k≤s.size→CP 171 #[.string (s.extract k s.size)] w1 (zcF (z0J (l.drop k)))):=by intro k w1 hk;have e:=z1Z s k s.size;rw[←hl,List.take_of_length_le (by rw[List.length_drop,HLN.out];omega)] at e;have:=zn8 (s.extract k s.size) w1 (by simp;omega);rw[e] at this⊢;exact this
 rw[←hl];clear hl;suffices key:∀(res:Option (List Int)),Hid (res=z6S l)→Calls prog 116 #[.string s] w fun e w'=>zhP res e∧Below w.heap.size w w' from key _ rfl
 intro res HRES;obtain⟨W,hW⟩:=z09 ((w.alloc (.cells #[.int .i64 0,.int .i64 0,.int .i64 0,.int .i64 0,.int .i64 0,.int .i64 0,.int .i64 0,.int .i64 0] 34)).alloc (.cells #[.int .i64 0,.int .i64 0,.int .i64 0,.int .i64 0,.int .i64 0,.int .i64 0,.int .i64 0,.int .i64 0] 34));have HIS:Hid (SixIs w W []):=by
  show SixIs w W [];rw[hW];refine⟨((Below.refl _ w).alloc (Nat.le_refl _) _).alloc (by simp) _,?_,?_,by simp⟩
  ·simp only[World.alloc,Array.getElem?_push,Array.size_push]
   rw[if_neg (by omega),if_pos trivial];rfl
  ·simp only[World.alloc,Array.getElem?_push,Array.size_push]
   rw[if_pos trivial];rfl
 go_enter func116,ntmps116;go_upto_region 5 with fail;rw[←hW];clear hW;obtain⟨col,hcol⟩:=z09 (decide (l.head? =some 58):Bool);have HCOL:=hI hcol;clear hcol;go_cut [22] from 15 to 31 (fun b wx=>b=.bool col∧wx=W)
 case first=>
  by_cases h0:0<s.size
  ·have h0i:(0:Int)<(s.size:Int):=by omega
   have h02:0<l.length:=(by rw[HLN.out];exact h0);have hg:=HG.out 0 h0 h02;have hhd:l.head? =some s[0]:=(by rw[List.head?_eq_getElem?,List.getElem?_eq_getElem h02,hg]);have HC2:Hid (col=((s[0].toNat:Int)==58)):=by
    show _=_;rw[HCOL.out,hhd,Bool.eq_iff_iff,beq_iff_eq,decide_eq_true_eq];constructor
    ·intro h;rw[Option.some.inj h];rfl
    ·intro h;exact congrArg some (UInt8.toNat_inj.1 (by show s[0].toNat=58;omega))
   clear hg hhd;cases hc:((s[0].toNat:Int)==58);all_goals
    rw[hc] at HC2;go_wp2;go_meet;exact⟨by rw[HC2.out],rfl⟩
  ·have h0i:¬(0:Int)<(s.size:Int):=by omega
   have HC2:Hid (col=false):=(by show _=_;rw[HCOL.out];have:l=[]:=List.length_eq_zero_iff.1 (by have:=HLN.out;omega);rw[this];rfl);go_wp2;go_meet;exact⟨by rw[HC2.out],rfl⟩
 case rest=>
 obtain⟨rfl,hwc⟩:=hcut;obtain rfl:=hwc.symm;go_upto_if 22 with fail
 go_cut [5,6,7] from 15 to 31 (fun a b c wx=>∃(ps:List Int) (sh:Option Nat) (i:Nat) (f:Nat),a=.int .i64 (ps.length:Nat)∧b=.int .i64 (z7g sh)∧c=.int .i64 (i:Nat)∧i≤s.size∧l.length- i<f∧ps.length≤8∧(∀k,sh=some k→1≤k∧k≤ps.length)∧res=z3w (z0S f (l.drop i) ps sh)∧SixIs w W ps∧wx=W)
 case first=>
  cases col with
  |false=>
   have HR:Hid (res=z3w (z0S (l.length+1) l [] none)):=by
    show _=_;rw[HRES.out];have hc:¬l.head? =some 58:=(by simpa using HCOL.out.symm);unfold z6S;split
    ·exact absurd rfl hc
    ·exact absurd rfl hc
    ·rfl
   go_wp2;go_meet;exact⟨[],none,0,l.length+1,rfl,rfl,rfl,Nat.zero_le _,by omega,by simp,(fun k h=>by cases h),HR.out,HIS.out,rfl⟩
  |true=>
   have hc:l.head? =some 58:=(by simpa using HCOL.out.symm);obtain⟨r,hr⟩:∃r,l=58::r:=by
    cases l with
    |nil=>simp at hc
    |cons x r=>simp at hc;exact⟨r,by rw[hc]⟩
   by_cases h2:r.head? =some 58
   ·obtain⟨r2,hr2⟩:∃r2,r=58::r2:=by
     cases r with
     |nil=>simp at h2
     |cons x r=>simp at h2;exact⟨r,by rw[h2]⟩
    have HR:Hid (res=z3w (z0S (l.length+1) (l.drop 2) [0] (some 1))):=(by show _=_;rw[HRES.out,hr,hr2];rfl);have hl2:2≤l.length:=(by rw[hr,hr2];simp);have hs2:2≤s.size:=(by rw[←HLN.out];exact hl2);have hs2i:¬(s.size:Int)<2:=(by omega);have h1s:1<s.size:=(by omega);have h58:((s[1].toNat:Int)==58)=true:=(by have hg:=HG.out 1 h1s (by omega);have:l[1]?=some 58:=(by rw[hr,hr2];rfl);rw[List.getElem?_eq_getElem (by omega),hg] at this;rw[Option.some.inj this];rfl);have HIN:Hid (SixIs w W [0]):=⟨HIS.out.below,HIS.out.res,HIS.out.out,HIS.out.size⟩;clear hr hr2 h2 hc;go_wp2;go_meet;exact⟨[0],some 1,2,l.length+1,rfl,rfl,rfl,hs2,by omega,by simp,(fun k h=>by cases h;exact⟨Nat.le_refl _,Nat.le_refl _⟩),HR.out,HIN.out,rfl⟩
   ·have HN:Hid (res=none):=by
     show _=_;rw[HRES.out,hr];cases r with
     |nil=>rfl
     |cons x r=>
      have hx:x≠58:=fun h=>h2 (by rw[h];rfl);unfold z6S;split
      ·rename_i h;injection h with _ h;injection h with h _;exact absurd h hx
      ·rfl
      ·rename_i h;exact absurd rfl (h _)
    have HP8:Hid ((prog.info? 34).map (·.size)=some (z0e (z0w [])).size):=zoJ;have HP88:Hid ((z0e zero8).size=(z0e (z0w [])).size):=rfl;by_cases h1:s.size<2
    ·have h1i:(s.size:Int)<2:=by omega
     clear hr h2 hc;go_wp2_with(first|refine wpList_load_row rfl 34 _ rfl (w.heap.size+1) rfl 34 (z0e (z0w [])) (0,0) _ HIS.out.out underlying34 rfl HP8.out ?_|refine wpList_store_row rfl 34 _ _ rfl w.heap.size (z0e (z0w [])) rfl rfl 34 (z0e zero8) HIS.out.res HP8.out HP88.out (z2E _) ?_);(try simp only[Exit.inBlock,Exit.then]);have hld:=run_loadVar_row (P:=prog) (W.setRow w.heap.size (z0e (z0w []))) w.heap.size 34 34 (z0e (z0w [])) (0,0) _ (setRow_heap W w.heap.size (z0e zero8) (z0e (z0w [])) 34 (0,0) HIS.out.res) underlying34 rfl HP8.out;refine bodyPost_ret (v:=.tuple #[.agg (z0e (z0w [])),.bool false]) ?_ rfl ⟨(by rw[HN.out];exact⟨_,by first|exact z1L _ hp|exact z1L _ hp9|rfl,rfl⟩),below_setRow HIS.out.below (Nat.le_refl _) _⟩;rw[results_cell_tmp rfl];simp[asAddr,Result.andThen,hld]
    ·have h1i:¬(s.size:Int)<2:=by omega
     have h1s:1<s.size:=(by omega);have h58:((s[1].toNat:Int)==58)=false:=(by rw[beq_eq_false_iff_ne];intro h;apply h2;have hlt:1<l.length:=(by rw[HLN.out];exact h1s);have hg:=HG.out 1 h1s hlt;have e:r.head? =l[1]?:=(by rw[hr,List.head?_eq_getElem?];rfl);rw[e,List.getElem?_eq_getElem hlt,hg];exact congrArg some (UInt8.toNat_inj.1 (by show s[1].toNat=58;omega)));clear hr h2 hc;go_wp2_with(first|refine wpList_load_row rfl 34 _ rfl (w.heap.size+1) rfl 34 (z0e (z0w [])) (0,0) _ HIS.out.out underlying34 rfl HP8.out ?_|refine wpList_store_row rfl 34 _ _ rfl w.heap.size (z0e (z0w [])) rfl rfl 34 (z0e zero8) HIS.out.res HP8.out HP88.out (z2E _) ?_);(try simp only[Exit.inBlock,Exit.then]);have hld:=run_loadVar_row (P:=prog) (W.setRow w.heap.size (z0e (z0w []))) w.heap.size 34 34 (z0e (z0w [])) (0,0) _ (setRow_heap W w.heap.size (z0e zero8) (z0e (z0w [])) 34 (0,0) HIS.out.res) underlying34 rfl HP8.out;refine bodyPost_ret (v:=.tuple #[.agg (z0e (z0w [])),.bool false]) ?_ rfl ⟨(by rw[HN.out];exact⟨_,by first|exact z1L _ hp|exact z1L _ hp9|rfl,rfl⟩),below_setRow HIS.out.below (Nat.le_refl _) _⟩;rw[results_cell_tmp rfl];simp[asAddr,Result.andThen,hld]
 case rest=>
 obtain⟨ps0,sh0,i0,f0,rfl,rfl,rfl,hi0,hf0,hp0,hsh0,hr0,his0,hwc⟩:=hcut;obtain rfl:=hwc.symm;clear HIS HCOL HRES;have HR0:=hI hr0;have HS0:=hI hsh0;have HI0:=hI his0;clear hr0 hsh0 his0;have HP8A:Hid (∀qs:List Int,qs.length≤8→(prog.info? 34).map (·.size)=some (z0e (z0w qs)).size):=by intro qs h;rw[z3T,z1L qs h];exact zoJ
 have HP88A:Hid (∀qs:List Int,qs.length≤8→(z0e zero8).size=(z0e (z0w qs)).size):=by intro qs h;rw[z3T (z0w qs),z1L qs h];rfl
 go_upto_block 0 with fail;go_cut [5,6,7,8,9,10,11] from 15 to 139 (fun a b c d e f g wx=>∃(ps:List Int) (sh:Option Nat),a=.int .i64 (ps.length:Nat)∧b=.int .i64 (z7g sh)∧ps.length≤8∧(∀k,sh=some k→1≤k∧k≤ps.length)∧res=z3w (some (ps,sh))∧SixIs w wx ps)
 case first=>
  go_wp2_with fail;go_loopw [5,6,7] (fun a b c wr=>∃(ps:List Int) (sh:Option Nat) (i f:Nat),a=.int .i64 (ps.length:Nat)∧b=.int .i64 (z7g sh)∧c=.int .i64 (i:Nat)∧i≤s.size∧l.length- i<f∧ps.length≤8∧(∀k,sh=some k→1≤k∧k≤ps.length)∧res=z3w (z0S f (l.drop i) ps sh)∧SixIs w wr ps) (fun _ _ i _=>s.size-(intOf i).toNat)
  case atStart=>exact⟨ps0,sh0,i0,f0,rfl,rfl,rfl,hi0,hf0,hp0,HS0.out,HR0.out,HI0.out⟩
  case round=>
   obtain⟨ps,sh,i,f,rfl,rfl,rfl,hi,hf,hp,hsh,hr,his⟩:=hrel;have HR:=hI hr;have HSH:=hI hsh;have HIS:=hI his;have HP8:Hid _:=HP8A.out ps hp;have HP88:Hid _:=HP88A.out ps hp;clear hr hsh his HR0 HS0 HI0 hi0 hf0 hp0;by_cases hlt:i<s.size
   ·obtain⟨f',hf'⟩:∃f',f=f'+1:=⟨f- 1,by omega⟩
    subst hf';have hil:i<l.length:=(by rw[HLN.out];exact hlt);have HDR:Hid (l.drop i=s[i]::l.drop (i+1)):=by show _=_;rw[List.drop_eq_getElem_cons hil,HG.out i hlt hil]
    have hff:l.length-(i+1)<f':=(by omega);have HFF:=hI hff;clear hff hf hil;by_cases h8:ps.length=8
    ·have HN:Hid (res=none):=by
      show _=_;rw[HR.out,HDR.out,zjo _ _ _ _ _ h8];rfl
     have h8i:((ps.length:Int)==8)=true:=(by rw[h8];rfl);clear h8;go_wp2_with(first|refine wpList_load_row rfl 34 _ rfl (w.heap.size+1) rfl 34 (z0e (z0w ps)) (0,0) _ HIS.out.out underlying34 rfl HP8.out ?_|refine wpList_store_row rfl 34 _ _ rfl w.heap.size (z0e (z0w ps)) rfl rfl 34 (z0e zero8) HIS.out.res HP8.out HP88.out (z2E _) ?_);(try simp only[Exit.inBlock,Exit.then]);have hld:=run_loadVar_row (P:=prog) (wr.setRow w.heap.size (z0e (z0w ps))) w.heap.size 34 34 (z0e (z0w ps)) (0,0) _ (setRow_heap wr w.heap.size (z0e zero8) (z0e (z0w ps)) 34 (0,0) HIS.out.res) underlying34 rfl HP8.out;refine bodyPost_ret (v:=.tuple #[.agg (z0e (z0w ps)),.bool false]) ?_ rfl ⟨(by rw[HN.out];exact⟨_,by first|exact z1L _ hp|exact z1L _ hp9|rfl,rfl⟩),below_setRow HIS.out.below (Nat.le_refl _) _⟩;rw[results_cell_tmp rfl];simp[asAddr,Result.andThen,hld]
    ·have h8i:((ps.length:Int)==8)=false:=by rw[beq_eq_false_iff_ne];omega
     have hp7:ps.length<8:=(by omega);by_cases h58:s[i]=58
     ·have h58i:((s[i].toNat:Int)==58)=true:=by rw[h58];rfl
      have HST:Hid (z0S (f'+1) (l.drop i) ps sh=if sh.isSome then none else z0S f' (l.drop (i+1)) (ps++ [0]) (some (ps.length+1))):=(by show _=_;rw[HDR.out,h58];exact zhR _ _ _ _ h8);clear h58 h8;cases sh with
      |some k=>have HN:Hid (res=none):=(by show _=_;rw[HR.out,HST.out];rfl);have hk0:(0:Int)≤z7g (some k):=(by show(0:Int)≤(k:Int);omega);clear HST;go_wp2_with(first|refine wpList_load_row rfl 34 _ rfl (w.heap.size+1) rfl 34 (z0e (z0w ps)) (0,0) _ HIS.out.out underlying34 rfl HP8.out ?_|refine wpList_store_row rfl 34 _ _ rfl w.heap.size (z0e (z0w ps)) rfl rfl 34 (z0e zero8) HIS.out.res HP8.out HP88.out (z2E _) ?_);(try simp only[Exit.inBlock,Exit.then]);have hld:=run_loadVar_row (P:=prog) (wr.setRow w.heap.size (z0e (z0w ps))) w.heap.size 34 34 (z0e (z0w ps)) (0,0) _ (setRow_heap wr w.heap.size (z0e zero8) (z0e (z0w ps)) 34 (0,0) HIS.out.res) underlying34 rfl HP8.out;refine bodyPost_ret (v:=.tuple #[.agg (z0e (z0w ps)),.bool false]) ?_ rfl ⟨(by rw[HN.out];exact⟨_,by first|exact z1L _ hp|exact z1L _ hp9|rfl,rfl⟩),below_setRow HIS.out.below (Nat.le_refl _) _⟩;rw[results_cell_tmp rfl];simp[asAddr,Result.andThen,hld]
      |none=>
       have HRN:Hid (res=z3w (z0S f' (l.drop (i+1)) (ps++ [0]) (some (ps.length+1)))):=(by show _=_;rw[HR.out,HST.out];rfl);have hk0:z7g none= -1:=rfl;have HIN:Hid (SixIs w wr (ps++ [0])):=⟨HIS.out.below,HIS.out.res,by rw[zgi ps hp7];exact HIS.out.out,HIS.out.size⟩;rw[hk0];clear HST hk0;go_wp2;go_roundw
       case rel=>exact⟨ps++ [0],some (ps.length+1),i+1,f',by simp,by(try rfl),by go_num,by omega,HFF.out,by simp;omega,(fun k h=>by cases h;simp),HRN.out,HIN.out⟩
       case measure=>(simp[intOf];try omega)
     ·have h58i:((s[i].toNat:Int)==58)=false:=by
       rw[beq_eq_false_iff_ne];intro h;exact h58 (UInt8.toNat_inj.1 (by show s[i].toNat=58;omega))
      obtain⟨T,hT⟩:=z09 (z0y 4 (l.drop i));have HT:=hI hT;obtain⟨hTh,hT4⟩:=zgg (l.drop i);rw[←hT] at hTh hT4;have HTH:=hI hTh;clear hT hTh;obtain⟨V,hV⟩:=z09 wr;subst hV;obtain⟨p,hpp⟩:=z09 (i+T.length);have HPP:=hI hpp;have hple:p≤s.size:=by have h1:=z9E l i T HT.out (by rw[HLN.out];omega);rw[HLN.out] at h1;rcases h1 with h1|⟨h1,_⟩|⟨h1,_⟩<;>omega
      obtain⟨v,hv⟩:=z09 (z2z 0 T);have HVV:=hI hv;clear hpp hv;go_upto_block 2 with fail;go_cut [7,9] from 32 to 139 (fun a b wx=>a=.int .i64 (p:Nat)∧b=.int .i64 v∧wx=V)
      case first=>
       go_wp2_with fail;go_loopw [7,9] (fun a b wr=>∃j q:Nat,q=i+j∧j≤T.length∧a=.int .i64 (q:Nat)∧b=.int .i64 (z2z 0 (T.take j))∧wr=V) (fun a _ _=>s.size-(intOf a).toNat)
       case atStart=>exact⟨0,i,rfl,Nat.zero_le _,rfl,rfl,rfl⟩
       case round=>
        obtain⟨j,q,hq,hj,rfl,rfl,hwr⟩:=hrel;obtain rfl:=hwr.symm;have HQ:=hI hq;have hqi:(q:Int)-(i:Int)=(j:Int):=(by omega);have hsm:=z9D (T.take j) (fun c hc=>HTH.out c (List.mem_of_mem_take hc)) (by rw[List.length_take];omega);obtain⟨u,hu⟩:=z09 (z2z 0 (T.take j));rw[←hu] at hsm⊢;have HU:=hI hu;obtain⟨hu0,hu1⟩:=hsm;clear hu;by_cases hjt:j<T.length
        ·obtain⟨c,h2,h3,h4,h5⟩:=zgh l i j T HT.out hjt
         rw[←HQ.out] at h2;obtain⟨hqs2,hqe⟩:=List.getElem?_eq_some_iff.1 h2;have hqs:q<s.size:=(by rw[←HLN.out];exact hqs2);have e:c=s[q]:=(by rw[←hqe];exact HG.out q hqs hqs2);subst e;obtain⟨e1,e2,e3⟩:=z4n s[q] h3;have HD:Hid _:=HHX.out s[q] V;have HNX:Hid (z2z 0 (T.take (j+1))=16*u+z1Y s[q]):=by show _=_;rw[h4,zax,HU.out,e1]
         have hqsi:(q:Int)<(s.size:Int):=(by omega);have hj4:(j:Int)<4:=(by omega);generalize z1Y s[q]=d at*;have hw1:IntKind.i64.wrap (16*u)=16*u:=z4v _ (by omega) (by omega);have hw2:IntKind.i64.wrap (16*u+d)=16*u+d:=z4v _ (by omega) (by omega);clear e1 h2 h3 h4 hq hqe hqs2;go_wp2_with fail;refine Calls.mono HD.out ?_;rintro e W0 ⟨rfl,hw0⟩;obtain rfl:=hw0.symm;go_wp2_with fail;refine Calls.mono HD.out ?_;rintro e W0 ⟨rfl,hw0⟩;obtain rfl:=hw0.symm;go_wp2;go_roundw
         case rel=>exact⟨j+1,q+1,by have:=HQ.out;omega,by omega,by go_num,by first|(rw[HNX.out];done)|(rw[HNX.out];exact congrArg (Value.int .i64) (by unfold wrap64;omega)),trivial⟩
         case measure=>(simp[intOf];try omega)
        ·have hje:j=T.length:=by omega
         have HQP:Hid (q=p):=(by have:=HQ.out;have:=HPP.out;show q=p;omega);have HUV:Hid (u=v):=(by show _=_;rw[HU.out,HVV.out,List.take_of_length_le (by omega)]);have hof:=z9E l i T HT.out (by rw[HLN.out];omega);rw[←hje,←HQ.out,HLN.out] at hof;clear hq hje;rcases hof with h1|⟨h1,h2⟩|⟨h1,h2,c,h3,h4⟩
         ·have hqsi:¬(q:Int)<(s.size:Int):=by omega
          clear h1;go_wp2;go_meet;exact⟨by rw[HQP.out],by rw[HUV.out],rfl⟩
         ·have hqsi:(q:Int)<(s.size:Int):=by omega
          have hj4:¬(j:Int)<4:=(by omega);clear h1 h2;go_wp2;go_meet;exact⟨by rw[HQP.out],by rw[HUV.out],rfl⟩
         ·have hqsi:(q:Int)<(s.size:Int):=by omega
          have hj4:(j:Int)<4:=(by omega);obtain⟨hqs2,hqe⟩:=List.getElem?_eq_some_iff.1 h3;have hqs:=h1;have e:c=s[q]:=(by rw[←hqe];exact HG.out q hqs hqs2);subst e;have HD:Hid _:=HHX.out s[q] V;rw[z7x s[q] h4] at HD;clear h1 h2 h3 h4 hqe hqs2;go_wp2_with fail;refine Calls.mono HD.out ?_;rintro e W0 ⟨rfl,hw0⟩;obtain rfl:=hw0.symm;go_wp2;go_meet;exact⟨by rw[HQP.out],by rw[HUV.out],rfl⟩
      case rest=>
      obtain⟨rfl,rfl,hwc⟩:=hcut;obtain rfl:=hwc.symm;have hvr:=z9D T HTH.out hT4;rw[←HVV.out] at hvr;obtain⟨hv0,hv1⟩:=hvr;have HTT:Hid ((l.drop i).drop T.length=l.drop p):=by show _=_;rw[List.drop_drop,←HPP.out]
      by_cases hps:p<s.size
      ·have hpl:p<l.length:=by rw[HLN.out];exact hps
       have HDP:Hid (l.drop p=s[p]::l.drop (p+1)):=(by show _=_;rw[List.drop_eq_getElem_cons hpl,HG.out p hps hpl]);have hpsi:(p:Int)<(s.size:Int):=(by omega);clear hpl;by_cases h46:s[p]=46
       ·have h46i:((s[p].toNat:Int)==46)=true:=by rw[h46];rfl
        have HST:Hid (z0S (f'+1) (l.drop i) ps sh=match z0J (l.drop i) with|some a=>if ps.length≤6 then some (ps++ [a/65536,a%65536],sh) else none|none=>none):=(by show _=_;have h1:((l.drop i).drop (z0y 4 (l.drop i)).length).head? =some 46:=(by rw[←HT.out,HTT.out,HDP.out,h46];rfl);rw[HDR.out] at h1⊢;exact zl4 _ _ _ _ _ h8 h58 h1);have HL:Hid _:=HLA.out i V (by omega);clear h46;cases hsd:z0J (l.drop i) with
        |none=>have HN:Hid (res=none):=(by show _=_;rw[HR.out,HST.out,hsd];rfl);rw[hsd] at HL;clear hsd HST h58 h8;go_wp2_with fail;refine Calls.mono HL.out ?_;rintro e w1 ⟨⟨m,rfl⟩,b1⟩;have HIS:=hI (HIS.out.on b1);clear b1;go_wp2_with(first|refine wpList_load_row rfl 34 _ rfl (w.heap.size+1) rfl 34 (z0e (z0w ps)) (0,0) _ HIS.out.out underlying34 rfl HP8.out ?_|refine wpList_store_row rfl 34 _ _ rfl w.heap.size (z0e (z0w ps)) rfl rfl 34 (z0e zero8) HIS.out.res HP8.out HP88.out (z2E _) ?_);(try simp only[Exit.inBlock,Exit.then]);have hld:=run_loadVar_row (P:=prog) (w1.setRow w.heap.size (z0e (z0w ps))) w.heap.size 34 34 (z0e (z0w ps)) (0,0) _ (setRow_heap w1 w.heap.size (z0e zero8) (z0e (z0w ps)) 34 (0,0) HIS.out.res) underlying34 rfl HP8.out;refine bodyPost_ret (v:=.tuple #[.agg (z0e (z0w ps)),.bool false]) ?_ rfl ⟨(by rw[HN.out];exact⟨_,by first|exact z1L _ hp|exact z1L _ hp9|rfl,rfl⟩),below_setRow HIS.out.below (Nat.le_refl _) _⟩;rw[results_cell_tmp rfl];simp[asAddr,Result.andThen,hld]
        |some a=>
         have hra:=z5W _ _ hsd;obtain⟨ha0,ha1⟩:=hra;rw[hsd] at HL;have HA1:=hI ha1;clear ha1;by_cases h6:ps.length≤6
         ·have HRS:Hid (res=z3w (some (ps++ [a/65536,a%65536],sh))):=by
           show _=_;rw[HR.out,HST.out,hsd];simp only;rw[if_pos h6]
          clear hsd HST h58 h8;have h6i:¬(6:Int)<(ps.length:Int):=(by omega);go_wp2_with fail;refine Calls.mono HL.out ?_;rintro e w1 ⟨hle,b1⟩;have hle:e=_:=hle;subst hle;have HI1:=hI (HIS.out.on b1);clear b1;obtain⟨x1,hx1⟩:=HI1.out.at ps.length (by omega) hp;have fz1:=z04 HI1.out.out ps.length;have HI2:Hid (SixIs w (w1.setCell ⟨w.heap.size+1,ps.length,none⟩ (.int .i64 (a/65536))) (ps++ [a/65536])):=HI1.out.put _ _ (z7h ps _ (by omega));obtain⟨x2,hx2⟩:=HI2.out.at (ps.length+1) (by omega) (by simp;omega);have fz2:=z04 HI2.out.out (ps.length+1);have HI3:Hid (SixIs w ((w1.setCell ⟨w.heap.size+1,ps.length,none⟩ (.int .i64 (a/65536))).setCell ⟨w.heap.size+1,ps.length+1,none⟩ (.int .i64 (a%65536))) (ps++ [a/65536,a%65536])):=by have h:=z7h (ps++ [a/65536]) (a%65536) (by simp;omega);rw[List.length_append,List.append_assoc] at h;exact HI2.out.put _ _ h
          have htd:a.tdiv 65536=a/65536:=Int.tdiv_eq_ediv_of_nonneg ha0;have htm:a.tmod 65536=a%65536:=Int.tmod_eq_emod_of_nonneg ha0;have hw1:wrap64 (a/65536)=a/65536:=(by have:=HA1.out;unfold wrap64;omega);go_wp2;go_meet;exact⟨ps++ [a/65536,a%65536],sh,by simp,rfl,by simp;omega,(fun k h=>by have:=HSH.out k h;simp;omega),HRS.out,HI3.out⟩
         ·have HN:Hid (res=none):=by
           show _=_;rw[HR.out,HST.out,hsd];simp only;rw[if_neg h6];rfl
          clear hsd HST h58 h8;have h6i:(6:Int)<(ps.length:Int):=(by omega);go_wp2_with fail;refine Calls.mono HL.out ?_;rintro e w1 ⟨hle,b1⟩;have hle:e=_:=hle;subst hle;have HIS:=hI (HIS.out.on b1);clear b1;go_wp2_with(first|refine wpList_load_row rfl 34 _ rfl (w.heap.size+1) rfl 34 (z0e (z0w ps)) (0,0) _ HIS.out.out underlying34 rfl HP8.out ?_|refine wpList_store_row rfl 34 _ _ rfl w.heap.size (z0e (z0w ps)) rfl rfl 34 (z0e zero8) HIS.out.res HP8.out HP88.out (z2E _) ?_);(try simp only[Exit.inBlock,Exit.then]);have hld:=run_loadVar_row (P:=prog) (w1.setRow w.heap.size (z0e (z0w ps))) w.heap.size 34 34 (z0e (z0w ps)) (0,0) _ (setRow_heap w1 w.heap.size (z0e zero8) (z0e (z0w ps)) 34 (0,0) HIS.out.res) underlying34 rfl HP8.out;refine bodyPost_ret (v:=.tuple #[.agg (z0e (z0w ps)),.bool false]) ?_ rfl ⟨(by rw[HN.out];exact⟨_,by first|exact z1L _ hp|exact z1L _ hp9|rfl,rfl⟩),below_setRow HIS.out.below (Nat.le_refl _) _⟩;rw[results_cell_tmp rfl];simp[asAddr,Result.andThen,hld]
       ·have h46i:((s[p].toNat:Int)==46)=false:=by
         rw[beq_eq_false_iff_ne];intro h;exact h46 (UInt8.toNat_inj.1 (by show s[p].toNat=46;omega))
        by_cases ht0:T=[]
        ·have HN:Hid (res=none):=by
          show _=_;have h1:¬((l.drop i).drop (z0y 4 (l.drop i)).length).head? =some 46:=by rw[←HT.out,HTT.out,HDP.out];intro h;exact h46 (Option.some.inj h)
          have h2:=HT.out;rw[ht0] at h2;rw[HR.out];rw[HDR.out] at h1 h2⊢;rw[zmY _ _ _ _ _ h8 h58 h1 h2.symm];rfl
         have hpi:p=i:=(by rw[HPP.out,ht0];rfl);have hpe:((p:Int)==(i:Int))=true:=(by rw[hpi];simp);clear ht0 h46 hpi h58 h8;go_wp2_with(first|refine wpList_load_row rfl 34 _ rfl (w.heap.size+1) rfl 34 (z0e (z0w ps)) (0,0) _ HIS.out.out underlying34 rfl HP8.out ?_|refine wpList_store_row rfl 34 _ _ rfl w.heap.size (z0e (z0w ps)) rfl rfl 34 (z0e zero8) HIS.out.res HP8.out HP88.out (z2E _) ?_);(try simp only[Exit.inBlock,Exit.then]);have hld:=run_loadVar_row (P:=prog) (V.setRow w.heap.size (z0e (z0w ps))) w.heap.size 34 34 (z0e (z0w ps)) (0,0) _ (setRow_heap V w.heap.size (z0e zero8) (z0e (z0w ps)) 34 (0,0) HIS.out.res) underlying34 rfl HP8.out;refine bodyPost_ret (v:=.tuple #[.agg (z0e (z0w ps)),.bool false]) ?_ rfl ⟨(by rw[HN.out];exact⟨_,by first|exact z1L _ hp|exact z1L _ hp9|rfl,rfl⟩),below_setRow HIS.out.below (Nat.le_refl _) _⟩;rw[results_cell_tmp rfl];simp[asAddr,Result.andThen,hld]
        ·have hT0:=List.length_pos_iff.2 ht0
         have hpe:((p:Int)==(i:Int))=false:=(by rw[beq_eq_false_iff_ne];have:=HPP.out;omega);have hpe2:((p:Int)==(s.size:Int))=false:=(by rw[beq_eq_false_iff_ne];omega);have HST:Hid (z0S (f'+1) (l.drop i) ps sh=if s[p]≠58∨l.drop (p+1)=[] then none else z0S f' (l.drop (p+1)) (ps++ [v]) sh):=(by show _=_;have h1:(l.drop i).drop (z0y 4 (l.drop i)).length=s[p]::l.drop (p+1):=(by rw[←HT.out,HTT.out,HDP.out]);have h2:z0y 4 (l.drop i)≠[]:=(by rw[←HT.out];exact ht0);have h3:=HVV.out;rw[HT.out] at h3;rw[HDR.out] at h1 h2 h3⊢;rw[zjp _ _ _ _ _ _ _ h8 h58 h46 h2 h1,←h3]);obtain⟨x1,hx1⟩:=HIS.out.at ps.length (by omega) hp;have fz1:=z04 HIS.out.out ps.length;obtain⟨V2,hV2⟩:=z09 (V.setCell ⟨w.heap.size+1,ps.length,none⟩ (.int .i64 v));have HI2:Hid (SixIs w V2 (ps++ [v])):=(by show SixIs w V2 (ps++ [v]);rw[hV2];exact HIS.out.put _ _ (z7h ps _ (by omega)));have HV2:=hI hV2;clear hV2;have hp9:(ps++ [v]).length≤8:=(by simp;omega);have hpn:(ps++ [v]).length=ps.length+1:=(by simp);clear ht0 h46 h58 h8;by_cases hc:s[p]=58
         ·have hci:(s[p].toNat:Int)=58:=by rw[hc];rfl
          by_cases hpe3:p+1=s.size
          ·have hpe4:((p:Int)+1==(s.size:Int))=true:=by rw[beq_iff_eq];omega
           have HN:Hid (res=none):=(by show _=_;rw[HR.out,HST.out,if_pos (Or.inr (List.drop_eq_nil_of_le (by rw[HLN.out];omega)))];rfl);have HIS:Hid (SixIs w (V.setCell ⟨w.heap.size+1,ps.length,none⟩ (.int .i64 v)) (ps++ [v])):=(by rw[←HV2.out];exact HI2);have HP8:Hid _:=HP8A.out (ps++ [v]) hp9;have HP88:Hid _:=HP88A.out (ps++ [v]) hp9;clear HST hc hpe3;go_wp2_with(first|refine wpList_load_row rfl 34 _ rfl (w.heap.size+1) rfl 34 (z0e (z0w (ps++[v]))) (0,0) _ HIS.out.out underlying34 rfl HP8.out ?_|refine wpList_store_row rfl 34 _ _ rfl w.heap.size (z0e (z0w (ps++[v]))) rfl rfl 34 (z0e zero8) HIS.out.res HP8.out HP88.out (z2E _) ?_);(try simp only[Exit.inBlock,Exit.then]);have hld:=run_loadVar_row (P:=prog) ((V.setCell ⟨w.heap.size+1,ps.length,none⟩ (.int .i64 v)).setRow w.heap.size (z0e (z0w (ps++[v])))) w.heap.size 34 34 (z0e (z0w (ps++[v]))) (0,0) _ (setRow_heap (V.setCell ⟨w.heap.size+1,ps.length,none⟩ (.int .i64 v)) w.heap.size (z0e zero8) (z0e (z0w (ps++[v]))) 34 (0,0) HIS.out.res) underlying34 rfl HP8.out;refine bodyPost_ret (v:=.tuple #[.agg (z0e (z0w (ps++[v]))),.bool false]) ?_ rfl ⟨(by rw[HN.out];exact⟨_,by first|exact z1L _ hp|exact z1L _ hp9|rfl,rfl⟩),below_setRow HIS.out.below (Nat.le_refl _) _⟩;rw[results_cell_tmp rfl];simp[asAddr,Result.andThen,hld]
          ·have hpe4:((p:Int)+1==(s.size:Int))=false:=by rw[beq_eq_false_iff_ne];omega
           have HRS:Hid (res=z3w (z0S f' (l.drop (p+1)) (ps++ [v]) sh)):=by
            show _=_;rw[HR.out,HST.out,if_neg];rintro(h|h)
            ·exact h hc
            ·have:=congrArg List.length h
             rw[List.length_drop,HLN.out,List.length_nil] at this;omega
           have HFN:Hid (l.length-(p+1)<f'):=(by have:=HFF.out;have:=HPP.out;show _<_;omega);clear HST hc;go_wp2;go_roundw
           case rel=>exact⟨ps++ [v],sh,p+1,f',by rw[hpn];(first|rfl|go_num),rfl,by go_num,by omega,HFN.out,hp9,(fun k h=>by have:=HSH.out k h;rw[hpn];omega),HRS.out,by first|exact HI2.out|(rw[←HV2.out];exact HI2.out)⟩
           case measure=>(simp[intOf];have:=HPP.out;try omega)
         ·have hci:¬(s[p].toNat:Int)=58:=by
           intro h;exact hc (UInt8.toNat_inj.1 (by show s[p].toNat=58;omega))
          have HN:Hid (res=none):=(by show _=_;rw[HR.out,HST.out,if_pos (Or.inl hc)];rfl);have HIS:Hid (SixIs w (V.setCell ⟨w.heap.size+1,ps.length,none⟩ (.int .i64 v)) (ps++ [v])):=(by rw[←HV2.out];exact HI2);have HP8:Hid _:=HP8A.out (ps++ [v]) hp9;have HP88:Hid _:=HP88A.out (ps++ [v]) hp9;clear HST hc;go_wp2_with(first|refine wpList_load_row rfl 34 _ rfl (w.heap.size+1) rfl 34 (z0e (z0w (ps++[v]))) (0,0) _ HIS.out.out underlying34 rfl HP8.out ?_|refine wpList_store_row rfl 34 _ _ rfl w.heap.size (z0e (z0w (ps++[v]))) rfl rfl 34 (z0e zero8) HIS.out.res HP8.out HP88.out (z2E _) ?_);(try simp only[Exit.inBlock,Exit.then]);have hld:=run_loadVar_row (P:=prog) ((V.setCell ⟨w.heap.size+1,ps.length,none⟩ (.int .i64 v)).setRow w.heap.size (z0e (z0w (ps++[v])))) w.heap.size 34 34 (z0e (z0w (ps++[v]))) (0,0) _ (setRow_heap (V.setCell ⟨w.heap.size+1,ps.length,none⟩ (.int .i64 v)) w.heap.size (z0e zero8) (z0e (z0w (ps++[v]))) 34 (0,0) HIS.out.res) underlying34 rfl HP8.out;refine bodyPost_ret (v:=.tuple #[.agg (z0e (z0w (ps++[v]))),.bool false]) ?_ rfl ⟨(by rw[HN.out];exact⟨_,by first|exact z1L _ hp|exact z1L _ hp9|rfl,rfl⟩),below_setRow HIS.out.below (Nat.le_refl _) _⟩;rw[results_cell_tmp rfl];simp[asAddr,Result.andThen,hld]
      ·have hpe2:p=s.size:=by omega
       have hT0:0<T.length:=(by have:=HPP.out;omega);have HRS:Hid (res=z3w (some (ps++ [v],sh))):=(by show _=_;have h1:(l.drop i).drop (z0y 4 (l.drop i)).length=[]:=(by rw[←HT.out,HTT.out];exact List.drop_eq_nil_of_le (by rw[HLN.out];omega));have h2:z0y 4 (l.drop i)≠[]:=(by rw[←HT.out];exact List.length_pos_iff.1 hT0);have h3:=HVV.out;rw[HT.out] at h3;rw[HR.out];rw[HDR.out] at h1 h2 h3⊢;rw[zhS _ _ _ _ _ h8 h58 h2 h1,←h3]);have hpsi:¬(p:Int)<(s.size:Int):=(by omega);have hpe:((p:Int)==(i:Int))=false:=(by rw[beq_eq_false_iff_ne];omega);have hpe3:((p:Int)==(s.size:Int))=true:=(by rw[beq_iff_eq];omega);obtain⟨x1,hx1⟩:=HIS.out.at ps.length (by omega) hp;have fz1:=z04 HIS.out.out ps.length;have HI2:Hid (SixIs w (V.setCell ⟨w.heap.size+1,ps.length,none⟩ (.int .i64 v)) (ps++ [v])):=HIS.out.put _ _ (z7h ps _ (by omega));clear h58 h8 hpe2;go_wp2;go_meet;exact⟨ps++ [v],sh,by simp,rfl,by simp;omega,(fun k h=>by have:=HSH.out k h;simp;omega),HRS.out,HI2.out⟩
   ·have HRS:Hid (res=z3w (some (ps,sh))):=by
     show _=_;rw[HR.out,List.drop_eq_nil_of_le (by rw[HLN.out];omega)];obtain⟨f',hf'⟩:∃f',f=f'+1:=⟨f- 1,by omega⟩;rw[hf',zl3]
    go_wp2;go_meet;exact⟨ps,sh,rfl,rfl,hp,HSH.out,HRS.out,HIS.out⟩
 case rest=>
 obtain⟨ps,sh,rfl,rfl,hp,hsh,hr,his⟩:=hcut;have HR:=hI hr;have HSH:=hI hsh;have HIS:=hI his;clear hr hsh his HR0 HS0 HI0 hi0 hf0 hp0 HLA HG;cases sh with
 |none=>
  have hk0:z7g none= -1:=rfl;rw[hk0];clear hk0;by_cases h8:ps.length=8
  ·have HRS:Hid (res=some (z0w ps)):=by
    show _=_;rw[HR.out,zjm ps h8];exact if_pos h8
   have h8i:((ps.length:Int)==8)=true:=(by rw[h8];rfl);have HP8:Hid _:=HP8A.out ps hp;have HP88:Hid _:=HP88A.out ps hp;have HRW:Hid _:=HIS.out.out;clear h8;go_wp2_with(first|refine wpList_load_row rfl 34 _ rfl (w.heap.size+1) rfl 34 (z0e (z0w ps)) (0,0) _ HRW.out underlying34 rfl HP8.out ?_|refine wpList_store_row rfl 34 _ _ rfl w.heap.size (z0e (z0w ps)) rfl rfl 34 (z0e zero8) HIS.out.res HP8.out HP88.out (z2E _) ?_);(try simp only[Exit.inBlock,Exit.then]);have hld:=run_loadVar_row (P:=prog) (wc.setRow w.heap.size (z0e (z0w ps))) w.heap.size 34 34 (z0e (z0w ps)) (0,0) _ (setRow_heap wc w.heap.size (z0e zero8) (z0e (z0w ps)) 34 (0,0) HIS.out.res) underlying34 rfl HP8.out;refine bodyPost_ret (v:=.tuple #[.agg (z0e (z0w ps)),.bool true]) ?_ rfl ⟨(by rw[HRS.out];rfl),below_setRow HIS.out.below (Nat.le_refl _) _⟩;rw[results_cell_tmp rfl];simp[asAddr,Result.andThen,hld]
  ·have HN:Hid (res=none):=by
    show _=_;rw[HR.out];exact if_neg h8
   have h8i:((ps.length:Int)==8)=false:=(by rw[beq_eq_false_iff_ne];omega);have HP8:Hid _:=HP8A.out ps hp;have HP88:Hid _:=HP88A.out ps hp;clear h8;go_wp2_with(first|refine wpList_load_row rfl 34 _ rfl (w.heap.size+1) rfl 34 (z0e (z0w ps)) (0,0) _ HIS.out.out underlying34 rfl HP8.out ?_|refine wpList_store_row rfl 34 _ _ rfl w.heap.size (z0e (z0w ps)) rfl rfl 34 (z0e zero8) HIS.out.res HP8.out HP88.out (z2E _) ?_);(try simp only[Exit.inBlock,Exit.then]);have hld:=run_loadVar_row (P:=prog) (wc.setRow w.heap.size (z0e (z0w ps))) w.heap.size 34 34 (z0e (z0w ps)) (0,0) _ (setRow_heap wc w.heap.size (z0e zero8) (z0e (z0w ps)) 34 (0,0) HIS.out.res) underlying34 rfl HP8.out;refine bodyPost_ret (v:=.tuple #[.agg (z0e (z0w ps)),.bool false]) ?_ rfl ⟨(by rw[HN.out];exact⟨_,by first|exact z1L _ hp|exact z1L _ hp9|rfl,rfl⟩),below_setRow HIS.out.below (Nat.le_refl _) _⟩;rw[results_cell_tmp rfl];simp[asAddr,Result.andThen,hld]
 |some k=>
  have hk0:z7g (some k)=(k:Int):=rfl;rw[hk0];clear hk0;obtain⟨hk1,hkp⟩:=HSH.out k rfl;have hkn:¬(k:Int)<0:=by omega
  have HRS:Hid (res=some (mvI ps k ps.length)):=by show _=_;rw[HR.out,zmX];rfl
  obtain⟨V,hV⟩:=z09 (wc.alloc (.cells #[.int .i64 0,.int .i64 0,.int .i64 0,.int .i64 0,.int .i64 0,.int .i64 0,.int .i64 0,.int .i64 0] 34));have HMV:Hid (SixMv w V ps wc.heap.size (z0w (ps.take 0))):=by show SixMv w V ps wc.heap.size (z0w (ps.take 0));rw[hV];refine⟨HIS.out.on ((Below.refl _ _).alloc (Nat.le_refl _) _),?_,HIS.out.size⟩;simp only[World.alloc,Array.getElem?_push];rw[if_pos trivial];rfl
  go_upto_region 43 with fail;rw[←hV];clear hV;obtain⟨m,hm⟩:=z09 wc.heap.size;rw[←hm] at HMV⊢;clear hm HR HIS;go_wp2_with fail;go_loopw [13] (fun a wr=>∃j:Nat,j≤k∧a=.int .i64 (j:Nat)∧SixMv w wr ps m (z0w (ps.take j))) (fun a _=>k-(intOf a).toNat)
  case atStart=>exact⟨0,Nat.zero_le _,rfl,HMV.out⟩
  case round=>
   obtain⟨j,hj,rfl,hmv⟩:=hrel;have HM:=hI hmv;clear hmv;by_cases hjk:j<k
   ·have hjp:j<ps.length:=by omega
    have c1:=HM.out.is.piece j hjp hp;obtain⟨x2,c2⟩:=HM.out.at j (by rw[z1L _ (by rw[List.length_take];omega)];omega);have fz:=z04 HM.out.row j;have HM2:=hI (HM.out.put j ps[j] (zl2 ps j hjp hp));generalize ps[j]=y at*;have hj8:j<8:=(by omega);go_wp2;go_roundw
    case rel=>exact⟨j+1,by omega,by go_num,HM2.out⟩
    case measure=>(simp[intOf];try omega)
   ·have hje:j=k:=by omega
    subst hje;obtain⟨V2,hV2⟩:=z09 wr;subst hV2;have HM0:Hid (SixMv w V2 ps m (mvI ps j j)):=by show SixMv w V2 ps m (mvI ps j j);rw[zjn ps j hkp hp];exact HM.out
    clear HM HMV;go_wp2_with fail;go_loopw [14] (fun a wr=>∃q:Nat,j≤q∧q≤ps.length∧a=.int .i64 (q:Nat)∧SixMv w wr ps m (mvI ps j q)) (fun a _=>ps.length-(intOf a).toNat)
    case atStart=>exact⟨j,Nat.le_refl _,hkp,rfl,HM0.out⟩
    case round=>
     obtain⟨q,hjq,hq,rfl,hmv⟩:=hrel;have HM:=hI hmv;clear hmv;by_cases hqp:q<ps.length
     ·have c1:=HM.out.is.piece q hqp hp
      obtain⟨d,hd⟩:=z09 (8- ps.length+q);have hd8:d<8:=(by omega);obtain⟨x2,c2⟩:=HM.out.at d (by rw[zgZ ps j q hjq (by omega) hp];exact hd8);have fz:=z04 HM.out.row d;have HM2:Hid (SixMv w (wr.setCell ⟨m,d,none⟩ (.int .i64 ps[q])) ps m (mvI ps j (q+1))):=HM.out.put d ps[q] (by rw[hd];exact zmW ps j q hjq hqp hp);have hdi:8-(ps.length:Int)+(q:Int)=(d:Int):=(by omega);generalize ps[q]=y at*;have hq8:q<8:=(by omega);clear hd;go_wp2;go_roundw
      case rel=>exact⟨q+1,by omega,by omega,by go_num,HM2.out⟩
      case measure=>(simp[intOf];try omega)
     ·have hqe:q=ps.length:=by omega
      subst hqe;have HIS:=hI HM.out.is;have HRW:Hid _:=HM.out.row;have hml:=zgZ ps j ps.length hkp (Nat.le_refl _) hp;have HP8:Hid ((prog.info? 34).map (·.size)=some (z0e (mvI ps j ps.length)).size):=by show _=_;rw[z3T,hml];exact zoJ
      have HP88:Hid ((z0e zero8).size=(z0e (mvI ps j ps.length)).size):=(by show _=_;rw[z3T (mvI ps j ps.length),hml];rfl);clear hml;go_wp2_with(first|refine wpList_load_row rfl 34 _ rfl (m) rfl 34 (z0e (mvI ps j ps.length)) (0,0) _ HRW.out underlying34 rfl HP8.out ?_|refine wpList_store_row rfl 34 _ _ rfl w.heap.size (z0e (mvI ps j ps.length)) rfl rfl 34 (z0e zero8) HIS.out.res HP8.out HP88.out (z2E _) ?_);(try simp only[Exit.inBlock,Exit.then]);have hld:=run_loadVar_row (P:=prog) (wr.setRow w.heap.size (z0e (mvI ps j ps.length))) w.heap.size 34 34 (z0e (mvI ps j ps.length)) (0,0) _ (setRow_heap wr w.heap.size (z0e zero8) (z0e (mvI ps j ps.length)) 34 (0,0) HIS.out.res) underlying34 rfl HP8.out;refine bodyPost_ret (v:=.tuple #[.agg (z0e (mvI ps j ps.length)),.bool true]) ?_ rfl ⟨(by rw[HRS.out];rfl),below_setRow HIS.out.below (Nat.le_refl _) _⟩;rw[results_cell_tmp rfl];simp[asAddr,Result.andThen,hld]
end Go.Proofs
