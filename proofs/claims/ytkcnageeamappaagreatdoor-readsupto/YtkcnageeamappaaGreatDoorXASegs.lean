import Derived.Test.YtkcnageeamappaaGreatDoorXSIp6L
import Derived.Deep.AppendLies
import Derived.WalkSmall
set_option maxHeartbeats 32000000
set_option maxRecDepth 8000
namespace Go.Proofs
open Go.RowKit Go.Moor Go.Proofs.Tryz
theorem zox:(prog.info? 9).map (fun i=>(i.zero,i.size,i.bytes))=some (some (.string ⟨#[]⟩),1,16):=by kernel_rfl
theorem ziQ (b o cap:Nat) (ps:List Nat) (w:World) (hb:b<w.heap.size) (hn:ps.length≤8) (hcap:ps.length≤cap) (hcap2:cap≤8) (hps:∀p∈ps,p<65536) (hcl:∀(j:Nat) p,ps[j]?=some p→w.cell? ⟨b,o+j,none⟩=some (.int .u64 (p:Nat))) (henv:Env w) (htz:Tz w):CB 196 #[.slice (some ⟨b,o,none⟩) ps.length cap] w (.string ⟨(z0A ps).toArray⟩):=by
 have HC:=hI hcl;have HS:=hI hps;have HV:=hI henv;have HT:=hI htz;obtain⟨i0,hi,hz0,hz1,hz2⟩:=info_parts zox;have hgz:=henv.size;clear hcl hps henv htz;go_enter func196,ntmps196;go_wp2;go_loopw [3,8] (fun v i wr=>∃q:Nat,q≤ps.length∧i=.int .i64 q∧wr.ownsRow w.heap.size 9 1 v q ((ps.take q).map fun p=>Value.string (z33 p))∧Below w.heap.size w wr) (fun _ i _=>ps.length-(intOf i).toNat)
 case atStart=>exact⟨0,Nat.zero_le _,rfl,World.ownsRow_nil _ _ _ _,Below.refl _ _⟩
 case round=>
  obtain⟨q,hq,rfl,hown,hbw⟩:=hrel;have HB:=hI hbw;have HO:=hI hown;have hwz:=hbw.size;clear hbw hown;by_cases hlt:q<ps.length
  ·obtain⟨x,hx⟩:∃x,ps[q]?=some x:=⟨ps[q]'hlt,by simp⟩
   have hc:=(HB.out.cell (by exact hb)).trans (HC q x hx);have hxm:=HS x (List.mem_of_getElem? hx);have HTK:Hid ((ps.take (q+1)).map (fun p=>Value.string (z33 p))=(ps.take q).map (fun p=>Value.string (z33 p))++ [.string (z33 x)]):=(by show _=_;rw[List.take_add_one,hx];simp);have HVr:Hid _:=HV.out.below HB;have HTr:Hid _:=HT.out.below HB (by omega);clear hx;go_wp2_with fail;refine(zng x hxm _ HVr HTr).mono ?_;rintro e w2 ⟨rfl,hb2⟩;have hown2:=z5t HO hb2;have HO2:=hown2.alloc (.cells #[.string (z33 x)] 9);have HB2:Hid _:=HB.out.trans (hb2.mono hwz);have hw2:=HB2.out.size;have hps:(⟨(z0O 16 3 x).toArray⟩:ByteArray)=z33 x:=rfl;clear hb2 hown2;go_wp2_with(at_builtin;refine wpList_append_own _ rfl _ _ 28 rfl w.heap.size 9 i0 (.string ⟨#[]⟩) 1 16 underlying28 hi hz0 hz1 hz2 rfl (by decide) _ _ _ rfl HO2 ⟨w2.heap.size,0,none⟩ 1 1 [.string (z33 x)] rfl rfl ?c1 ?c2 ?c3 ?c4 ?c5 ?_)
   case c1=>
    intro j u hj;match j,hj with
    |0,hj=>simp at hj;subst hj;exact World.cell?_alloc_new w2 #[.string (z33 x)] 9 0
   case c2=>intro u hu;simp at hu;subst hu;rfl
   case c3=>unfold maxLen;omega
   case c4=>omega
   case c5=>simp;omega
   intro v' w3 hown' hgrow _;have HOW:Hid (w3.ownsRow w.heap.size 9 1 v' (q+1) ((ps.take q).map (fun p=>Value.string (z33 p))++ [.string (z33 x)])):=by show World.ownsRow _ _ _ _ _ _ _;rw[List.map_take];exact hown'
   have HBB:Hid _:=(HB2.out.alloc (by omega) _).grown hgrow (by simp;omega) (fun k hk=>(HO2.lt k hk).1);clear hown' hgrow HO2;go_wp2;go_roundw
   case rel=>refine⟨q+1,by omega,by go_num,?_,HBB⟩;rw[HTK.out];exact HOW
   case measure=>simp[intOf];omega
  ·have hqe:q=ps.length:=by omega
   subst hqe;have hown:=HO;rw[List.take_length] at hown;obtain⟨sp,cap2,rfl,hform⟩:=z6f hown;have HCT:Hid (CB 189 #[.slice sp ps.length cap2,.string ⟨#[58]⟩] wr (.string ⟨(z0A ps).toArray⟩)):=by
    by_cases h0:ps.length=0
    ·have:=strings_Join_none sp cap2 ⟨#[58]⟩ wr
     have he:=List.eq_nil_of_length_eq_zero h0;subst he;refine this.mono ?_;rintro e w' ⟨rfl,rfl⟩;exact⟨rfl,Below.refl _ _⟩
    ·obtain⟨g,rfl,_,hcells⟩:=hform (by omega)
     have hcc:ps.length≤cap2:=by
      rcases hown.2 with⟨h,_⟩|⟨g',cap',cur,h,_,_,h4,_⟩
      ·cases h
      ·cases h;exact h4
     have hj:=strings_Join g 0 cap2 (ps.map z33) ⟨#[58]⟩ wr (by
       intro j x hx;rw[Nat.zero_add];refine hcells j (.string x) ?_;rw[List.getElem?_map] at hx⊢;cases hp:ps[j]?with
       |none=>rw[hp] at hx;simp at hx
       |some p=>rw[hp] at hx;simp at hx⊢;exact hx) (by
       obtain⟨x,hx⟩:∃x,ps[0]?=some x:=⟨ps[0]'(by omega),by simp⟩;exact block_lt_of_cell (hcells 0 (.string (z33 x)) (by rw[List.getElem?_map,hx];rfl))) (by simp;omega) (by simpa using hcc) (by
       have:=z2f ps;unfold z0A at this;have e:((ps.map z33).map (·.data.toList))=ps.map pieceTxt:=by rw[List.map_map];rfl
       rw[e];show(Lib.join (ps.map pieceTxt) [58]).length≤_;omega)
     have e:((ps.map z33).map (·.data.toList))=ps.map pieceTxt:=(by rw[List.map_map];rfl);rw[e,List.length_map] at hj;exact hj
   clear hown hform;go_wp2_with fail;refine HCT.out.mono ?_;rintro e w2 ⟨rfl,hb2⟩;go_wp2;go_ret;exact⟨rfl,HB.out.trans (hb2.mono hwz)⟩
theorem zoO (cs:Array Value) (q:Nat) (v:Value) (hq:q<8) (h:cs[q]?=some v) (w:World):(Instr.index 177 (.agg cs) (.int .i64 q)).run prog w=.ok v w:=by simp[Instr.index,asIntOf,run_underlying underlying177,run_underlying underlying151,part,isAgg,h,hq]
set_option maxRecDepth 100000 in
theorem zly (ps:List Nat) (w:World) (h8:ps.length=8) (hps:∀p∈ps,p<65536):CB 195 #[.agg (z2a ps)] w (.tuple #[.int .i64 ((z0B ps 0 0 0 0).1:Nat),.int .i64 ((z0B ps 0 0 0 0).2:Nat)]):=by
 have HS:=hI hps;have HSZ:Hid ((prog.info? 177).map (·.size)=some (z2a ps).size):=by show _=_;rw[z6M,h8];exact zp7
 have HL:=hI h8;have HN:Hid ((w.alloc (.cells (z2a ps) 177)).heap[w.heap.size]?=some (.cells (z2a ps) 177 (0,0))):=heap_alloc_new w _;generalize hgo:z0B ps 0 0 0 0=goal;have HG:=hI hgo;clear hps h8 hgo;go_enter func195,ntmps195;go_wp2_with(first|refine wpList_load_row rfl 177 _ rfl w.heap.size rfl 177 (z2a ps) (0,0) _ HN.out underlying177 rfl HSZ.out ?_);go_loop [2,3,4,8] (fun s l r i=>∃si li ri q:Nat,s=.int .i64 si∧l=.int .i64 li∧r=.int .i64 ri∧i=.int .i64 q∧q≤8∧ri≤q∧li≤8∧si≤8∧z0B (ps.drop q) q ri si li=goal) (fun _ _ _ i=>8-(intOf i).toNat)
 case atStart=>exact⟨0,0,0,0,rfl,rfl,rfl,rfl,by omega,by omega,by omega,by omega,HG.out⟩
 case round=>
  obtain⟨si,li,ri,q,rfl,rfl,rfl,rfl,hq,hri,hli,hsi,hrest⟩:=hrel;have HR:=hI hrest;clear hrest;by_cases hlt:q<8
  ·obtain⟨x,hx⟩:∃x,ps[q]?=some x:=⟨ps[q]'(by have:=HL.out;omega),by simp⟩
   have hix:=zfd ps q x hx;have hrun:=zoO (z2a ps) q _ hlt hix (w.alloc (.cells (z2a ps) 177));clear hix;have hxm:=HS.out x (List.mem_of_getElem? hx);have HD:Hid (ps.drop q=x::ps.drop (q+1)):=(by obtain⟨h1,h2⟩:=List.getElem?_eq_some_iff.1 hx;show _=_;rw[List.drop_eq_getElem_cons h1,h2]);clear hx;by_cases hx0:x=0
   ·subst hx0
    by_cases hgt:li<ri+1
    ·go_wp2
     go_round
     case rel=>
      refine⟨q- ri,ri+1,ri+1,q+1,?_,by go_num,by go_num,by go_num,by omega,by omega,by omega,by omega,?_⟩
      ·congr 1
       omega
      ·have h1:=HR.out
       rw[HD.out] at h1;unfold z0B at h1;rw[if_neg (by simp),if_pos hgt] at h1;exact h1
     case measure=>simp[intOf];omega
    ·go_wp2
     go_round
     case rel=>refine⟨si,li,ri+1,q+1,rfl,rfl,by go_num,by go_num,by omega,by omega,by omega,by omega,?_⟩;have h1:=HR.out;rw[HD.out] at h1;unfold z0B at h1;rw[if_neg (by simp),if_neg hgt] at h1;exact h1
     case measure=>simp[intOf];omega
   ·go_wp2
    go_round
    case rel=>refine⟨si,li,0,q+1,rfl,rfl,rfl,by go_num,by omega,by omega,by omega,by omega,?_⟩;have h1:=HR.out;rw[HD.out] at h1;unfold z0B at h1;rw[if_pos hx0] at h1;exact h1
    case measure=>simp[intOf];omega
  ·go_wp2
   go_ret2;have h1:=HR.out;rw[List.drop_eq_nil_of_le (by have:=HL.out;omega)] at h1;refine⟨?_,(Below.refl _ w).alloc (Nat.le_refl _) _⟩;rw[←h1];rfl
theorem zia (w:World) (ps:List Nat) (t:TypeId):∀(j p:Nat),ps[j]?=some p→(w.alloc (.cells (z2a ps) t)).cell? ⟨w.heap.size,0+j,none⟩=some (.int .u64 (p:Nat)):=by intro j p h;rw[Nat.zero_add,World.cell?_alloc_new];exact zfd ps j p h
set_option maxRecDepth 100000 in
theorem zlz (ps:List Nat) (w:World) (h8:ps.length=8) (hps:∀p∈ps,p<65536) (henv:Env w) (htz:Tz w):CB 140 #[.agg (z2a ps)] w (.string ⟨(z1C ps).toArray⟩):=by
 have hg15:=henv.size;have hbd:=z4C 8 ps 0 0 0 0 (by omega) (by omega) (by omega);have HB0:Hid (Below w.heap.size w (w.alloc (.cells (z2a ps) 177))):=(Below.refl _ w).alloc (Nat.le_refl _) _;have HV0:=hI (henv.below HB0);have HT0:=hI (htz.below HB0 (by omega));have HSZ:Hid ((prog.info? 177).map (·.size)=some (z2a ps).size):=by show _=_;rw[z6M,h8];exact zp7
 have HN:Hid ((w.alloc (.cells (z2a ps) 177)).heap[w.heap.size]?=some (.cells (z2a ps) 177 (0,0))):=heap_alloc_new w _;have HL:Hid (CB 195 #[.agg (z2a ps)] (w.alloc (.cells (z2a ps) 177)) (.tuple #[.int .i64 ((z0B ps 0 0 0 0).1:Nat),.int .i64 ((z0B ps 0 0 0 0).2:Nat)])):=zly ps _ h8 hps;have HCX:Hid (∀(W:World) (o cap:Nat) (qs:List Nat),Below (w.alloc (.cells (z2a ps) 177)).heap.size (w.alloc (.cells (z2a ps) 177)) W→qs.length≤8→qs.length≤cap→cap≤8→(∀j p,qs[j]?=some p→ps[o+j]?=some p)→CB 196 #[.slice (some ⟨w.heap.size,o,none⟩) qs.length cap] W (.string ⟨(z0A qs).toArray⟩)):=by
  intro W o cap qs hW h1 h2 h3 hin;have hz:=hW.size;refine ziQ w.heap.size o cap qs W (by simp at hz;omega) h1 h2 h3 (fun p hp=>?_) (fun j p hj=>?_) (HV0.out.below hW) (HT0.out.below hW (by simp;omega))
  ·obtain⟨j,hj⟩:=List.mem_iff_getElem?.1 hp
   exact hps p (List.mem_of_getElem? (hin j p hj))
  ·rw[hW.cell (p:=⟨w.heap.size,o+j,none⟩) (by simp)]
   have:=zia w ps 177 (o+j) p (hin j p hj);rw[Nat.zero_add] at this;exact this
 generalize hs:(z0B ps 0 0 0 0).1=s at*;generalize hl:(z0B ps 0 0 0 0).2=l at*;have HST:Hid (z1C ps=if l<2 then z0A ps else z0A (ps.take s)++([58,58]++z0A (ps.drop (s+l)))):=by show _=_;unfold z1C;rw[hs,hl]
 have H8:=hI h8;clear h8 hps henv htz hs hl;go_enter func140,ntmps140;go_wp2_with(first|refine wpList_load_row rfl 177 _ rfl w.heap.size rfl 177 (z2a ps) (0,0) _ HN underlying177 rfl HSZ ?_|fail);refine HL.out.mono ?_;rintro e w1 ⟨rfl,hb1⟩;have HB1:=hI hb1;have HBW:=hI (HB0.out.trans (hb1.mono (by simp)));clear hb1;by_cases hl2:l<2
 ·have HC1:Hid (CB 196 #[.slice (some ⟨w.heap.size,0,none⟩) 8 8] w1 (.string ⟨(z0A ps).toArray⟩)):=by
   have:=HCX w1 0 8 ps HB1 (by rw[H8.out];omega) (by rw[H8.out];omega) (by omega) (fun j p hj=>by rw[Nat.zero_add];exact hj);rw[H8.out] at this;exact this
  go_wp2_with fail;refine HC1.out.mono ?_;rintro e w2 ⟨rfl,hb2⟩;go_wp2;go_ret;refine⟨?_,HBW.out.trans (hb2.mono HBW.out.size)⟩;rw[HST.out,if_pos hl2];rfl
 ·have hs8:s≤8:=by omega
  have HC1:Hid (∀W,Below w1.heap.size w1 W→CB 196 #[.slice (some ⟨w.heap.size,0,none⟩) s 8] W (.string ⟨(z0A (ps.take s)).toArray⟩)):=by
   intro W hW;have:=HCX W 0 8 (ps.take s) (HB1.out.trans (hW.mono HB1.out.size)) (by simp;rw[H8.out];omega) (by simp;rw[H8.out];omega) (by omega) (fun j p hj=>by
    rw[Nat.zero_add];rw[List.getElem?_take] at hj;split at hj
    ·exact hj
    ·simp at hj)
   rw[List.length_take,H8.out,Nat.min_eq_left hs8] at this;exact this
  have hsl1:=fun W=>zlw w.heap.size s hs8 W;have hlen1:=z2f (ps.take s);have hlen2:=z2f (ps.drop (s+l));have hlen3:(ps.take s).length≤8:=by simp;omega
  have hlen4:(ps.drop (s+l)).length≤8:=by simp;rw[H8.out];omega
  obtain⟨d,hd⟩:∃d,s+l=d:=⟨_,rfl⟩;obtain⟨D,hDD⟩:=z09 (ps.drop d);obtain⟨T,hTT⟩:=z09 (ps.take s);obtain⟨r,hr⟩:∃r,d+r=8:=⟨8- d,by omega⟩;rw[hd,←hDD] at hlen2 hlen4;rw[←hTT] at HC1 hlen1 hlen3;have hDl:D.length=r:=by rw[hDD,List.length_drop,H8.out];omega
  have hdi:(s:Int)+(l:Int)=(d:Int):=by omega
  have hdw:IntKind.i64.wrap (d:Int)=(d:Int):=z4v _ (by omega) (by omega);have HFIN:Hid (z1C ps=z0A T++([58,58]++z0A D)):=by show _=_;rw[HST.out,if_neg hl2,hd,hDD,hTT]
  have hd9:d≤8:=by omega
  have hll:l≤8:=by omega
  clear hTT hbd hd HST;by_cases hd8:d<8
  ·skip
   have HC2:Hid (∀W,Below w1.heap.size w1 W→CB 196 #[.slice (some ⟨w.heap.size,d,none⟩) r r] W (.string ⟨(z0A D).toArray⟩)):=by
    intro W hW;have:=HCX W d r D (HB1.out.trans (hW.mono HB1.out.size)) hlen4 (by omega) (by omega) (fun j p hj=>by
     rw[hDD,List.getElem?_drop] at hj;exact hj)
    rw[hDl] at this;exact this
   have hsl2:=fun W=>by
    have:=zmc w.heap.size d hd8 W;rw[show 8- d=r by omega] at this;exact this
   clear hr hDD;go_wp2_with fail;go_region_with (first|(go_at_call_of 196 (Value.slice (some ⟨w.heap.size,0,none⟩) s 8);refine(HC1 _ (by with_reducible exact(Below.refl _ w1).drew)).mono ?_;rintro e w2 ⟨rfl,hb2⟩)|(go_at_call_of 196 (Value.slice (some ⟨w.heap.size,d,none⟩) r r);refine(HC2 _ (by exact((Below.refl _ w1).drew).trans hb2)).mono ?_;rintro e w3 ⟨rfl,hb3⟩));all_goals
    go_wp2;go_ret;refine⟨?_,HBW.out.trans ((((Below.refl _ w1).drew).trans (hb2.trans (hb3.mono hb2.size))).mono HBW.out.size)⟩;rw[HFIN.out];show Ending.returned (.string ((⟨(z0A T).toArray⟩++⟨#[58,58]⟩)++⟨(z0A D).toArray⟩))=_;rw[show(⟨#[58,58]⟩:ByteArray)=⟨[58,58].toArray⟩ from rfl,z0G,z0G,List.append_assoc]
  ·skip
   have HC2:Hid (∀W,Below w1.heap.size w1 W→CB 196 #[.slice (some ⟨w.heap.size,0,none⟩) 0 0] W (.string ⟨(z0A D).toArray⟩)):=(by intro W hW;have e:D=[]:=(by rw[hDD];exact List.drop_eq_nil_of_le (by rw[H8.out];omega));rw[e];exact HCX W 0 0 [] (HB1.out.trans (hW.mono HB1.out.size)) (by simp) (by simp) (by omega) (fun j p hj=>by simp at hj));have hsl2:∀W,(Instr.sliceAt 177 (.pointer (some ⟨w.heap.size,0,none⟩)) (some (.int .i64 (d:Nat))) none none).run prog W=.ok (.slice (some ⟨w.heap.size,0,none⟩) 0 0) W:=fun W=>by
    rw[show(d:Int)=8 by omega];exact zmd w.heap.size W
   clear hr hDD;go_wp2_with fail;go_region_with (first|(go_at_call_of 196 (Value.slice (some ⟨w.heap.size,0,none⟩) s 8);refine(HC1 _ (by with_reducible exact(Below.refl _ w1).drew)).mono ?_;rintro e w2 ⟨rfl,hb2⟩)|(go_at_call_of 196 (Value.slice (some ⟨w.heap.size,0,none⟩) 0 0);refine(HC2 _ (by exact((Below.refl _ w1).drew).trans hb2)).mono ?_;rintro e w3 ⟨rfl,hb3⟩));all_goals
    go_wp2;go_ret;refine⟨?_,HBW.out.trans ((((Below.refl _ w1).drew).trans (hb2.trans (hb3.mono hb2.size))).mono HBW.out.size)⟩;rw[HFIN.out];show Ending.returned (.string ((⟨(z0A T).toArray⟩++⟨#[58,58]⟩)++⟨(z0A D).toArray⟩))=_;rw[show(⟨#[58,58]⟩:ByteArray)=⟨[58,58].toArray⟩ from rfl,z0G,z0G,List.append_assoc]
set_option maxRecDepth 100000 in
theorem zgm (s:ByteArray) (w:World) (hs:s.size<4294967281) (henv:Env w) (htz:Tz w):CP 83 #[.string s] w (z4D (z1N s.data.toList)):=by
 have hg15:=henv.size;have HV:=hI henv;have HT:=hI htz;have hcs:=strings_CutSuffix s ⟨#[93]⟩ w (by omega);rw[show(⟨#[93]⟩:ByteArray).data.toList=[93] from rfl] at hcs;by_cases hsuf:Lib.hasSuffix s.data.toList [93]=true
 ·rw[hsuf] at hcs
  have HCS:=hI hcs;have hBR:z1N s.data.toList=(match z2s (Lib.trimSuffix s.data.toList [93]) with|some ps=>some ([91]++(z1C (ps.map Int.toNat)++ [93]))|none=>none):=by unfold z1N;rw[if_pos hsuf];rfl
  have htl:(Lib.trimSuffix s.data.toList [93]).length<4294967281:=by unfold Lib.trimSuffix;rw[if_pos hsuf];simp;omega
  generalize Lib.trimSuffix s.data.toList [93]=I at*;have HCT:=hI (zlx ⟨I.toArray⟩ w (by rw[z07];exact htl) henv);clear hcs henv htz hsuf htl;cases ho:z2s I with
  |none=>rw[ho] at HCT hBR;rw[hBR];clear hBR ho;go_enter func83,ntmps83;go_wp2_with fail;refine HCS.out.mono ?_;rintro e w1 ⟨rfl,hw1⟩;obtain rfl:=hw1.symm;go_wp2_with fail;refine HCT.out.mono ?_;rintro e w1 ⟨⟨te,ve,rfl⟩,hb1⟩;have hw1:=hb1.size;have HN:Hid ((w1.alloc (.cells (z0d zero8) 177)).heap[w1.heap.size]?=some (.cells (z0d zero8) 177 (0,0))):=heap_alloc_new w1 _;go_wp2_with(refine wpList_store_row rfl 177 _ _ rfl w1.heap.size (z0d zero8) rfl rfl 177 (z0d zero8) HN zp7 rfl (z3d _) ?_);go_ret2;exact⟨⟨_,_,rfl⟩,below_setRow (hb1.alloc hw1 _) hw1 _⟩
  |some ps=>
   have hok:=z8G I ps ho;have hc8:=zgq ps hok.2;rw[ho] at HCT hBR;have HCT2:Hid (CB 139 #[.string ⟨I.toArray⟩] w (.tuple #[.agg (z2a (ps.map Int.toNat)),.nilIface])):=(by have:=HCT;refine this.mono ?_;rintro e w' ⟨h1,h2⟩;refine⟨?_,h2⟩;rw[←hc8];exact h1);have h8:(ps.map Int.toNat).length=8:=(by rw[List.length_map];exact hok.1);have HPS:Hid (∀p∈ps.map Int.toNat,p<65536):=(by intro p hp;obtain⟨q,hq,rfl⟩:=List.mem_map.1 hp;have:=hok.2 q hq;unfold z3I at this;omega);rw[hBR];simp only[];generalize ps.map Int.toNat=ns at*;have H8:=hI h8;have HSZ:Hid ((prog.info? 177).map (·.size)=some (z2a ns).size):=(by show _=_;rw[z6M,h8];exact zp7);have HS8:Hid ((z0d zero8).size=(z2a ns).size):=(by show _=_;rw[z6M,h8];rfl);have hsl:(z1C ns).length≤1000:=by
    have h1:=z2f ns;have h2:=z2f (ns.take (z0B ns 0 0 0 0).1);have h3:=z2f (ns.drop ((z0B ns 0 0 0 0).1+(z0B ns 0 0 0 0).2));unfold z1C;split
    ·omega
    ·simp at h2 h3⊢
     omega
   clear hBR ho hok hc8 HCT h8;go_enter func83,ntmps83;go_wp2_with fail;refine HCS.out.mono ?_;rintro e w1 ⟨rfl,hw1⟩;obtain rfl:=hw1.symm;go_wp2_with fail;refine HCT2.out.mono ?_;rintro e w1 ⟨rfl,hb1⟩;have hw1:=hb1.size;have HN:Hid ((w1.alloc (.cells (z0d zero8) 177)).heap[w1.heap.size]?=some (.cells (z0d zero8) 177 (0,0))):=heap_alloc_new w1 _;have HM:Hid (((w1.alloc (.cells (z0d zero8) 177)).setRow w1.heap.size (z2a ns)).heap[w1.heap.size]?=some (.cells (z2a ns) 177 (0,0))):=setRow_heap _ _ _ _ _ _ HN;have HBX:Hid (Below w.heap.size w ((w1.alloc (.cells (z0d zero8) 177)).setRow w1.heap.size (z2a ns))):=below_setRow (hb1.alloc hw1 _) hw1 _;have HVX:=hI (HV.out.below HBX);have HTX:=hI (HT.out.below HBX (by omega));go_wp2_with(first|refine wpList_store_row rfl 177 _ _ rfl w1.heap.size (z2a ns) rfl rfl 177 (z0d zero8) HN HSZ HS8 (z3d _) ?_|refine wpList_load_row rfl 177 _ rfl w1.heap.size rfl 177 (z2a ns) (0,0) _ HM underlying177 rfl HSZ ?_|fail);refine(zlz ns _ H8 HPS HVX HTX).mono ?_;rintro e w2 ⟨rfl,hb2⟩;go_wp2;go_ret2;refine⟨?_,HBX.out.trans (hb2.mono HBX.out.size)⟩;show Ending.returned (.tuple #[.string ((⟨[91].toArray⟩++⟨(z1C ns).toArray⟩)++⟨[93].toArray⟩),.nilIface])=_;rw[z0G,z0G,List.append_assoc];rfl
 ·have hsf:=Bool.eq_false_iff.2 hsuf
  rw[hsf] at hcs;have HCS:=hI hcs;have hBR:z1N s.data.toList=none:=by unfold z1N;rw[if_neg hsuf]
  rw[hBR];obtain⟨te,ve,hce⟩:=henv.eBracket;clear hcs henv htz hsuf hBR hsf;go_enter func83,ntmps83;go_wp2_with fail;refine HCS.out.mono ?_;rintro e w1 ⟨rfl,hw1⟩;obtain rfl:=hw1.symm;go_wp2;go_quiet (fail);go_wp2;go_ret2;exact⟨⟨_,_,rfl⟩,Go.below_drewN (Below.refl _ _) _⟩
theorem zc1 {o:Option (List UInt8)} {e:Ending} (h:z4D o e):∃a b,e=.returned (.tuple #[a,b])∧z4D o (.returned (.tuple #[a,b])):=by
 cases o with
 |some l=>exact⟨_,_,h,rfl⟩
 |none=>obtain⟨t,v,h⟩:=h;exact⟨_,_,h,⟨t,v,rfl⟩⟩
theorem zab (s:ByteArray) (sp:Bool) (w:World) (hs:s.size<4294967281) (h1:1≤s.size) (hpf:Lib.hasPrefix s.data.toList (⟨#[91]⟩:ByteArray).data.toList=true) (henv:Env w) (htz:Tz w):CP 55 #[.string s,.bool sp] w (z4D (z1N (s.data.toList.drop 1))):=by
 have HP:=hI hpf;have HC:Hid (CP 83 #[.string (s.extract 1 s.size)] w (z4D (z1N (s.data.toList.drop 1)))):=by have:=zgm (s.extract 1 s.size) w (by rw[ByteArray.size_extract];omega) henv htz;rw[z8x s 1] at this;exact this
 generalize z1N (s.data.toList.drop 1)=o at*;clear henv htz hpf;go_enter func55,ntmps55;go_wp2_with(go_at_call 82;refine(zm6 _ _ _ HP).mono ?_;rintro e w' ⟨rfl,rfl⟩);refine HC.out.mono ?_;rintro e w1 ⟨hr,hb1⟩;obtain⟨ra,rb,rfl,hr⟩:=zc1 hr;have HR:=hI hr;clear hr;go_wp2;go_ret2;exact⟨HR,hb1⟩
theorem zeM (s:ByteArray) (k:Nat) (h:k<s.size) (hb:z2V s[k]=true):s.data.toList.any z2V=true:=by rw[List.any_eq_true];exact⟨s[k],List.getElem_mem (l:=s.data.toList) (n:=k) (by simpa using h),hb⟩
theorem zd4 (s:ByteArray) (h:∀(j:Nat) (hj:j<s.size),z2V s[j]=false):s.data.toList.any z2V=false:=by rw[List.any_eq_false];intro x hx;obtain⟨j,hj,rfl⟩:=List.getElem_of_mem hx;have:z2V s.data.toList[j]=false:=h j (by simpa using hj);rw[this];simp
theorem z9w (s:ByteArray) (w:World) (hs:s.size<4294967281) (henv:Tryz.Env w):Calls Tryz.prog 85 #[.string s] w fun e w'=>z4D (z2x s.data.toList) e∧Below w.heap.size w w':=by
 have HT:=hI (z6G s 0 w (by omega) henv.sets (by have:=henv.size;omega));clear henv;go_enter Tryz.func85,Tryz.ntmps85;go_wp2_with fail;go_loop [4] (fun i=>∃k:Nat,k≤s.size∧i=.int .i64 k∧∀(j:Nat) (hj:j<s.size),j<k→z2V s[j]=false) (fun i=>s.size-(intOf i).toNat)
 case atStart=>exact⟨0,Nat.zero_le _,rfl,fun j hj h=>by omega⟩
 case round=>
  obtain⟨k,hk,rfl,hgood⟩:=hrel;have HG:=hI hgood;clear hgood;by_cases hlt:k<s.size
  ·by_cases h1:0≤Lib.indexByte zme s[k]
   ·have HR:Hid (z2x s.data.toList=none):=by
     show _=_;unfold z2x;rw[if_pos (zeM s k hlt (decide_eq_true h1))]
    go_wp2_with(go_at_call 141;refine(z9P _ _ _ h1).mono ?_;rintro e w' ⟨⟨i,hi,rfl⟩,rfl⟩);go_quiet (fail);go_wp2;go_ret2;refine⟨?_,Go.below_drewN (Below.refl _ _) _⟩;rw[HR.out];exact⟨_,_,rfl⟩
   ·have HG2:Hid (∀(j:Nat) (hj:j<s.size),j<k+1→z2V s[j]=false):=by
     intro j hj h;by_cases e:j=k
     ·subst e;exact decide_eq_false h1
     ·exact HG j hj (by omega)
    go_wp2_with(go_at_call 141;refine(zad _ _ _ h1).mono ?_;rintro e w' ⟨⟨i,hi,rfl⟩,rfl⟩);go_round
    case rel=>exact⟨k+1,by omega,by go_num,HG2⟩
    case measure=>simp[intOf];omega
  ·have HR:Hid (z2x s.data.toList=some (esc 0 s.data.toList)):=by
    show _=_;unfold z2x;rw[zd4 s (fun j hj=>HG.out j hj (by omega))];rfl
   clear HG;go_wp2_with fail;refine HT.out.mono ?_;rintro e W1 ⟨rfl,b1⟩;go_wp2;go_ret2;rw[HR.out];exact⟨rfl,b1⟩
theorem zbG (s:ByteArray) (w:World) (hs:s.size<4294967281) (hpf:Lib.hasPrefix s.data.toList (⟨#[91]⟩:ByteArray).data.toList=false) (henv:Tryz.Env w):Calls Tryz.prog 55 #[.string s,.bool false] w fun e w'=>z4D (z2x s.data.toList) e∧Below w.heap.size w w':=by have HP:=hI hpf;have HC:=hI (z9w s w hs henv);generalize z2x s.data.toList=o at*;clear henv hpf;go_enter Tryz.func55,Tryz.ntmps55;go_wp2_with(go_at_call 82;refine(z8d _ _ _ HP).mono ?_;rintro e w' ⟨rfl,rfl⟩);refine HC.out.mono ?_;rintro e w1 ⟨hr,hb1⟩;obtain⟨ra,rb,rfl,hr⟩:=zc1 hr;have HR:=hI hr;clear hr;go_wp2;go_ret2;exact⟨HR,hb1⟩
theorem z8P (s:ByteArray) (sp:Bool) (w:World) (hs:s.size<4294967281) (henv:Tryz.Env w) (htz:Tryz.Tz w):Calls Tryz.prog 55 #[.string s,.bool sp] w fun e w'=>z4D (hostTell s.data.toList sp) e∧Below w.heap.size w w':=by
 unfold hostTell;by_cases hp:Lib.hasPrefix s.data.toList [91]=true
 ·rw[if_pos hp]
  refine zab s sp w hs ?_ hp henv htz;rw[Lib.size_eq];cases h:s.data.toList with
  |nil=>rw[h] at hp;cases hp
  |cons c r=>simp
 ·have hp2:=Bool.eq_false_iff.2 hp
  rw[if_neg hp];cases sp with
  |true=>exact zaa s w hs hp2 henv
  |false=>exact zbG s w hs hp2 henv
theorem zdR (s:ByteArray) (sp:Bool) (w:World) (hs:s.size<4294967281) (henv:Tryz.Env w) (htz:Tryz.Tz w):Calls Tryz.prog 32 #[.string s,.bool sp] w fun e w'=>z9y s (hostTell s.data.toList sp) e∧Below w.heap.size w w':=
 z9z s sp _ w (z8P s sp w hs henv htz)
theorem znW (s:ByteArray) (sp:Bool) (w:World) (hs:s.size≤2000) (henv:Tryz.Env w) (htz:Tryz.Tz w):Calls Tryz.prog 18 #[.string s,.bool sp] w fun e w'=>e=zgV (hostTell s.data.toList sp)∧Below w.heap.size w w':=
 zeR s sp _ w henv hs (z8P s sp w (by omega) henv htz)
def z9b (n:Int) (o:Option Bs) (e:Ending):Prop:=
 match o with
 |some l=>e=.returned (.tuple #[.string ⟨l.toArray⟩,.nilIface])
 |none=>∃x y t v,e=.returned (.tuple #[.string ⟨#[]⟩,.iface 96 (.agg #[.int .i64 n,.string x,.string y,.iface t v])])
theorem z3Z (l:Bs) (h:l≠[]):(⟨l.toArray⟩:ByteArray).toList.isEmpty=false:=by
 rw[Lib.toList_data];cases l with
 |nil=>exact absurd rfl h
 |cons c r=>rfl
theorem z3B:(⟨([]:Bs).toArray⟩:ByteArray).toList.isEmpty=true:=by rw[Lib.toList_data];rfl
theorem zke (t a sc:Bs) (w:World) (hs:t.length<4294967281) (henv:Env2 w):CP 306 #[.string ⟨t.toArray⟩,.string ⟨a.toArray⟩,.string ⟨sc.toArray⟩] w (z9b 4 (z1W hostTell t a sc)):=by
 have HS:=hI (z9l ⟨sc.toArray⟩ w);have HT:=hI (zdR ⟨t.toArray⟩ (z0b sc) w (by rw[z07];exact hs) henv.env henv.tz);obtain⟨te,ve,hce⟩:=henv.eHost;by_cases hbad:t=[]∧a≠[]
 ·obtain⟨rfl,ha⟩:=hbad
  have HE:Hid (z1W hostTell [] a sc=none):=by show _=_;unfold z1W;rw[if_pos ⟨rfl,ha⟩]
  have e1:=z3B;have e2:=z3Z a ha;obtain⟨s,hsd⟩:=z09 (⟨a.toArray⟩:ByteArray);rw[←hsd] at e2⊢;clear ha hsd henv hs;go_enter func306,ntmps306;go_wp2;go_quiet (fail);go_wp2;go_ret2;rw[HE.out];exact⟨⟨_,_,_,_,rfl⟩,z4l _ _ _⟩
 ·have HE:Hid (z1W hostTell t a sc=hostTell t (z0b sc)):=by show _=_;unfold z1W;rw[if_neg hbad]
  generalize z0b sc=sp at*;generalize hostTell t sp=o at*;by_cases ht:t=[]
  ·have ha:a=[]:=by
    by_cases h:a=[]
    ·exact h
    ·exact absurd ⟨ht,h⟩ hbad
   subst ht;subst ha;have e1:=z3B;clear hbad henv hs hce;cases o with
   |none=>go_enter func306,ntmps306;go_wp2_with fail;refine HS.out.mono ?_;rintro e w' ⟨rfl,hw0⟩;obtain rfl:=hw0.symm;go_wp2_with fail;refine HT.out.mono ?_;rintro e w1 ⟨⟨t2,v2,rfl⟩,b1⟩;go_wp2;go_ret2;rw[HE.out];exact⟨⟨_,_,_,_,rfl⟩,b1⟩
   |some l=>go_enter func306,ntmps306;go_wp2_with fail;refine HS.out.mono ?_;rintro e w' ⟨rfl,hw0⟩;obtain rfl:=hw0.symm;go_wp2_with fail;refine HT.out.mono ?_;rintro e w1 ⟨rfl,b1⟩;go_wp2;go_ret2;rw[HE.out];exact⟨rfl,b1⟩
  ·have e1:=z3Z t ht
   obtain⟨s,hsd⟩:=z09 (⟨t.toArray⟩:ByteArray);rw[←hsd] at e1 HT⊢;clear hbad henv hs hce ht hsd;cases o with
   |none=>go_enter func306,ntmps306;go_wp2_with fail;refine HS.out.mono ?_;rintro e w' ⟨rfl,hw0⟩;obtain rfl:=hw0.symm;go_wp2_with fail;refine HT.out.mono ?_;rintro e w1 ⟨⟨t2,v2,rfl⟩,b1⟩;go_wp2;go_ret2;rw[HE.out];exact⟨⟨_,_,_,_,rfl⟩,b1⟩
   |some l=>go_enter func306,ntmps306;go_wp2_with fail;refine HS.out.mono ?_;rintro e w' ⟨rfl,hw0⟩;obtain rfl:=hw0.symm;go_wp2_with fail;refine HT.out.mono ?_;rintro e w1 ⟨rfl,b1⟩;go_wp2;go_ret2;rw[HE.out];exact⟨rfl,b1⟩
theorem cutLogin_len (l:Bs):(z0u l).1.length≤l.length∧(z0u l).2.length≤l.length:=by
 rcases zaj l with⟨_,h⟩|⟨p,r,hl,_,h⟩
 ·rw[h];simp
 ·rw[h,hl]
  simp;omega
theorem cutPort_len (l:Bs):(z10 l).1.length≤l.length∧(z10 l).2.length≤l.length:=by
 rw[zao];unfold z0i;cases h:z1a 58 (l.drop (z2h l)) with
 |none=>simp
 |some p=>have h2:=congrArg List.length (cutB_parts 58 _ p.1 p.2 h);simp at h2⊢;omega
def z1G (a:Auth):Array Value:=#[.string ⟨a.user.toArray⟩,.string ⟨a.pass.toArray⟩,.bool a.has,.string ⟨a.host.toArray⟩,.int .i64 a.port]
def z22:Array Value:=#[.string ⟨#[]⟩,.string ⟨#[]⟩,.bool false,.string ⟨#[]⟩,.int .i64 0]
theorem zdx (a:Auth):(z1G a).all (·.oneCell')=true:=by simp[z1G,Value.oneCell']
theorem z9c:z22.all (·.oneCell')=true:=by simp[z22,Value.oneCell']
theorem znS:(prog.info? 71).map (·.size)=some 5:=by kernel_rfl
def zeo (o:Except Int Auth) (e:Ending):Prop:=
 match o with
 | .ok a=>e=.returned (.tuple #[.agg (z1G a),.nilIface])
 | .error n=>∃x y t v,e=.returned (.tuple #[.agg z22,.iface 96 (.agg #[.int .i64 n,.string x,.string y,.iface t v])])
theorem z7I (l sc:Bs) (w:World) (hs:l.length<4294967281) (henv:Env2 w):CP 282 #[.string ⟨l.toArray⟩,.string ⟨sc.toArray⟩] w (zeo (z2i hostTell l sc)):=by
 obtain⟨W,hW⟩:=z09 (w.alloc (.cells z22 71));have HBW:Hid (Below w.heap.size w W):=by rw[hW];exact(Below.refl _ _).alloc (Nat.le_refl _) _
 have hsize:W.heap.size=w.heap.size+1:=by rw[hW];simp
 have HH:Hid (∀w1,Below W.heap.size W w1→w1.heap[w.heap.size]?=some (.cells z22 71 (0,0))∧Below w.heap.size w w1∧Env2 w1):=by intro w1 h1;have hb:=HBW.out.trans (h1.mono (by omega));refine⟨(h1.block w.heap.size (by omega)).trans ?_,hb,henv.below hb⟩;rw[hW];exact z0K w _ _
 have HE:Hid (z2i hostTell l sc=match z1W hostTell (z10 (z0u l).2).1 l sc with|none=>.error 4|some h=>match z1o (z10 (z0u l).2).2 sc with|none=>.error 5|some p=>.ok ⟨esc 5 (z0i 58 (z0u l).1).1,esc 5 ((z0i 58 (z0u l).1).2.getD []),true,h,p⟩):=rfl;have hl1:=cutLogin_len l;have HC1:Hid (∀w1,Below W.heap.size W w1→CQ 304 #[.string ⟨l.toArray⟩] w1 (.tuple #[.string ⟨(z0u l).1.toArray⟩,.string ⟨(z0u l).2.toArray⟩]) (Below W.heap.size W)):=by intro w1 h1;refine(zkc l w1 hs).mono ?_;rintro e w' ⟨rfl,n,rfl⟩;exact⟨rfl,z88 h1 n⟩
 generalize(z0u l).1=lo at*;generalize(z0u l).2=pl at*;have hl2:=cutOpt_len 58 lo;have HC2:Hid (∀w1,Below W.heap.size W w1→CQ 112 #[.string ⟨lo.toArray⟩,.string ⟨#[58]⟩] w1 (.tuple #[.string ⟨(z0i 58 lo).1.toArray⟩,.string ⟨((z0i 58 lo).2.getD []).toArray⟩,.bool (z0i 58 lo).2.isSome]) (Below W.heap.size W)):=by intro w1 h1;obtain⟨m,hm⟩:=(HH w1 h1).2.2.env.maxLen;refine(zdH ⟨lo.toArray⟩ 58 m w1 (by rw[z07];omega) hm).mono ?_;rintro e w' ⟨rfl,n,rfl⟩;exact⟨rfl,z88 h1 n⟩
 generalize(z0i 58 lo).2.isSome=bo at*;generalize(z0i 58 lo).1=us at*;generalize(z0i 58 lo).2.getD []=pa at*;have hl3:=cutPort_len pl;have HC3:Hid (∀w1,Below W.heap.size W w1→CQ 305 #[.string ⟨pl.toArray⟩] w1 (.tuple #[.string ⟨(z10 pl).1.toArray⟩,.string ⟨(z10 pl).2.toArray⟩]) (Below W.heap.size W)):=by intro w1 h1;refine(zkx pl w1 (by omega) (HH w1 h1).2.2.env).mono ?_;rintro e w' ⟨rfl,n,rfl⟩;exact⟨rfl,z88 h1 n⟩
 generalize(z10 pl).1=ho at*;generalize(z10 pl).2=po at*;have HC4:Hid (∀w1,Below W.heap.size W w1→Calls prog 306 #[.string ⟨ho.toArray⟩,.string ⟨l.toArray⟩,.string ⟨sc.toArray⟩] w1 fun e w'=>z9b 4 (z1W hostTell ho l sc) e∧Below W.heap.size W w'):=by intro w1 h1;refine(zke ho l sc w1 (by omega) (HH w1 h1).2.2).mono ?_;rintro e w' ⟨hr,hb⟩;exact⟨hr,h1.trans (hb.mono h1.size)⟩
 have HC5:Hid (∀w1,Below W.heap.size W w1→Calls prog 210 #[.string ⟨po.toArray⟩,.string ⟨sc.toArray⟩] w1 fun e w'=>zo9 (z1o po sc) e∧Below W.heap.size W w'):=by intro w1 h1;refine(zkd po sc w1 (by omega) (HH w1 h1).2.2).mono ?_;rintro e w' ⟨hr,hb⟩;exact⟨hr,h1.trans (hb.mono h1.size)⟩
 have HC6:Hid (∀t:Bs,t.length≤l.length→∀w1,Below W.heap.size W w1→CQ 62 #[.string ⟨t.toArray⟩,.int .i64 5] w1 (.string ⟨(esc 5 t).toArray⟩) (Below W.heap.size W)):=by intro t ht w1 h1;have hv:=(HH w1 h1).2.2.env;refine(z6G ⟨t.toArray⟩ 5 w1 (by rw[z07];omega) hv.sets (by have:=hv.size;omega)).mono ?_;rintro e w' ⟨rfl,hb⟩;exact⟨rfl,h1.trans (hb.mono h1.size)⟩
 have hus:us.length≤l.length:=by omega
 have hpa:pa.length≤l.length:=by omega
 generalize z1W hostTell ho l sc=oh at*;generalize z1o po sc=op at*;have HBR:Hid (Below W.heap.size W W):=Below.refl _ _;clear henv hl1 hl2 hl3 hs;cases oh with
 |none=>
  go_enter func282,ntmps282;go_wp2_with fail;refine Calls.mono (HC1 _ (by rw[hW];exact Below.refl _ _)) ?_;rintro e w1 ⟨rfl,b1⟩;go_wp2_with fail;refine(HC2 w1 b1).mono ?_;rintro e w2 ⟨rfl,b2⟩;go_wp2_with fail;refine(HC3 w2 b2).mono ?_;rintro e w3 ⟨rfl,b3⟩;go_wp2_with fail;refine(HC4 w3 b3).mono ?_;rintro e w4 ⟨⟨x,y,te,ve,rfl⟩,b4⟩;obtain⟨hh,hbw,_⟩:=HH w4 b4;have HN:=hI hh;have HBB:=hI hbw;clear hh hbw b1 b2 b3 b4 hW;go_wp2_with(refine wpList_store_row rfl 71 _ _ rfl w.heap.size z22 rfl rfl 71 z22 HN znS rfl z9c ?_);(try simp only[Exit.inBlock,Exit.then]);have hld:=run_loadVar_row (P:=prog) (w4.setRow w.heap.size z22) w.heap.size 71 71 z22 (0,0) _ (setRow_heap w4 w.heap.size z22 z22 71 (0,0) HN) underlying71 rfl znS;refine bodyPost_ret (v:=.tuple #[.agg z22,.iface 96 (.agg #[.int .i64 4,.string x,.string y,.iface te ve])]) ?_ rfl ⟨?_,below_setRow HBB (Nat.le_refl _) _⟩
  ·rw[results_cell_tmp rfl]
   simp[asAddr,Result.andThen,hld]
  ·rw[HE.out]
   exact⟨_,_,_,_,rfl⟩
 |some h=>
  cases op with
  |none=>
   go_enter func282,ntmps282;go_wp2_with fail;refine Calls.mono (HC1 _ (by rw[hW];exact Below.refl _ _)) ?_;rintro e w1 ⟨rfl,b1⟩;go_wp2_with fail;refine(HC2 w1 b1).mono ?_;rintro e w2 ⟨rfl,b2⟩;go_wp2_with fail;refine(HC3 w2 b2).mono ?_;rintro e w3 ⟨rfl,b3⟩;go_wp2_with fail;refine(HC4 w3 b3).mono ?_;rintro e w4 ⟨rfl,b4⟩;go_wp2_with fail;refine(HC5 w4 b4).mono ?_;rintro e w5 ⟨⟨x,y,te,ve,rfl⟩,b5⟩;obtain⟨hh,hbw,_⟩:=HH w5 b5;have HN:=hI hh;have HBB:=hI hbw;clear hh hbw b1 b2 b3 b4 b5 hW;go_wp2_with(refine wpList_store_row rfl 71 _ _ rfl w.heap.size z22 rfl rfl 71 z22 HN znS rfl z9c ?_);(try simp only[Exit.inBlock,Exit.then]);have hld:=run_loadVar_row (P:=prog) (w5.setRow w.heap.size z22) w.heap.size 71 71 z22 (0,0) _ (setRow_heap w5 w.heap.size z22 z22 71 (0,0) HN) underlying71 rfl znS;refine bodyPost_ret (v:=.tuple #[.agg z22,.iface 96 (.agg #[.int .i64 5,.string x,.string y,.iface te ve])]) ?_ rfl ⟨?_,below_setRow HBB (Nat.le_refl _) _⟩
   ·rw[results_cell_tmp rfl]
    simp[asAddr,Result.andThen,hld]
   ·rw[HE.out]
    exact⟨_,_,_,_,rfl⟩
  |some p=>
   go_enter func282,ntmps282;go_wp2_with fail;refine Calls.mono (HC1 _ (by rw[hW];exact Below.refl _ _)) ?_;rintro e w1 ⟨rfl,b1⟩;go_wp2_with fail;refine(HC2 w1 b1).mono ?_;rintro e w2 ⟨rfl,b2⟩;go_wp2_with fail;refine(HC3 w2 b2).mono ?_;rintro e w3 ⟨rfl,b3⟩;go_wp2_with fail;refine(HC4 w3 b3).mono ?_;rintro e w4 ⟨rfl,b4⟩;go_wp2_with fail;refine(HC5 w4 b4).mono ?_;rintro e w5 ⟨rfl,b5⟩;go_wp2_with fail;refine(HC6 us hus w5 b5).mono ?_;rintro e w6 ⟨rfl,b6⟩;go_wp2_with fail;refine(HC6 pa hpa w6 b6).mono ?_;rintro e w7 ⟨rfl,b7⟩;obtain⟨hh,hbw,_⟩:=HH w7 b7;have HN:=hI hh;have HBB:=hI hbw;clear hh hbw b1 b2 b3 b4 b5 b6 b7 hW;obtain⟨AU,hAU⟩:=z09 (⟨esc 5 us,esc 5 pa,true,h,p⟩:Auth);have HAC:Hid ((#[.string ⟨(esc 5 us).toArray⟩,.string ⟨(esc 5 pa).toArray⟩,.bool true,.string ⟨h.toArray⟩,.int .i64 p]:Array Value)=z1G AU):=(by rw[hAU];rfl);have HAU:=hI hAU;clear hAU;go_wp2_with(refine wpList_store_row rfl 71 _ _ rfl w.heap.size (z1G AU) rfl (congrArg Value.agg HAC) 71 z22 HN znS rfl (zdx AU) ?_);(try simp only[Exit.inBlock,Exit.then]);have hld:=run_loadVar_row (P:=prog) (w7.setRow w.heap.size (z1G AU)) w.heap.size 71 71 (z1G AU) (0,0) _ (setRow_heap w7 w.heap.size z22 (z1G AU) 71 (0,0) HN) underlying71 rfl znS;refine bodyPost_ret (v:=.tuple #[.agg (z1G AU),.nilIface]) ?_ rfl ⟨?_,below_setRow HBB (Nat.le_refl _) _⟩
   ·rw[results_cell_tmp rfl]
    simp[asAddr,Result.andThen,hld]
   ·rw[HE.out,HAU.out]
    rfl
theorem z8s (sc:Bs) (sp:Option Go.Addr) (cap:Nat) (segs:List Bs) (w:World) (hn:segs.length≤cap) (hc:cap≤9223372036854775807) (hl:∀x∈segs,x.length<4294967281) (hcell:∀(j:Nat) x,segs[j]?=some x→∃a:Go.Addr,sp=some a∧w.cell? (a.add j)=some (.string ⟨x.toArray⟩)):C0 253 #[.string ⟨sc.toArray⟩,.slice sp segs.length cap] w (.slice sp (z08 sc segs).length cap):=by
 match segs,hn,hl,hcell with
 | [],hn,_,_=>
  have HE:Hid ((z08 sc []).length=0):=by show _=_;unfold z08;rw[if_neg (by simp)];rfl
  go_enter func253,ntmps253;go_wp2;go_ret;rw[HE.out];exact⟨rfl,rfl⟩
 | [x],hn,hl,hcell=>
  obtain⟨a,rfl,hc0⟩:=hcell 0 x rfl;have hc0':w.cell? a=some (.string ⟨x.toArray⟩):=hc0;have HI:=hI (z8n x w (hl x (by simp)));have HE:Hid ((z08 sc [x]).length=if sc=sFile∧z15 x=true then 1 else 0):=by
   show _=_;unfold z08;by_cases h:sc=sFile∧z15 x=true
   ·rw[if_pos ⟨rfl,h.1,h.2⟩,if_pos h]
    rfl
   ·rw[if_neg (fun y=>h ⟨y.2.1,y.2.2⟩),if_neg h]
    rfl
  clear hl hcell;by_cases hf:sc=sFile
  ·subst hf
   cases ht:z15 x with
   |true=>have HE2:Hid ((z08 sFile [x]).length=1):=(by show _=_;rw[HE.out,if_pos ⟨rfl,ht⟩]);rw[ht] at HI;clear ht HE;go_enter func253,ntmps253;go_wp2_with fail;refine HI.out.mono ?_;rintro e w' ⟨rfl,hw0⟩;obtain rfl:=hw0.symm;go_wp2;go_ret;rw[HE2.out];exact⟨rfl,rfl⟩
   |false=>have HE2:Hid ((z08 sFile [x]).length=0):=(by show _=_;rw[HE.out,if_neg (by simp[ht])]);rw[ht] at HI;clear ht HE;go_enter func253,ntmps253;go_wp2_with fail;refine HI.out.mono ?_;rintro e w' ⟨rfl,hw0⟩;obtain rfl:=hw0.symm;go_wp2;go_ret;rw[HE2.out];exact⟨rfl,rfl⟩
  ·have e1:=z38 sc _ hf
   have HE2:Hid ((z08 sc [x]).length=0):=(by show _=_;rw[HE.out,if_neg (fun y=>hf y.1)]);obtain⟨s,hsd⟩:=z09 (⟨sc.toArray⟩:ByteArray);rw[←hsd] at e1⊢;unfold sFile at e1;clear hf hsd HE;go_enter func253,ntmps253;go_wp2;go_ret;rw[HE2.out];exact⟨rfl,rfl⟩
 |x::y::r,hn,_,hcell=>
  obtain⟨a,rfl,_⟩:=hcell 0 x rfl;have HE:Hid ((z08 sc (x::y::r)).length=r.length+1):=by show _=_;unfold z08;rw[if_neg (by simp),List.length_dropLast];rfl
  have hn2:r.length+2≤cap:=hn;clear hcell;show Calls prog 253 #[.string ⟨sc.toArray⟩,.slice (some a) (r.length+2) cap] w _;have e0:(((r.length+2:Nat):Int)- 1==0)=false:=beq_eq_false_iff_ne.2 (by omega);go_enter func253,ntmps253;go_wp2;go_ret;rw[HE.out];exact⟨rfl,rfl⟩
def z1J (l:List Bs):List Value:=l.map fun x=>.string ⟨x.toArray⟩
theorem zkA (l:List Bs):(z1J l).length=l.length:=by simp[z1J]
theorem z4S (a b:List Bs):z1J (a++b)=z1J a++z1J b:=by simp[z1J]
theorem zez {w:World} {base:Nat} {e:TypeId} {v:Value} {n:Nat} {xs:List Value} (h:w.ownsRow base e 1 v n xs):∀g,v.ownBlock=some g→g<w.heap.size:=fun g hg=>(h.lt g hg).2
theorem zmD (sp:Option Go.Addr) (cap:Nat) (segs:List Bs) (w:World) (hlen:segs.length≤4294967283) (hform:segs≠[]→∃g,sp=some ⟨g,0,none⟩∧∀(j:Nat) x,segs[j]?=some x→w.cell? ⟨g,j,none⟩=some (.string ⟨x.toArray⟩)):Calls Tryz.prog 250 #[.slice sp segs.length cap] w fun e w'=>(∃v,e=.returned v∧w'.ownsRow w.heap.size 9 1 v segs.length (z1J segs))∧Below w.heap.size w w':=by
 by_cases h0:segs=[]
 ·subst h0
  cases sp with
  |none=>refine(Tryz.slices_Clone_string_nil 0 cap w).mono ?_;rintro e w' ⟨rfl,rfl⟩;exact⟨⟨_,rfl,World.ownsRow_nil _ _ _ _⟩,Below.refl _ _⟩
  |some a=>refine(Tryz.slices_Clone_string_zero a cap w).mono ?_;rintro e w' ⟨v,rfl,ho,_,hb⟩;exact⟨⟨v,rfl,ho⟩,hb⟩
 ·obtain⟨g,rfl,hc⟩:=hform h0
  have hm:(segs.map fun x=>(⟨x.toArray⟩:ByteArray)).length=segs.length:=by simp
  have:=Tryz.slices_Clone_string g 0 segs.length cap (segs.map fun x=>⟨x.toArray⟩) w (by rw[hm];exact Nat.le_refl _) (by omega) (by
   intro j hj;rw[hm] at hj;have hx:=List.getElem?_eq_getElem hj;have h1:=hc j _ hx;rw[Nat.zero_add,h1];simp[List.getD,hx])
  refine this.mono ?_;rintro e w' ⟨v,rfl,ho,_,hb⟩;refine⟨⟨v,rfl,?_⟩,hb⟩;rw[List.take_of_length_le (by rw[hm];exact Nat.le_refl _),List.map_map] at ho;exact ho
theorem zeA {w:World} {base:Nat} {e:TypeId} {sp:Option Go.Addr} {cap:Nat} {segs:List Bs} (sc:Bs) (h:w.ownsRow base e 1 (.slice sp segs.length cap) segs.length (z1J segs)):w.ownsRow base e 1 (.slice sp (z08 sc segs).length cap) (z08 sc segs).length (z1J (z08 sc segs)):=by
 unfold z08;split
 ·exact h
 ·by_cases h0:segs=[]
  ·subst h0;exact h
  ·obtain⟨g,cap',hv,_⟩:=h.form (List.length_pos_iff.2 h0)
   simp only[Value.slice.injEq] at hv;obtain⟨rfl,_,rfl⟩:=hv;have hl:segs.length=segs.dropLast.length+1:=by rw[List.length_dropLast];have:=List.length_pos_iff.2 h0;omega
   have hs:z1J segs=z1J segs.dropLast++z1J [segs.getLast h0]:=(by rw[←z4S,List.dropLast_concat_getLast h0]);rw[hl,hs] at h;exact ownsRow_pop (by rw[zkA];omega) h
theorem z1t {w:World} {base:Nat} {e:TypeId} {v:Value} {n:Nat} {xs:List Value} (h:w.ownsRow base e 1 v n xs):∃sp cap,v=.slice sp n cap∧n≤cap∧cap≤maxLen∧(0<n→∃g,sp=some ⟨g,0,none⟩∧∀j u,xs[j]?=some u→w.cell? ⟨g,j,none⟩=some u):=by
 rcases h.2 with⟨rfl,rfl⟩|⟨g,cap,cur,rfl,h2,h3,h4,h5,h6,h7⟩
 ·exact⟨none,0,rfl,Nat.le_refl _,Nat.zero_le _,fun h=>absurd h (by omega)⟩
 ·obtain⟨sp,cap',hv,hf⟩:=z6f h
  simp only[Value.slice.injEq] at hv;obtain⟨rfl,_,rfl⟩:=hv;refine⟨_,cap,rfl,h4,h5,fun hn=>?_⟩;obtain⟨g',e1,_,e2⟩:=hf hn;exact⟨g',e1,e2⟩
theorem z4T (s:Int) (l:Bs):(esc s l).length≤3*l.length:=by have h1:=za0 s l;have h2:=zji s l;omega
theorem zap (sc p:Bs) (f:Bool):(z2G sc p f).length≤3*p.length+2:=by
 unfold z2G;split
 ·simp
  omega
 ·have:=z4T 4 p
  omega
theorem z9m (sc:Bs) (segs:List Bs) (p:Bs) (l:List Bs) (h:z1V p=0):z0R sc segs (p::l)=z0R sc (segs++ [z2G sc p segs.isEmpty]) l:=by rw[z0R,if_pos h]
theorem z7K (sc:Bs) (segs:List Bs) (p:Bs) (l:List Bs) (h:z1V p=1):z0R sc segs (p::l)=z0R sc (segs++(if l.isEmpty then [[]] else [])) l:=by rw[z0R,if_neg (by omega),if_neg (by omega)]
theorem zaq (sc:Bs) (segs:List Bs) (p:Bs) (l:List Bs) (h:z1V p=2):z0R sc segs (p::l)=z0R sc (z08 sc segs++(if l.isEmpty then [[]] else [])) l:=by rw[z0R,if_neg (by omega),if_pos h]
theorem z5K (sc:Bs) (segs:List Bs):(z08 sc segs).length≤segs.length∧∀x∈z08 sc segs,x∈segs:=by
 unfold z08;split
 ·exact⟨Nat.le_refl _,fun x h=>h⟩
 ·exact⟨by rw[List.length_dropLast];omega,fun x h=>List.dropLast_subset _ h⟩
theorem zgS (p:Bs):z1V p=0∨z1V p=1∨z1V p=2:=by
 unfold z1V;simp only;split
 ·exact Or.inr (Or.inl rfl)
 ·split
  ·exact Or.inr (Or.inr rfl)
  ·exact Or.inl rfl
theorem z4A (c:UInt8):∀l:Bs,(z0a c l).length≤l.length+1
 | []=>by simp[z0a]
 |b::l=>by
  have ih:=z4A c l;unfold z0a;split
  ·simp;omega
  ·split
   ·rename_i x xs h
    rw[h] at ih;simp at ih⊢;omega
   ·simp
end Go.Proofs
