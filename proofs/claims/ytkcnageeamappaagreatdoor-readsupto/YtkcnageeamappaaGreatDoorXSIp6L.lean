import Derived.Test.YtkcnageeamappaaGreatDoorXAEnv
import Derived.Lib.TrimUEq
import Derived.Laws.RangeAny
set_option maxHeartbeats 32000000
set_option maxRecDepth 8000
namespace Go.Moor
open Go
def p33 (r:Nat):Bool:=decide (r<33)
theorem z87 (s:ByteArray) (pos:Nat) (h:pos<s.size):p33 (Utf8.decode s pos).1=blankB (s.data.toList.getD pos 0)∧(blankB (s.data.toList.getD pos 0)=true→(Utf8.decode s pos).2=1):=by
 have hg:(s.data.toList.getD pos 0)=s[pos]'h:=by
  have h2:s.data.toList[pos]?=some (s[pos]'h):=by rw[List.getElem?_eq_getElem (by rw[←Lib.size_eq];exact h)];rfl
  simp only[List.getD,h2,Option.getD_some]
 rw[hg];by_cases ha:(s[pos]'h).toNat<128
 ·rw[decode_ascii s pos h ha]
  exact⟨rfl,fun _=>rfl⟩
 ·have hh:=decode_high s pos h (by omega)
  refine⟨?_,fun hb=>?_⟩
  ·unfold p33 blankB
   rw[decide_eq_false (by omega),decide_eq_false (by omega)]
  ·unfold blankB at hb
   have:=of_decide_eq_true hb;omega
theorem zj1 (s:ByteArray):∀(f pos:Nat),s.size≤pos+f→(if Lib.idxFuncFrom p33 false s f pos= -1 then [] else s.data.toList.drop (Lib.idxFuncFrom p33 false s f pos).toNat)=(s.data.toList.drop pos).dropWhile blankB
 |0,pos,h=>by
  rw[show Lib.idxFuncFrom p33 false s 0 pos= -1 from rfl,if_pos rfl,List.drop_eq_nil_of_le (by rw[←Lib.size_eq];omega)];rfl
 |f+1,pos,h=>by
  by_cases hp:pos<s.size
  ·have hlt:pos<s.data.toList.length:=by rw[←Lib.size_eq];exact hp
   obtain⟨h1,h2⟩:=z87 s pos hp;have hgd:s.data.toList.getD pos 0=s.data.toList[pos]:=(by simp[List.getD,List.getElem?_eq_getElem hlt]);rw[hgd] at h1 h2;cases hb:blankB s.data.toList[pos] with
   |true=>have e:Lib.idxFuncFrom p33 false s (f+1) pos=Lib.idxFuncFrom p33 false s f (pos+1):=(by rw[Lib.idxFuncFrom,if_pos hp,h1,hb,if_neg (by decide),h2 hb]);rw[e,List.drop_eq_getElem_cons hlt,List.dropWhile_cons_of_pos hb];exact zj1 s f (pos+1) (by omega)
   |false=>have e:Lib.idxFuncFrom p33 false s (f+1) pos=(pos:Int):=(by rw[Lib.idxFuncFrom,if_pos hp,h1,hb,if_pos rfl]);rw[e,if_neg (by omega),Int.toNat_natCast,List.drop_eq_getElem_cons hlt,List.dropWhile_cons_of_neg (by rw[hb];decide)]
  ·rw[Lib.idxFuncFrom_end p33 false s _ pos hp,if_pos rfl,List.drop_eq_nil_of_le (by rw[←Lib.size_eq];omega)]
   rfl
theorem zhw (s:ByteArray):(Lib.trimLeftF p33 s).data.toList=s.data.toList.dropWhile blankB:=by
 have h:=zj1 s s.size 0 (by omega);rw[List.drop_zero] at h;rw[←h];unfold Lib.trimLeftF Lib.idxFunc;split
 ·rfl
 ·rw[Lib.extract_data]
  refine List.take_of_length_le ?_;rw[List.length_drop,Lib.size_eq];omega
theorem goB (s:ByteArray) (r:Nat) (h:r<s.size):(Lib.decodeGoB (s.extract r s.size)).2=(Lib.decodeL (s.data.toList.drop r)).2:=by unfold Lib.decodeGoB;rw[if_neg (by rw[ByteArray.size_extract];omega)];have e:=Lib.decodeL_drop (s.extract r s.size) 0;rw[List.drop_zero,Lib.extract_data,List.take_of_length_le (by rw[List.length_drop,Lib.size_eq];omega)] at e;rw[←e]
theorem zoc (l:Bs) (i:Nat) (hi:0<i) (hil:i≤l.length):p33 (Lib.decodeLastL (l.take i)).1=blankB (l.getD (i- 1) 0)∧(blankB (l.getD (i- 1) 0)=true→(Lib.decodeLastL (l.take i)).2=1):=by
 rcases Lib.last_cases l i hi hil with⟨ha,hd⟩|⟨ha,hd⟩|⟨ha,st,hst,hd,hsum⟩
 ·rw[hd]
  exact⟨rfl,fun _=>rfl⟩
 ·rw[hd]
  refine⟨?_,fun hb=>?_⟩
  ·have hb0:blankB (l.getD (i- 1) 0)=false:=by unfold blankB;exact decide_eq_false (by omega)
   rw[hb0];rfl
  ·rfl
 ·refine⟨?_,fun hb=>?_⟩
  ·have hb0:blankB (l.getD (i- 1) 0)=false:=by unfold blankB;rw[decide_eq_false (by omega)]
   rw[hb0,hd];have hx:((l.take i).drop st)≠[]:=by intro h0;have:=congrArg List.length h0;rw[List.length_drop,List.length_take] at this;simp at this;omega
   have hsz:0<(⟨((l.take i).drop st).toArray⟩:ByteArray).size:=(by rw[Lib.size_eq];exact List.length_pos_iff.2 hx);obtain⟨q1,q2⟩:=z87 ⟨((l.take i).drop st).toArray⟩ 0 hsz;show p33 (Utf8.decode ⟨((l.take i).drop st).toArray⟩ 0).1=false;rw[q1];show blankB (((l.take i).drop st).getD 0 0)=false;rw[Lib.getD_dropU,Nat.add_zero,Lib.getD_takeU l i st hst];cases hbb:blankB (l.getD st 0) with
   |false=>rfl
   |true=>have hbb2:blankB ((⟨((l.take i).drop st).toArray⟩:ByteArray).data.toList.getD 0 0)=true:=(by show blankB (((l.take i).drop st).getD 0 0)=true;rw[Lib.getD_dropU,Nat.add_zero,Lib.getD_takeU l i st hst];exact hbb);have h1:=q2 hbb2;have h2:(Lib.decodeL ((l.take i).drop st)).2=1:=h1;have h3:st=i- 1:=(by omega);rw[h3] at hbb;rw[hbb] at hb0;cases hb0
  ·unfold blankB at hb
   have:=of_decide_eq_true hb;omega
theorem zgT (s:ByteArray):∀(f i:Nat),i≤f→i≤s.data.toList.length→Lib.OpenAt s.data.toList i→s.data.toList.take (if 0≤Lib.lastIdxFuncFrom p33 false s f i then(Lib.lastIdxFuncFrom p33 false s f i).toNat+(Lib.decodeGoB (s.extract (Lib.lastIdxFuncFrom p33 false s f i).toNat s.size)).2 else 0)=((s.data.toList.take i).reverse.dropWhile blankB).reverse
 |0,i,hf,_,_=>by
  have h0:i=0:=by omega
  subst h0;rfl
 |f+1,i,hf,hil,ho=>by
  by_cases hi:0<i
  ·obtain⟨h1,h2⟩:=zoc s.data.toList i hi hil
   have hlt:i- 1<s.data.toList.length:=(by omega);have hgd:s.data.toList.getD (i- 1) 0=s.data.toList[i- 1]:=(by simp[List.getD,List.getElem?_eq_getElem hlt]);have htk:s.data.toList.take i=s.data.toList.take (i- 1)++ [s.data.toList[i- 1]]:=(by have:=List.take_append_getElem (l:=s.data.toList) (i:=i- 1) hlt;rw[show i- 1+1=i by omega] at this;exact this.symm);rw[hgd] at h1 h2;cases hb:blankB s.data.toList[i- 1] with
   |true=>have e:Lib.lastIdxFuncFrom p33 false s (f+1) i=Lib.lastIdxFuncFrom p33 false s f (i- 1):=(by rw[Lib.lastIdxFuncFrom,if_pos hi,h1,hb,if_neg (by decide),h2 hb]);rw[e,htk,List.reverse_append];show _=((s.data.toList[i- 1]::(s.data.toList.take (i- 1)).reverse).dropWhile blankB).reverse;rw[List.dropWhile_cons_of_pos hb];refine zgT s f (i- 1) (by omega) (by omega) (Or.inr ?_);rw[hgd];unfold blankB at hb;have:=of_decide_eq_true hb;omega
   |false=>
    have hw:=Lib.fw_width s.data.toList i hi hil ho;have e:Lib.lastIdxFuncFrom p33 false s (f+1) i=((i-(Lib.decodeLastL (s.data.toList.take i)).2:Nat):Int):=(by rw[Lib.lastIdxFuncFrom,if_pos hi,h1,hb,if_pos rfl]);rw[e,if_pos (by omega),Int.toNat_natCast,goB s _ (by
     rw[Lib.size_eq];have:1≤(Lib.decodeLastL (s.data.toList.take i)).2:=by rw[←hw];exact Lib.decodeL_width _
     omega),hw]
    have hle:(Lib.decodeLastL (s.data.toList.take i)).2≤i:=by
     rcases Lib.last_cases s.data.toList i hi hil with⟨_,hd⟩|⟨_,hd⟩|⟨_,st,hst,hd,hsum⟩
     ·rw[hd];exact hi
     ·rw[hd];exact hi
     ·rw[hd];omega
    rw[show i-(Lib.decodeLastL (s.data.toList.take i)).2+(Lib.decodeLastL (s.data.toList.take i)).2=i by omega,htk,List.reverse_append];show _=((s.data.toList[i- 1]::(s.data.toList.take (i- 1)).reverse).dropWhile blankB).reverse;rw[List.dropWhile_cons_of_neg (by rw[hb];decide)];simp
  ·have h0:i=0:=by omega
   subst h0;rw[Lib.lastIdxFuncFrom_zero];rfl
theorem zfW (s:ByteArray):(Lib.trimRightF p33 s).data.toList=(s.data.toList.reverse.dropWhile blankB).reverse:=by have h:=zgT s s.size s.size (Nat.le_refl _) (by rw[Lib.size_eq];exact Nat.le_refl _) (Or.inl (by rw[Lib.size_eq]));rw[List.take_of_length_le (l:=s.data.toList) (i:=s.size) (by rw[Lib.size_eq];exact Nat.le_refl _)] at h;rw[←h];unfold Lib.trimRightF Lib.rightEndF Lib.lastIdxFunc;rw[Lib.extract_data];simp
theorem zod (s:ByteArray):(Lib.trimF p33 s).data.toList=z3N blankB s.data.toList:=by unfold Lib.trimF z3N;rw[zfW,zhw]
end Go.Moor
namespace Go.Proofs
open Go.RowKit Go.Moor Go.Proofs.Tryz
theorem z9h (s old:ByteArray):Lib.countB s old≤s.size+1:=by
 unfold Lib.countB Lib.count;have hle:∀(f:Nat) (x:List UInt8),Lib.countFrom old.data.toList f x≤f:=by
  intro f;induction f with
  |zero=>intro x;exact Nat.le_refl _
  |succ f ih=>
   intro x;rw[Lib.countFrom];split
   ·omega
   ·have:=ih (List.drop ((Lib.index x old.data.toList).toNat+old.data.toList.length) x)
    omega
 rw[Lib.size_eq];exact hle _ _
theorem z8p (sc s:ByteArray) (w:World) (hs:s.size<4294967281) (henv:Tryz.Env w):Calls Tryz.prog 164 #[.string sc,.string s] w fun e w'=>e=.returned (.string ⟨(z02 sc.data.toList s.data.toList).toArray⟩)∧Below w.heap.size w w':=by
 obtain⟨m,hm⟩:=henv.maxLen;have hcn:=z9h s ⟨#[92]⟩;have HR:=hI (Tryz.strings_ReplaceAll s ⟨#[92]⟩ ⟨#[47]⟩ m w hs hm (by decide) (by show _+_*1≤_;omega));have HS:=hI (z9l sc w);clear hm hcn;cases hsp:z0b sc.data.toList with
 |true=>
  have HE:Hid (z02 sc.data.toList s.data.toList=Lib.replaceAll s.data.toList [92] [47]):=by show _=_;unfold z02;rw[if_pos hsp,z64,zkv]
  rw[hsp] at HS;clear hsp;go_enter Tryz.func164,Tryz.ntmps164;go_wp2_with fail;refine HS.out.mono ?_;rintro e w' ⟨rfl,hw0⟩;obtain rfl:=hw0.symm;go_wp2_with fail;refine HR.out.mono ?_;rintro e w2 ⟨rfl,b2⟩;go_wp2;go_ret;rw[HE.out];exact⟨rfl,b2⟩
 |false=>
  have HE:Hid (z02 sc.data.toList s.data.toList=s.data.toList):=by show _=_;unfold z02;rw[if_neg (by simp[hsp])]
  rw[hsp] at HS;clear hsp;go_enter Tryz.func164,Tryz.ntmps164;go_wp2_with fail;refine HS.out.mono ?_;rintro e w' ⟨rfl,hw0⟩;obtain rfl:=hw0.symm;go_wp2;go_ret;rw[HE.out];exact⟨rfl,Below.refl _ _⟩
theorem z67 (c:UInt8) (l:Bs) (w:World) (hs:l.length<4294967281) (henv:Tryz.Env w):Calls Tryz.prog 107 #[.string ⟨l.toArray⟩,.string ⟨#[c]⟩,.string ⟨#[]⟩] w fun e w'=>e=.returned (.string ⟨(l.filter (·≠c)).toArray⟩)∧Below w.heap.size w w':=by
 obtain⟨m,hm⟩:=henv.maxLen;refine(Tryz.strings_ReplaceAll ⟨l.toArray⟩ ⟨#[c]⟩ ⟨#[]⟩ m w (by rw[z07];exact hs) hm (by show 1≤1;omega) (by rw[z07];show _+_*0≤_;omega)).mono ?_;rintro e w' ⟨rfl,hb⟩;refine⟨?_,hb⟩;have e1:Lib.replaceAll (⟨l.toArray⟩:ByteArray).data.toList (⟨#[c]⟩:ByteArray).data.toList (⟨#[]⟩:ByteArray).data.toList=l.filter (·≠c):=by show Lib.replaceAll l [c] []=_;rw[z64,ziT]
 rw[e1]
theorem ziV (W:World):Sem.run Tryz.prog (Instr.index 149 (.agg #[.string ⟨#[9]⟩,.string ⟨#[10]⟩,.string ⟨#[13]⟩]) (.int .i64 0)) W=.ok (.string ⟨#[9]⟩) W:=by kernel_rfl
theorem ziW (W:World):Sem.run Tryz.prog (Instr.index 149 (.agg #[.string ⟨#[9]⟩,.string ⟨#[10]⟩,.string ⟨#[13]⟩]) (.int .i64 1)) W=.ok (.string ⟨#[10]⟩) W:=by kernel_rfl
theorem ziX (W:World):Sem.run Tryz.prog (Instr.index 149 (.agg #[.string ⟨#[9]⟩,.string ⟨#[10]⟩,.string ⟨#[13]⟩]) (.int .i64 2)) W=.ok (.string ⟨#[13]⟩) W:=by kernel_rfl
set_option maxRecDepth 100000 in
theorem z7J (l:Bs) (w:World) (hs:l.length<4294967281) (henv:Tryz.Env w):Calls Tryz.prog 61 #[.string ⟨l.toArray⟩] w fun e w'=>e=.returned (.string ⟨(l.filter fun c=>!z4R c).toArray⟩)∧Below w.heap.size w w':=by
 have HV:=hI henv;clear henv;have h1:(l.filter (·≠(9:UInt8))).length≤l.length:=List.length_filter_le _ _;have h2:((l.filter (·≠(9:UInt8))).filter (·≠(10:UInt8))).length≤(l.filter (·≠(9:UInt8))).length:=List.length_filter_le _ _;have HE:=hI (zdz l);generalize hl1:l.filter (·≠(9:UInt8))=l1 at*;generalize hl2:l1.filter (·≠(10:UInt8))=l2 at*;generalize hl3:l2.filter (·≠(13:UInt8))=l3 at*;have HC1:Hid (∀W,Tryz.Env W→Calls Tryz.prog 107 #[.string ⟨l.toArray⟩,.string ⟨#[9]⟩,.string ⟨#[]⟩] W fun e w'=>e=.returned (.string ⟨l1.toArray⟩)∧Below W.heap.size W w'):=by intro W hv;rw[←hl1];exact z67 9 l W hs hv
 have HC2:Hid (∀W,Tryz.Env W→Calls Tryz.prog 107 #[.string ⟨l1.toArray⟩,.string ⟨#[10]⟩,.string ⟨#[]⟩] W fun e w'=>e=.returned (.string ⟨l2.toArray⟩)∧Below W.heap.size W w'):=by intro W hv;rw[←hl2];exact z67 10 l1 W (by omega) hv
 have HC3:Hid (∀W,Tryz.Env W→Calls Tryz.prog 107 #[.string ⟨l2.toArray⟩,.string ⟨#[13]⟩,.string ⟨#[]⟩] W fun e w'=>e=.returned (.string ⟨l3.toArray⟩)∧Below W.heap.size W w'):=by intro W hv;rw[←hl3];exact z67 13 l2 W (by omega) hv
 clear hl1 hl2 hl3 h1 h2 hs;have i0:=ziV;have i1:=ziW;have i2:=ziX;go_enter Tryz.func61,Tryz.ntmps61;go_wp2_with fail;go_loopw [0,6] (fun s i wr=>∃q:Nat,q≤3∧i=.int .i64 q∧s=.string ⟨((([l,l1,l2,l3]:List Bs)[q]?).getD []).toArray⟩∧Below w.heap.size w wr) (fun _ i _=>3-(intOf i).toNat)
 case atStart=>exact⟨0,by omega,rfl,rfl,Below.refl _ _⟩
 case round=>
  obtain⟨q,hq,rfl,rfl,hb⟩:=hrel;have HB:=hI hb;have HVW:=hI (HV.out.below hb);clear hb;have hq4:q=0∨q=1∨q=2∨q=3:=by omega
  clear hq;rcases hq4 with rfl|rfl|rfl|rfl
  ·go_wp2_with fail
   refine(HC1 _ HVW).mono ?_;rintro e w1 ⟨rfl,b1⟩;go_wp2;go_roundw
   case rel=>exact⟨1,by omega,rfl,rfl,HB.out.trans (b1.mono HB.out.size)⟩
   case measure=>(simp[intOf])
  ·go_wp2_with fail
   refine(HC2 _ HVW).mono ?_;rintro e w1 ⟨rfl,b1⟩;go_wp2;go_roundw
   case rel=>exact⟨2,by omega,rfl,rfl,HB.out.trans (b1.mono HB.out.size)⟩
   case measure=>(simp[intOf])
  ·go_wp2_with fail
   refine(HC3 _ HVW).mono ?_;rintro e w1 ⟨rfl,b1⟩;go_wp2;go_roundw
   case rel=>exact⟨3,by omega,rfl,rfl,HB.out.trans (b1.mono HB.out.size)⟩
   case measure=>(simp[intOf])
  ·go_wp2
   go_ret;rw[←HE.out];exact⟨rfl,HB⟩
theorem zam (l:Bs):(Lib.indexByte l 47= -1∧z0l l=(l,[]))∨∃p r:Bs,l=p++47::r∧Lib.indexByte l 47=p.length∧z0l l=(p,47::r):=by
 rcases z2D 47 l with⟨h1,h2⟩|⟨p,r,hl,h2,h3⟩
 ·left
  refine⟨h1,?_⟩;unfold z0l;have e1:=List.takeWhile_append_of_pos (p:=fun c:UInt8=>decide (c≠47)) (l₁:=l) (l₂:=[]) (by simpa using h2);have e2:=List.dropWhile_append_of_pos (p:=fun c:UInt8=>decide (c≠47)) (l₁:=l) (l₂:=[]) (by simpa using h2);simp only[List.append_nil,List.takeWhile_nil,List.dropWhile_nil] at e1 e2;rw[e1,e2]
 ·right
  refine⟨p,r,hl,h3,?_⟩;rw[hl];unfold z0l;rw[List.takeWhile_append_of_pos (by simpa using h2),List.dropWhile_append_of_pos (by simpa using h2)];simp
theorem z4s (x y:ByteArray) (h:x.data.toList=y.data.toList):x=y:=by
 cases x;cases y
 simp only[ByteArray.mk.injEq];exact Array.toList_inj.1 h
theorem zev (p r:Bs):(⟨(p++r).toArray⟩:ByteArray).extract 0 p.length=⟨p.toArray⟩:=by apply z4s;rw[Lib.extract_data];simp
theorem zkw (p r:Bs):(⟨(p++r).toArray⟩:ByteArray).extract p.length (p.length+r.length)=⟨r.toArray⟩:=by apply z4s;rw[Lib.extract_data];simp
theorem z4J (l:Bs) (w:World):CN 281 #[.string ⟨l.toArray⟩] w (.tuple #[.string ⟨(z0l l).1.toArray⟩,.string ⟨(z0l l).2.toArray⟩]):=by
 have HI:Hid (C0 141 #[.string ⟨l.toArray⟩,.int .u8 47] w (.int .i64 (Lib.indexByte l 47))):=strings_IndexByte ⟨l.toArray⟩ 47 w;rcases zam l with⟨h1,h2⟩|⟨p,r,hl,h1,h2⟩
 ·have HE:=hI h2
  rw[h1] at HI;clear h1 h2;go_enter func281,ntmps281;go_wp2_with fail;refine HI.out.mono ?_;rintro e w' ⟨rfl,hw0⟩;obtain rfl:=hw0.symm;go_wp2;go_ret2;rw[HE.out];exact⟨rfl,0,rfl⟩
 ·have HE:=hI h2
  rw[h1] at HI;have hlen:l.length=p.length+(r.length+1):=by rw[hl];simp
  have hsz:(⟨l.toArray⟩:ByteArray).size=p.length+(r.length+1):=by rw[z07,hlen]
  have e1:(⟨l.toArray⟩:ByteArray).extract 0 p.length=⟨p.toArray⟩:=by rw[hl];exact zev p (47::r)
  have e2:(⟨l.toArray⟩:ByteArray).extract p.length (p.length+(r.length+1))=⟨(47::r).toArray⟩:=by rw[hl];exact zkw p (47::r)
  have hz1:((p.length:Int))≤((⟨l.toArray⟩:ByteArray).size:Int):=by rw[hsz];omega
  have r1:∀W,(Instr.slice 9 (.string ⟨l.toArray⟩) none (some (.int .i64 p.length)) none).run prog W=.ok (.string ⟨p.toArray⟩) W:=fun W=>by
   rw[run_slice_string_to_if W 9 _ .i64 _ underlying9,if_pos ⟨by omega,hz1⟩,Int.toNat_natCast,e1]
  have r2:∀W,(Instr.slice 9 (.string ⟨l.toArray⟩) (some (.int .i64 p.length)) none none).run prog W=.ok (.string ⟨(47::r).toArray⟩) W:=fun W=>by
   rw[run_slice_string_from_if W 9 _ .i64 _ underlying9,if_pos ⟨by omega,hz1⟩,Int.toNat_natCast,hsz,e2]
  clear h1 h2 hl hlen;go_enter func281,ntmps281;go_wp2_with fail;refine HI.out.mono ?_;rintro e w' ⟨rfl,hw0⟩;obtain rfl:=hw0.symm;go_wp2;go_quiet (fail);go_wp2;go_ret2;rw[HE.out];exact⟨rfl,_,rfl⟩
def z6u (c:Cuts):Bool:=c.middle.isEmpty&&(!c.query.isSome&&c.frag.isSome)
theorem z8q (l:Bs):(⟨l.toArray⟩:ByteArray).toList.isEmpty=l.isEmpty:=by rw[Lib.toList_data]
theorem z6Z (c:Cuts) (w:World):CB 207 #[.agg (z0s c)] w (.bool (z6u c)):=by
 obtain⟨sc,mi,qu,fr⟩:=c;unfold z0s z6u;simp only;have hme:=z8q mi;have hme2:mi.toArray.isEmpty=mi.isEmpty:=by cases mi<;>rfl
 cases hm:mi.isEmpty with
 |false=>rw[hm] at hme hme2;go_enter func207,ntmps207;go_wp2;go_ret;exact⟨rfl,(Below.refl _ _).alloc (Nat.le_refl _) _⟩
 |true=>
  rw[hm] at hme hme2;cases qu with
  |some x=>go_enter func207,ntmps207;go_wp2;go_ret;exact⟨rfl,(Below.refl _ _).alloc (Nat.le_refl _) _⟩
  |none=>
   cases fr with
   |some y=>go_enter func207,ntmps207;go_wp2;go_ret;exact⟨rfl,(Below.refl _ _).alloc (Nat.le_refl _) _⟩
   |none=>go_enter func207,ntmps207;go_wp2;go_ret;exact⟨rfl,(Below.refl _ _).alloc (Nat.le_refl _) _⟩
theorem z55 (l:Bs) (h:¬l.length=2):z0h l=false:=by
 unfold z0h;split
 ·simp at h
 ·rfl
theorem zgO (a b:UInt8):∃s:ByteArray,s=⟨[a,b].toArray⟩∧∃h:s.size=2,(s[1]'(by omega)).toNat=b.toNat:=⟨_,rfl,rfl,rfl⟩
theorem z4r (l:Bs) (w:World) (hs:l.length<4294967281):Calls Tryz.prog 286 #[.string ⟨l.toArray⟩] w fun e w'=>e=.returned (.bool (z0h l))∧w'=w:=by
 by_cases h2:l.length=2
 ·obtain⟨a,b,rfl⟩:∃a b,l=[a,b]:=by
   match l,h2 with
   | [a,b],_=>exact⟨a,b,rfl⟩
  have HB:Hid (Calls Tryz.prog 240 #[.string ⟨[a,b].toArray⟩] w fun e w'=>e=.returned (.bool (z18 a))∧w'=w):=z4L ⟨[a,b].toArray⟩ w;clear hs h2;obtain⟨s,hs,hsz,hb⟩:=zgO a b;rw[←hs] at HB⊢;clear hs;have HE0:Hid (z0h [a,b]=(z18 a&&(b==58||b==124))):=rfl;have h1:1<s.size:=by omega
  generalize hc:(s[1]'h1).toNat=c at*;cases ha:z18 a with
  |false=>have HE:Hid (z0h [a,b]=false):=(by show _=_;rw[HE0.out,ha];rfl);rw[ha] at HB;clear ha;go_enter Tryz.func286,Tryz.ntmps286;go_wp2_with fail;refine HB.out.mono ?_;rintro e w' ⟨rfl,hw0⟩;obtain rfl:=hw0.symm;go_wp2;go_ret;rw[HE.out];exact⟨rfl,rfl⟩
  |true=>
   rw[ha] at HB;by_cases h58:c=58
   ·have HE:Hid (z0h [a,b]=true):=by
     show _=_;rw[HE0.out,ha,show b=58 from UInt8.toNat_inj.1 (by rw[←hb,h58];rfl)];rfl
    clear ha hb;go_enter Tryz.func286,Tryz.ntmps286;go_wp2_with fail;refine HB.out.mono ?_;rintro e w' ⟨rfl,hw0⟩;obtain rfl:=hw0.symm;go_wp2;go_ret;rw[HE.out];exact⟨rfl,rfl⟩
   ·by_cases h124:c=124
    ·have HE:Hid (z0h [a,b]=true):=by
      show _=_;rw[HE0.out,ha,show b=124 from UInt8.toNat_inj.1 (by rw[←hb,h124];rfl)];rfl
     clear ha hb;go_enter Tryz.func286,Tryz.ntmps286;go_wp2_with fail;refine HB.out.mono ?_;rintro e w' ⟨rfl,hw0⟩;obtain rfl:=hw0.symm;go_wp2;go_ret;rw[HE.out];exact⟨rfl,rfl⟩
    ·have HE:Hid (z0h [a,b]=false):=by
      have n1:b≠58:=fun h=>h58 (by rw[hb,h];rfl);have n2:b≠124:=fun h=>h124 (by rw[hb,h];rfl);show _=_;rw[HE0.out];simp[n1,n2]
     have e58:((c:Int)==58)=false:=beq_eq_false_iff_ne.2 (by omega);have e124:((c:Int)==124)=false:=beq_eq_false_iff_ne.2 (by omega);clear ha hb;go_enter Tryz.func286,Tryz.ntmps286;go_wp2_with fail;refine HB.out.mono ?_;rintro e w' ⟨rfl,hw0⟩;obtain rfl:=hw0.symm;go_wp2;go_ret;rw[HE.out];first|exact⟨rfl,rfl⟩|(refine⟨?_,rfl⟩;simp[hc,h124])
 ·have HE:=hI (z55 l h2)
  have hsz:=z07 l;have e2:((l.length:Int)==2)=false:=beq_eq_false_iff_ne.2 (by omega);go_enter Tryz.func286,Tryz.ntmps286;go_wp2;go_ret;rw[HE.out];exact⟨rfl,rfl⟩
theorem z8n (l:Bs) (w:World) (hs:l.length<4294967281):Calls Tryz.prog 287 #[.string ⟨l.toArray⟩] w fun e w'=>e=.returned (.bool (z15 l))∧w'=w:=by
 have HB:=hI (z4r l w hs);cases hd:z0h l with
 |false=>
  have HE:Hid (z15 l=false):=by show(z0h l&&_)=false;rw[hd];rfl
  rw[hd] at HB;clear hd;go_enter Tryz.func287,Tryz.ntmps287;go_wp2_with fail;refine HB.out.mono ?_;rintro e w' ⟨rfl,hw0⟩;obtain rfl:=hw0.symm;go_wp2;go_ret;rw[HE.out];exact⟨rfl,rfl⟩
 |true=>
  have h2:l.length=2:=by
   by_cases h:l.length=2
   ·exact h
   ·rw[z55 l h] at hd;cases hd
  obtain⟨a,b,rfl⟩:∃a b,l=[a,b]:=by
   match l,h2 with
   | [a,b],_=>exact⟨a,b,rfl⟩
  rw[hd] at HB;have HE0:Hid (z15 [a,b]=(b==58)):=by show(z0h [a,b]&&(b==58))=_;rw[hd];rfl
  clear hs h2 hd;obtain⟨s,hs,hsz,hb⟩:=zgO a b;rw[←hs] at HB⊢;clear hs;have h1:1<s.size:=by omega
  generalize hc:(s[1]'h1).toNat=c at*;by_cases h58:c=58
  ·have HE:Hid (z15 [a,b]=true):=by
    show _=_;rw[HE0.out,show b=58 from UInt8.toNat_inj.1 (by rw[←hb,h58];rfl)];rfl
   clear hb;go_enter Tryz.func287,Tryz.ntmps287;go_wp2_with fail;refine HB.out.mono ?_;rintro e w' ⟨rfl,hw0⟩;obtain rfl:=hw0.symm;go_wp2;go_ret;rw[HE.out];first|exact⟨rfl,rfl⟩|(refine⟨?_,rfl⟩;simp[hc,h58])
  ·have HE:Hid (z15 [a,b]=false):=by
    have n1:b≠58:=fun h=>h58 (by rw[hb,h];rfl);show _=_;rw[HE0.out];simp[n1]
   have e58:((c:Int)==58)=false:=beq_eq_false_iff_ne.2 (by omega);clear hb;go_enter Tryz.func287,Tryz.ntmps287;go_wp2_with fail;refine HB.out.mono ?_;rintro e w' ⟨rfl,hw0⟩;obtain rfl:=hw0.symm;go_wp2;go_ret;rw[HE.out];first|exact⟨rfl,rfl⟩|(refine⟨?_,rfl⟩;simp[hc,h58])
theorem cutSlash_len (l:Bs):(z0l l).1.length≤l.length∧(z0l l).2.length≤l.length:=by
 rcases zam l with⟨_,h⟩|⟨p,r,hl,_,h⟩
 ·rw[h];simp
 ·rw[h,hl];simp
theorem z5z (l:Bs) (w:World) (hs:l.length<4294967281):Calls Tryz.prog 302 #[.string ⟨l.toArray⟩] w fun e w'=>e=.returned (.bool (z0h (z0l l).1))∧∃n,w'=w.drewN n:=by have HC:=hI (z4J l w);have hl:=(cutSlash_len l).1;generalize(z0l l).1=a at*;generalize(z0l l).2=b at*;go_enter Tryz.func302,Tryz.ntmps302;go_wp2_with fail;refine HC.out.mono ?_;rintro e w' ⟨rfl,n,rfl⟩;go_wp2_with fail;refine(z4r a _ (by omega)).mono ?_;rintro e w2 ⟨rfl,rfl⟩;go_wp2;go_ret;exact⟨rfl,n,rfl⟩
def z4F (l:Bs):Bs:=if z1V l=1 then [46] else if z1V l=2 then [46,46] else []
theorem z38 (l c:Bs) (h:¬l=c):((⟨l.toArray⟩:ByteArray).toList==c)=false:=by rw[Lib.toList_data,beq_eq_false_iff_ne];exact h
theorem z4t (l c:Bs) (h:l=c):((⟨l.toArray⟩:ByteArray).toList==c)=true:=by rw[Lib.toList_data,h];exact beq_self_eq_true _
theorem zm1 (l:Bs) (w:World) (hs:l.length<4294967281) (henv:Tryz.Env w):Calls Tryz.prog 251 #[.string ⟨l.toArray⟩] w fun e w'=>e=.returned (.string ⟨(z4F l).toArray⟩)∧Below w.heap.size w w':=by
 obtain⟨m,hm⟩:=henv.maxLen;have hcn:=z9h ⟨l.toArray⟩ ⟨#[37,50,69]⟩;rw[z07] at hcn;have HR:Hid (Calls Tryz.prog 107 #[.string ⟨l.toArray⟩,.string ⟨#[37,50,69]⟩,.string ⟨#[37,50,101]⟩] w fun e w'=>e=.returned (.string ⟨(z0r l).toArray⟩)∧Below w.heap.size w w'):=by refine(Tryz.strings_ReplaceAll ⟨l.toArray⟩ ⟨#[37,50,69]⟩ ⟨#[37,50,101]⟩ m w (by rw[z07];exact hs) hm (by decide) (by rw[z07];show _+_*3≤_;omega)).mono ?_;rintro e w' ⟨rfl,hb⟩;refine⟨?_,hb⟩;have e1:Lib.replaceAll (⟨l.toArray⟩:ByteArray).data.toList (⟨#[37,50,69]⟩:ByteArray).data.toList (⟨#[37,50,101]⟩:ByteArray).data.toList=z0r l:=zcp l;rw[e1]
 clear hm hcn hs henv;have HD:Hid (z4F l=if z0r l=[46]∨z0r l=[37,50,101] then [46] else if z0r l=[46,46]∨z0r l=[46,37,50,101]∨z0r l=[37,50,101,46]∨z0r l=[37,50,101,37,50,101] then [46,46] else []):=by
  show _=_;unfold z4F z1V;simp only;split
  ·rfl
  ·split
   ·rfl
   ·rfl
 generalize z0r l=d at*;by_cases h1:d=[46]
 ·subst h1
  go_enter Tryz.func251,Tryz.ntmps251;go_wp2_with fail;refine HR.out.mono ?_;rintro e w1 ⟨rfl,b1⟩;go_wp2;go_ret;rw[HD.out];exact⟨rfl,b1⟩
 by_cases h2:d=[37,50,101]
 ·subst h2
  go_enter Tryz.func251,Tryz.ntmps251;go_wp2_with fail;refine HR.out.mono ?_;rintro e w1 ⟨rfl,b1⟩;go_wp2;go_ret;rw[HD.out];exact⟨rfl,b1⟩
 by_cases h3:d=[46,46]
 ·subst h3
  go_enter Tryz.func251,Tryz.ntmps251;go_wp2_with fail;refine HR.out.mono ?_;rintro e w1 ⟨rfl,b1⟩;go_wp2;go_ret;rw[HD.out];exact⟨rfl,b1⟩
 by_cases h4:d=[46,37,50,101]
 ·subst h4
  go_enter Tryz.func251,Tryz.ntmps251;go_wp2_with fail;refine HR.out.mono ?_;rintro e w1 ⟨rfl,b1⟩;go_wp2;go_ret;rw[HD.out];exact⟨rfl,b1⟩
 by_cases h5:d=[37,50,101,46]
 ·subst h5
  go_enter Tryz.func251,Tryz.ntmps251;go_wp2_with fail;refine HR.out.mono ?_;rintro e w1 ⟨rfl,b1⟩;go_wp2;go_ret;rw[HD.out];exact⟨rfl,b1⟩
 by_cases h6:d=[37,50,101,37,50,101]
 ·subst h6
  go_enter Tryz.func251,Tryz.ntmps251;go_wp2_with fail;refine HR.out.mono ?_;rintro e w1 ⟨rfl,b1⟩;go_wp2;go_ret;rw[HD.out];exact⟨rfl,b1⟩
 have HE:Hid (z4F l=[]):=by show _=_;rw[HD.out,if_neg (by simp[h1,h2]),if_neg (by simp[h3,h4,h5,h6])]
 have e1:=z38 d _ h1;have e2:=z38 d _ h2;have e3:=z38 d _ h3;have e4:=z38 d _ h4;have e5:=z38 d _ h5;have e6:=z38 d _ h6;obtain⟨s,hsd⟩:=z09 (⟨d.toArray⟩:ByteArray);rw[←hsd] at e1 e2 e3 e4 e5 e6 HR;clear h1 h2 h3 h4 h5 h6 HD hsd;go_enter Tryz.func251,Tryz.ntmps251;go_wp2_with fail;refine HR.out.mono ?_;rintro e w1 ⟨rfl,b1⟩;go_wp2;go_ret;rw[HE.out];exact⟨rfl,b1⟩
theorem zhv (sc l:Bs) (first:Bool) (w:World) (hs:l.length<4294967281) (henv:Tryz.Env w):Calls Tryz.prog 252 #[.string ⟨sc.toArray⟩,.string ⟨l.toArray⟩,.bool first] w fun e w'=>e=.returned (.string ⟨(z2G sc l first).toArray⟩)∧Below w.heap.size w w':=by
 have HT:=hI (z6G ⟨l.toArray⟩ 4 w (by rw[z07];omega) henv.sets (by have:=henv.size;omega));have HI:=hI (z4r l w hs);have HE:Hid (z2G sc l first=if(first&&decide (sc=sFile)&&z0h l)=true then l.take 1++ [58] else esc 4 l):=rfl;clear henv hs;cases first with
 |false=>go_enter Tryz.func252,Tryz.ntmps252;go_wp2_with fail;refine HT.out.mono ?_;rintro e w1 ⟨rfl,b1⟩;go_wp2;go_ret;rw[HE.out];exact⟨rfl,b1⟩
 |true=>
  by_cases hf:sc=sFile
  ·subst hf
   cases hd:z0h l with
   |false=>rw[hd] at HI HE;clear hd;go_enter Tryz.func252,Tryz.ntmps252;go_wp2_with fail;refine HI.out.mono ?_;rintro e w' ⟨rfl,hw0⟩;obtain rfl:=hw0.symm;go_wp2_with fail;refine HT.out.mono ?_;rintro e w1 ⟨rfl,b1⟩;go_wp2;go_ret;rw[HE.out];exact⟨rfl,b1⟩
   |true=>
    have h2:l.length=2:=by
     by_cases h:l.length=2
     ·exact h
     ·rw[z55 l h] at hd;cases hd
    rw[hd] at HI HE;have hsz:(⟨l.toArray⟩:ByteArray).size=2:=(by rw[z07,h2]);have HX:Hid ((⟨l.toArray⟩:ByteArray).extract 0 1++⟨#[58]⟩=⟨(l.take 1++ [58]).toArray⟩):=by
     show _=_;have:(⟨l.toArray⟩:ByteArray).extract 0 1=⟨(l.take 1).toArray⟩:=by apply z4s;rw[Lib.extract_data];simp
     rw[this];exact z0G (l.take 1) [58]
    clear hd h2;go_enter Tryz.func252,Tryz.ntmps252;go_wp2_with fail;refine HI.out.mono ?_;rintro e w' ⟨rfl,hw0⟩;obtain rfl:=hw0.symm;go_wp2;go_ret;rw[HE.out];refine⟨congrArg (fun x=>Ending.returned (Value.string x)) HX,Below.refl _ _⟩
  ·have e1:=z38 sc _ hf
   have HE2:Hid (z2G sc l true=esc 4 l):=(by show _=_;rw[HE.out,if_neg (by simp[hf])]);obtain⟨s,hsd⟩:=z09 (⟨sc.toArray⟩:ByteArray);rw[←hsd] at e1⊢;unfold sFile at e1;clear hf hsd HE;go_enter Tryz.func252,Tryz.ntmps252;go_wp2_with fail;refine HT.out.mono ?_;rintro e w1 ⟨rfl,b1⟩;go_wp2;go_ret;rw[HE2.out];exact⟨rfl,b1⟩
theorem z00 {w:World} {g:Nat} {cs:Array Value} {t:TypeId} {fr:Nat×Nat} (h:w.heap[g]?=some (.cells cs t fr)) (j:Nat):w.cell? ⟨g,j,none⟩=cs[j]?:=by simp[World.cell?,h]
theorem z04 {w:World} {g:Nat} {cs:Array Value} {t:TypeId} (h:w.heap[g]?=some (.cells cs t (0,0))) (j:Nat):w.frozen? ⟨g,j,none⟩=false:=by simp[World.frozen?,h]
theorem z5G (w:World) (a b:Obj):((w.alloc a).alloc b).heap[w.heap.size]?=some a∧((w.alloc a).alloc b).heap[w.heap.size+1]?=some b:=by
 simp only[World.alloc,Array.getElem?_push,Array.size_push];refine⟨?_,?_⟩
 ·rw[if_neg (by omega),if_pos trivial]
 ·rw[if_pos trivial]
theorem z1x {k:Nat} {w w':World} (ho:w'.os=w.os) (ht:w'.tape=w.tape) (hu:w'.output=w.output) (hh:w'.heap=w.heap):Below k w w':=⟨ho,ht,hu,by rw[hh];exact Nat.le_refl _,fun _ _=>by rw[hh]⟩
theorem z70 (o:Option Bs) (set:Int) (w:World) (hs:(o.getD []).length<4294967281) (henv:Env w):CB 103 #[.agg (z65 o),.int .i64 set] w (.agg (z65 (o.map (esc set)))):=by
 have HO:Hid (z65 (o.map (esc set))=#[.bool o.isSome,.string ⟨(esc set (o.getD [])).toArray⟩]):=by show _=_;cases o<;>rfl
 unfold z65;generalize o.isSome=b at*;generalize o.getD []=t at*;obtain⟨W,hW⟩:=z09 ((w.alloc (.cells #[.bool b,.string ⟨t.toArray⟩] 75)).alloc (.cells #[.bool false,.string ⟨#[]⟩] 75));have HBW:Hid (Below w.heap.size w W):=by rw[hW];exact((Below.refl _ _).alloc (Nat.le_refl _) _).alloc (by simp) _
 have hsize:W.heap.size=w.heap.size+2:=by rw[hW];simp
 have HV:Hid _:=henv.below HBW;have HT:Hid (∀w0,Below W.heap.size W w0→CQ 62 #[.string ⟨t.toArray⟩,.int .i64 set] w0 (.string ⟨(esc set t).toArray⟩) (Below W.heap.size W)):=by intro w0 h0;have hv0:=HV.out.below h0;refine(z6G ⟨t.toArray⟩ set w0 (by rw[z07];omega) hv0.sets (by have:=hv0.size;omega)).mono ?_;rintro e w' ⟨rfl,hb⟩;exact⟨rfl,h0.trans (hb.mono h0.size)⟩
 have HC:Hid (∀w1,Below W.heap.size W w1→w1.cell? ⟨w.heap.size,0,none⟩=some (.bool b)∧w1.cell? ⟨w.heap.size,1,none⟩=some (.string ⟨t.toArray⟩)∧w1.cell? ⟨w.heap.size+1,0,none⟩=some (.bool false)∧w1.cell? ⟨w.heap.size+1,1,none⟩=some (.string ⟨#[]⟩)∧w1.frozen? ⟨w.heap.size+1,0,none⟩=false∧w1.frozen? ⟨w.heap.size+1,1,none⟩=false∧w1.heap[w.heap.size+1]?=some (.cells #[.bool false,.string ⟨#[]⟩] 75 (0,0))):=by intro w1 h1;have h2:=z5G w (.cells #[.bool b,.string ⟨t.toArray⟩] 75) (.cells #[.bool false,.string ⟨#[]⟩] 75);rw[←hW] at h2;have k0:=(h1.block w.heap.size (by omega)).trans h2.1;have k1:=(h1.block (w.heap.size+1) (by omega)).trans h2.2;exact⟨z00 k0 0,z00 k0 1,z00 k1 0,z00 k1 1,z04 k1 0,z04 k1 1,k1⟩
 clear henv;go_enter func103,ntmps103;go_wp2_with fail;rw[←hW];obtain⟨c0,c1,c2,c3,f0,f1,_⟩:=HC W (Below.refl _ _);clear hW;go_region_with (go_at_call 62;refine Calls.mono (HT _ (by exact z1x rfl rfl rfl rfl)) ?_;rintro e w1 ⟨rfl,b1⟩;obtain⟨d0,d1,d2,d3,g0,g1,gh⟩:=HC w1 b1;have GH:=hI gh;clear gh);all_goals
  go_wp2;have h2:=heap_setCell_same _ (w.heap.size+1) 1 _ 75 (.string ⟨(esc set t).toArray⟩) (heap_setCell_same w1 (w.heap.size+1) 0 _ 75 (.bool b) GH.out);refine bodyPost_ret (v:=.agg #[.bool b,.string ⟨(esc set t).toArray⟩]) (results_cell_row rfl _ _ (w.heap.size+1) 75 _ (0,0) _ rfl h2 underlying75 rfl zkg) rfl ⟨?_,?_⟩
  ·exact congrArg (fun x=>Ending.returned (Value.agg x)) HO.out.symm
  ·exact((HBW.out.trans (b1.mono (by omega))).setCell (Nat.le_succ _) _).setCell (Nat.le_succ _) _
theorem zfR (c:UInt8) (a b:Bs) (hb:∀x∈b,x≠c):z3P c (a++c::b)=some (a,b):=by
 have key:∀p r:Bs,(∀x∈p,x≠c)→z1a c (p++c::r)=some (p,r):=by
  intro p r;induction p with
  |nil=>intro _;simp[z1a]
  |cons y p ih=>intro h;show z1a c (y::(p++c::r))=_;rw[z1a,if_neg (h y (by simp)),ih (fun x hx=>h x (by simp[hx]))];rfl
 unfold z3P;have e:(a++c::b).reverse=b.reverse++c::a.reverse:=by simp
 rw[e,key b.reverse a.reverse (fun x hx=>hb x (by simpa using hx))];simp
theorem zen (c:UInt8) (l:Bs) (h:∀x∈l,x≠c):z3P c l=none:=by
 have key:∀l:Bs,(∀x∈l,x≠c)→z1a c l=none:=by
  intro l;induction l with
  |nil=>intro _;rfl
  |cons b l ih=>intro h;rw[z1a,if_neg (h b (by simp)),ih (fun x hx=>h x (by simp[hx]))];rfl
 unfold z3P;rw[key l.reverse (fun x hx=>h x (by simpa using hx))];rfl
theorem z9a (l:Bs) (j:Nat) (h:j<l.length):((⟨l.toArray⟩:ByteArray).data[j]!)=l[j]:=by show l.toArray[j]! =l[j];simp[h]
theorem zaj (l:Bs):(Lib.lastIndexByte ⟨l.toArray⟩ 64= -1∧z0u l=([],l))∨∃p r:Bs,l=p++64::r∧Lib.lastIndexByte ⟨l.toArray⟩ 64=p.length∧z0u l=(p,r):=by
 have hsz:=z07 l;rcases Lib.lastIdx_spec ⟨l.toArray⟩ 64 (⟨l.toArray⟩:ByteArray).size with⟨h1,h2⟩|⟨i,hi,h1,h2,h3⟩
 ·left
  refine⟨h1,?_⟩;have hm:∀x∈l,x≠64:=by intro x hx e;obtain⟨j,hj,rfl⟩:=List.getElem_of_mem hx;have:=h2 j (by rw[hsz];exact hj);rw[z9a l j hj,e] at this;exact this rfl
  unfold z0u;rw[zen 64 l hm]
 ·right
  rw[hsz] at hi;have hli:l[i]=64:=by rw[z9a l i hi] at h2;apply UInt8.toNat_inj.1;have:=h2;show l[i].toNat=64;omega
  have hl:l=l.take i++64::l.drop (i+1):=by rw[←hli];simp
  have hr:∀x∈l.drop (i+1),x≠64:=by intro x hx e;obtain⟨j,hj,hjx⟩:=List.getElem_of_mem hx;rw[List.length_drop] at hj;rw[List.getElem_drop] at hjx;have:=h3 (i+1+j) (by omega) (by rw[hsz];omega);rw[z9a l (i+1+j) (by omega),hjx,e] at this;exact this rfl
  refine⟨l.take i,l.drop (i+1),hl,?_,?_⟩
  ·show Lib.lastIdx _ _ _=_
   rw[h1,List.length_take];omega
  ·unfold z0u
   have:=zfR 64 (l.take i) (l.drop (i+1)) hr;rw[←hl] at this;rw[this]
theorem zhm (p r:Bs) (c:UInt8):(⟨(p++c::r).toArray⟩:ByteArray).extract (p.length+1) (p.length+(r.length+1))=⟨r.toArray⟩:=by
 apply z4s;rw[Lib.extract_data];have:(p++c::r).drop (p.length+1)=r:=by simp
 show List.take (p.length+(r.length+1)-(p.length+1)) ((p++c::r).drop (p.length+1))=r;rw[this];exact List.take_of_length_le (by omega)
theorem zkc (l:Bs) (w:World) (hs:l.length<4294967281):CN 304 #[.string ⟨l.toArray⟩] w (.tuple #[.string ⟨(z0u l).1.toArray⟩,.string ⟨(z0u l).2.toArray⟩]):=by
 have HI:=hI (strings_LastIndexByte ⟨l.toArray⟩ 64 (by rw[z07];omega) w);rcases zaj l with⟨h1,h2⟩|⟨p,r,hl,h1,h2⟩
 ·have HE:=hI h2
  rw[h1] at HI;clear h1 h2;go_enter func304,ntmps304;go_wp2_with fail;refine HI.out.mono ?_;rintro e w' ⟨rfl,hw0⟩;obtain rfl:=hw0.symm;go_wp2;go_ret2;rw[HE.out];exact⟨rfl,0,rfl⟩
 ·have HE:=hI h2
  rw[h1] at HI;have hlen:l.length=p.length+(r.length+1):=by rw[hl];simp
  have hsz:(⟨l.toArray⟩:ByteArray).size=p.length+(r.length+1):=by rw[z07,hlen]
  have e1:(⟨l.toArray⟩:ByteArray).extract 0 p.length=⟨p.toArray⟩:=by rw[hl];exact zev p (64::r)
  have e2:(⟨l.toArray⟩:ByteArray).extract (p.length+1) (p.length+(r.length+1))=⟨r.toArray⟩:=by rw[hl];exact zhm p r 64
  have hz1:((p.length:Int))≤((⟨l.toArray⟩:ByteArray).size:Int):=by rw[hsz];omega
  have hz2:((p.length:Int)+1)≤((⟨l.toArray⟩:ByteArray).size:Int):=by rw[hsz];omega
  have r1:∀W,(Instr.slice 9 (.string ⟨l.toArray⟩) none (some (.int .i64 p.length)) none).run prog W=.ok (.string ⟨p.toArray⟩) W:=fun W=>by
   rw[run_slice_string_to_if W 9 _ .i64 _ underlying9,if_pos ⟨by omega,hz1⟩,Int.toNat_natCast,e1]
  have r2:∀W,(Instr.slice 9 (.string ⟨l.toArray⟩) (some (.int .i64 ((p.length:Int)+1))) none none).run prog W=.ok (.string ⟨r.toArray⟩) W:=fun W=>by
   rw[run_slice_string_from_if W 9 _ .i64 _ underlying9,if_pos ⟨by omega,hz2⟩,show((p.length:Int)+1).toNat=p.length+1 by omega,hsz,e2]
  have hw1:IntKind.i64.wrap ((p.length:Int)+1)=(p.length:Int)+1:=z4v _ (by omega) (by omega);clear h1 h2 hl;go_enter func304,ntmps304;go_wp2_with fail;refine HI.out.mono ?_;rintro e w' ⟨rfl,hw0⟩;obtain rfl:=hw0.symm;go_wp2;go_quiet (fail);go_wp2;go_ret2;rw[HE.out];exact⟨rfl,_,rfl⟩
theorem zcR:∀(l:Bs) (n:Nat),n≤z1g n l
 | [],n=>Nat.le_refl _
 |d::l,n=>by
  have:=zcR l (n*10+(d.toNat- 48));show n≤z1g (n*10+(d.toNat- 48)) l;omega
theorem zcS (M:Nat) (hM:M<1844674407370955162):∀(l:Bs) (acc:Nat),(∀c∈l,z2R c=true)→z1g acc l≤M→Lib.parseUintM M acc l=.ok (z1g acc l)
 | [],acc,_,_=>rfl
 |c::l,acc,hd,hle=>by
  have hc:=hd c (by simp);unfold z2R at hc;simp at hc;have hle':z1g (acc*10+(c.toNat- 48)) l≤M:=hle;have hg:=zcR l (acc*10+(c.toNat- 48));rw[Lib.parseUintM,if_pos hc,if_neg (by omega),if_neg (by omega),zcS M hM l _ (fun x hx=>hd x (by simp[hx])) hle'];rfl
theorem zcT (M:Nat) (hM:M<1844674407370955162):∀(l:Bs) (acc:Nat),acc≤M→¬((∀c∈l,z2R c=true)∧z1g acc l≤M)→Lib.parseUintM M acc l=.«syntax»∨Lib.parseUintM M acc l=.range
 | [],acc,h,hf=>absurd ⟨by simp,h⟩ hf
 |c::l,acc,h,hf=>by
  by_cases hd:48≤c.toNat∧c.toNat≤57
  ·rw[Lib.parseUintM,if_pos hd,if_neg (by omega)]
   by_cases h2:M<acc*10+(c.toNat- 48)
   ·rw[if_pos h2]
    exact Or.inr rfl
   ·rw[if_neg h2]
    refine zcT M hM l _ (by omega) (fun x=>hf ⟨?_,x.2⟩);intro y hy;rcases List.mem_cons.1 hy with rfl|hy
    ·unfold z2R
     simp;exact hd
    ·exact x.1 y hy
  ·rw[Lib.parseUintM,if_neg hd]
   exact Or.inl rfl
def zo9 (o:Option Int) (e:Ending):Prop:=
 match o with
 |some p=>e=.returned (.tuple #[.int .i64 p,.nilIface])
 |none=>∃x y t v,e=.returned (.tuple #[.int .i64 (-1),.iface 96 (.agg #[.int .i64 5,.string x,.string y,.iface t v])])
theorem ziJ (p:Int) (sc:Bs) (w:World):C0 159 #[.int .i64 p,.string ⟨sc.toArray⟩] w (.int .i64 (if p=(z1z sc).1 then -1 else p)):=by
 have HO:=hI fun W=>zkz ⟨sc.toArray⟩ W;generalize(z1z sc).1=own at*;by_cases ho:p=own
 ·subst ho
  rw[if_pos rfl];go_enter func159,ntmps159;go_wp2_with fail;refine(HO _).mono ?_;rintro e w2 ⟨rfl,hw0⟩;obtain rfl:=hw0.symm;go_wp2;go_ret;exact⟨rfl,rfl⟩
 ·rw[if_neg ho]
  go_enter func159,ntmps159;go_wp2_with fail;refine(HO _).mono ?_;rintro e w2 ⟨rfl,hw0⟩;obtain rfl:=hw0.symm;go_wp2;go_ret;exact⟨rfl,rfl⟩
theorem zkd (l sc:Bs) (w:World) (hs:l.length<4294967281) (henv:Env2 w):CP 210 #[.string ⟨l.toArray⟩,.string ⟨sc.toArray⟩] w (zo9 (z1o l sc)):=by
 have HO:=hI fun W=>zkz ⟨sc.toArray⟩ W;by_cases hem:l=[]
 ·subst hem
  have HE:Hid (z1o [] sc=some (-1)):=rfl;have he:(⟨([]:List UInt8).toArray⟩:ByteArray).toList.isEmpty=true:=by rw[Lib.toList_data];rfl
  go_enter func210,ntmps210;go_wp2;go_ret2;rw[HE.out];exact⟨rfl,Below.refl _ _⟩
 ·have hee:l.isEmpty=false:=by cases l with|nil=>exact absurd rfl hem|cons c r=>rfl
  have he:(⟨l.toArray⟩:ByteArray).toList.isEmpty=false:=by rw[Lib.toList_data];exact hee
  have hp:Lib.parseUintB 16 (⟨l.toArray⟩:ByteArray).data.toList=Lib.parseUintM 65535 0 l:=by show Lib.parseUintB 16 l=_;unfold Lib.parseUintB;rw[if_neg hem]
  cases hg:(l.all z2R&&decide (z1g 0 l≤65535)) with
  |true=>
   have hok:Lib.parseUintB 16 (⟨l.toArray⟩:ByteArray).data.toList=.ok (z1g 0 l):=(by rw[Bool.and_eq_true] at hg;rw[hp,zcS 65535 (by omega) l 0 (List.all_eq_true.1 hg.1) (of_decide_eq_true hg.2)]);have hle:z1g 0 l≤65535:=(by rw[Bool.and_eq_true] at hg;exact of_decide_eq_true hg.2);have HP:Hid (CB 249 #[.string ⟨l.toArray⟩,.int .i64 10,.int .i64 16] w (.tuple #[.int .u64 (z1g 0 l:Nat),.nilIface])):=by
    refine(strconv_ParseUint_10_at16_ok ⟨l.toArray⟩ (by rw[z07];omega) (z1g 0 l) hok w).mono ?_;rintro e w' ⟨rfl,h⟩;refine⟨rfl,?_⟩;rcases h with rfl|rfl
    ·exact Below.refl _ _
    ·exact Lib.bytesWorld_below _ _ _
   have HE:Hid (z1o l sc=if((z1g 0 l:Nat):Int)=(z1z sc).1 then some (-1:Int) else some ((z1g 0 l:Nat):Int)):=(by show _=_;unfold z1o;rw[if_neg hem,if_pos hg]);clear hok hp hg hem;generalize z1g 0 l=P at*;have HPB:Hid (∀W,C0 159 #[.int .i64 (P:Nat),.string ⟨sc.toArray⟩] W (.int .i64 (if((P:Nat):Int)=(z1z sc).1 then -1 else((P:Nat):Int)))):=fun W=>ziJ _ sc W;have HE2:Hid (z1o l sc=some (if((P:Nat):Int)=(z1z sc).1 then(-1:Int) else((P:Nat):Int))):=(by show _=_;rw[HE.out];split<;>rfl);generalize(if((P:Nat):Int)=(z1z sc).1 then(-1:Int) else((P:Nat):Int))=R at*;obtain⟨s,hsd⟩:=z09 (⟨l.toArray⟩:ByteArray);rw[←hsd] at he HP⊢;clear hsd hee HE HO;go_enter func210,ntmps210;go_wp2_with fail;refine HP.out.mono ?_;rintro e w1 ⟨rfl,b1⟩;go_wp2_with fail;refine(HPB _).mono ?_;rintro e w2 ⟨rfl,hw0⟩;obtain rfl:=hw0.symm;go_wp2;go_ret2;rw[HE2.out];exact⟨rfl,b1⟩
  |false=>
   have HE:Hid (z1o l sc=none):=(by show _=_;unfold z1o;rw[if_neg hem,if_neg (by simp[hg])]);have HP:Hid (Calls prog 249 #[.string ⟨l.toArray⟩,.int .i64 10,.int .i64 16] w fun e w'=>(∃u t v,e=.returned (.tuple #[.int .u64 u,.iface t v]))∧Below w.heap.size w w'):=by
    rcases zcT 65535 (by omega) l 0 (by omega) (fun x=>by
     have h1:=List.all_eq_true.2 x.1;rw[h1,decide_eq_true x.2] at hg;cases hg) with h|h
    ·obtain⟨te,ve,hc⟩:=henv.eSyntax
     refine(strconv_ParseUint_10_at16_syntax ⟨l.toArray⟩ (by rw[z07];omega) (by rw[hp,h]) (.iface te ve) w hc (Or.inr ⟨te,ve,rfl⟩)).mono ?_;rintro e w' ⟨N,rfl,_,_,hb⟩;exact⟨⟨_,_,_,rfl⟩,hb⟩
    ·obtain⟨te,ve,hc⟩:=henv.eRange
     refine(strconv_ParseUint_10_at16_range ⟨l.toArray⟩ (by rw[z07];omega) (by rw[hp,h]) (.iface te ve) w hc (Or.inr ⟨te,ve,rfl⟩)).mono ?_;rintro e w' ⟨N,rfl,_,_,hb⟩;exact⟨⟨_,_,_,rfl⟩,hb⟩
   clear hp hg hem;obtain⟨s,hsd⟩:=z09 (⟨l.toArray⟩:ByteArray);rw[←hsd] at he HP⊢;clear hsd hee;go_enter func210,ntmps210;go_wp2_with fail;refine HP.out.mono ?_;rintro e w1 ⟨⟨u,t,v,rfl⟩,b1⟩;go_wp2;go_ret2;rw[HE.out];exact⟨⟨_,_,_,_,rfl⟩,b1⟩
theorem z6m (l:Bs):Lib.hasPrefix l [91]=decide (l.head? =some 91):=by
 unfold Lib.hasPrefix;cases l with
 |nil=>rfl
 |cons c l=>
  show((91==c)&&List.isPrefixOf [] l)=_;by_cases h:c=91
  ·subst h;simp
  ·have h2:¬(91:UInt8)=c:=fun e=>h e.symm
   simp[h,h2]
theorem zht (c:UInt8) (l:Bs):(Lib.indexByte l c= -1∧z1a c l=none)∨∃p r:Bs,l=p++c::r∧Lib.indexByte l c=p.length∧z1a c l=some (p,r):=by
 have h:=zes c l;rcases z2D c l with⟨h1,h2⟩|⟨p,r,hl,h2,h3⟩
 ·left
  refine⟨h1,?_⟩;cases hc:z1a c l with
  |none=>rfl
  |some q=>have:=cutB_parts c l q.1 q.2 hc;exact absurd rfl (h2 c (by rw[this];simp))
 ·right
  refine⟨p,r,hl,h3,?_⟩;rw[hl];have key:∀p:Bs,(∀x∈p,x≠c)→z1a c (p++c::r)=some (p,r):=by
   intro p;induction p with
   |nil=>intro _;simp[z1a]
   |cons y p ih=>intro h;show z1a c (y::(p++c::r))=_;rw[z1a,if_neg (h y (by simp)),ih (fun x hx=>h x (by simp[hx]))];rfl
  exact key p h2
theorem zao (t:Bs):z10 t=(t.take (z2h t)++(z0i 58 (t.drop (z2h t))).1,(z0i 58 (t.drop (z2h t))).2.getD []):=by
 unfold z10 z0i;cases z1a 58 (t.drop (z2h t)) with
 |none=>simp
 |some p=>rfl
theorem zm0 (l:Bs) (k:Nat) (w:World) (hs:l.length<4294967281) (hk:k≤l.length) (hbk:z2h l=k) (henv:Env w) (hpf:(Lib.hasPrefix l [91]=true∧Lib.indexByte l 93=(k:Int)- 1)∨(Lib.hasPrefix l [91]=false∧k=0)):CN 305 #[.string ⟨l.toArray⟩] w (.tuple #[.string ⟨(z10 l).1.toArray⟩,.string ⟨(z10 l).2.toArray⟩]):=by
 obtain⟨m,hm⟩:=henv.maxLen;have HE:Hid (z10 l=(l.take k++(z0i 58 (l.drop k)).1,(z0i 58 (l.drop k)).2.getD [])):=by show _=_;rw[zao,hbk]
 have HC:Hid (CN 112 #[.string ⟨(l.drop k).toArray⟩,.string ⟨#[58]⟩] w (.tuple #[.string ⟨(z0i 58 (l.drop k)).1.toArray⟩,.string ⟨((z0i 58 (l.drop k)).2.getD []).toArray⟩,.bool (z0i 58 (l.drop k)).2.isSome])):=zdH ⟨(l.drop k).toArray⟩ 58 m w (by rw[z07,List.length_drop];omega) hm;have HP:Hid (C0 82 #[.string ⟨l.toArray⟩,.string ⟨#[91]⟩] w (.bool (Lib.hasPrefix l [91]))):=strings_HasPrefix ⟨l.toArray⟩ ⟨#[91]⟩ w;have HI:Hid (C0 141 #[.string ⟨l.toArray⟩,.int .u8 93] w (.int .i64 (Lib.indexByte l 93))):=strings_IndexByte ⟨l.toArray⟩ 93 w;have hcl:=(cutOpt_len 58 (l.drop k)).1;rw[List.length_drop] at hcl;have hsz:=z07 l;have e1:(⟨l.toArray⟩:ByteArray).extract k l.length=⟨(l.drop k).toArray⟩:=by apply z4s;rw[Lib.extract_data];show List.take (l.length- k) (l.drop k)=l.drop k;exact List.take_of_length_le (by rw[List.length_drop];omega)
 have e2:(⟨l.toArray⟩:ByteArray).extract 0 k=⟨(l.take k).toArray⟩:=by apply z4s;rw[Lib.extract_data];simp
 have hz:((k:Int))≤((⟨l.toArray⟩:ByteArray).size:Int):=by rw[hsz];omega
 have r1:∀W,(Instr.slice 9 (.string ⟨l.toArray⟩) (some (.int .i64 k)) none none).run prog W=.ok (.string ⟨(l.drop k).toArray⟩) W:=fun W=>by
  rw[run_slice_string_from_if W 9 _ .i64 _ underlying9,if_pos ⟨by omega,hz⟩,Int.toNat_natCast,hsz,e1]
 have r2:∀W,(Instr.slice 9 (.string ⟨l.toArray⟩) none (some (.int .i64 k)) none).run prog W=.ok (.string ⟨(l.take k).toArray⟩) W:=fun W=>by
  rw[run_slice_string_to_if W 9 _ .i64 _ underlying9,if_pos ⟨by omega,hz⟩,Int.toNat_natCast,e2]
 have HA:Hid ((⟨(l.take k).toArray⟩:ByteArray)++⟨(z0i 58 (l.drop k)).1.toArray⟩=⟨(l.take k++(z0i 58 (l.drop k)).1).toArray⟩):=z0G _ _;have htl:(l.take k).length=k:=by rw[List.length_take];omega
 clear hm henv e1 e2 hbk;generalize(z0i 58 (l.drop k)).1=A at*;generalize(z0i 58 (l.drop k)).2.getD []=B at*;generalize(z0i 58 (l.drop k)).2.isSome=bo at*;generalize l.take k=T at*;generalize l.drop k=D at*;rcases hpf with⟨h1,h2⟩|⟨h1,h2⟩
 ·rw[h1] at HP
  rw[h2] at HI;clear h1 h2;have hw1:IntKind.i64.wrap ((k:Int)- 1+1)=k:=by rw[z4v _ (by omega) (by omega)];omega
  have hw2:(k:Int)- 1+1=k:=by omega
  go_enter func305,ntmps305;go_wp2_with fail;refine HP.out.mono ?_;rintro e w' ⟨rfl,hw0⟩;obtain rfl:=hw0.symm;go_wp2_with fail;refine HI.out.mono ?_;rintro e w' ⟨rfl,hw0⟩;obtain rfl:=hw0.symm;go_wp2_with fail;refine HC.out.mono ?_;rintro e w2 ⟨rfl,n,rfl⟩;go_wp2;go_ret2;rw[HE.out];refine⟨?_,n,rfl⟩;simp only[HA.out];rfl
 ·have r3:∀W,(Instr.slice 9 (.string ⟨l.toArray⟩) (some (.int .i64 0)) none none).run prog W=.ok (.string ⟨D.toArray⟩) W:=by
   intro W;have:=r1 W;rw[h2] at this;exact this
  have r4:∀W,(Instr.slice 9 (.string ⟨l.toArray⟩) none (some (.int .i64 0)) none).run prog W=.ok (.string ⟨T.toArray⟩) W:=by intro W;have:=r2 W;rw[h2] at this;exact this
  rw[h1] at HP;have htl2:T.length≤0:=by omega
  have hal:A.length<4294967281:=by omega
  clear h1 h2 r1 r2 hz hk htl hcl;go_enter func305,ntmps305;go_wp2_with fail;refine HP.out.mono ?_;rintro e w' ⟨rfl,hw0⟩;obtain rfl:=hw0.symm;go_wp2_with fail;refine HC.out.mono ?_;rintro e w2 ⟨rfl,n,rfl⟩;go_wp2;go_ret2;rw[HE.out];refine⟨?_,n,rfl⟩;simp only[HA.out];rfl
theorem zkx (l:Bs) (w:World) (hs:l.length<4294967281) (henv:Env w):CN 305 #[.string ⟨l.toArray⟩] w (.tuple #[.string ⟨(z10 l).1.toArray⟩,.string ⟨(z10 l).2.toArray⟩]):=by
 by_cases hh:l.head? =some 91
 ·have hp:Lib.hasPrefix l [91]=true:=by rw[z6m,decide_eq_true hh]
  rcases zht 93 l with⟨h1,h2⟩|⟨p,r,hl,h1,h2⟩
  ·refine zm0 l 0 w hs (by omega) (by unfold z2h;rw[if_pos hh,h2]) henv (Or.inl ⟨hp,by rw[h1];rfl⟩)
  ·have hlen:l.length=p.length+(r.length+1):=by rw[hl];simp
   refine zm0 l (p.length+1) w hs (by omega) (by unfold z2h;rw[if_pos hh,h2]) henv (Or.inl ⟨hp,by rw[h1];omega⟩)
 ·exact zm0 l 0 w hs (by omega) (by unfold z2h;rw[if_neg hh]) henv (Or.inr ⟨by rw[z6m,decide_eq_false hh],rfl⟩)
theorem znh (l p:List UInt8):(Lib.cut l p).1.length≤l.length∧(Lib.cut l p).2.1.length≤l.length:=by
 unfold Lib.cut;split
 ·simp
  omega
 ·simp
set_option maxRecDepth 100000 in
theorem zkp (s:ByteArray) (X Y:List UInt8) (w:World) (hs:s.size<4294967281) (henv:Env w) (hcut:Lib.cut s.data.toList [58,58]=(X,Y,false)):CP 139 #[.string s] w (zoN (z2S false (z0E (z0Z (⟨#[]⟩:ByteArray).data.toList)) (z1s (z0Z s.data.toList)))):=by
 have HV:=hI henv;have HB3:Hid (Below w.heap.size w (((w.alloc (.cells #[.int .u64 0,.int .u64 0,.int .u64 0,.int .u64 0,.int .u64 0,.int .u64 0,.int .u64 0,.int .u64 0] 177)).alloc (.cells #[.int .u64 0,.int .u64 0,.int .u64 0,.int .u64 0,.int .u64 0,.int .u64 0,.int .u64 0,.int .u64 0] 177)).alloc (.cells #[.int .u64 0,.int .u64 0,.int .u64 0,.int .u64 0,.int .u64 0,.int .u64 0,.int .u64 0,.int .u64 0] 177))):=(((Below.refl _ w).alloc (Nat.le_refl _) _).alloc (by simp) _).alloc (by simp;omega) _;have HV3:Hid _:=HV.out.below HB3;obtain⟨m,hm⟩:=HV3.out.maxLen;have HCUT:Hid (CN 112 #[.string s,.string ⟨#[58,58]⟩] (((w.alloc (.cells #[.int .u64 0,.int .u64 0,.int .u64 0,.int .u64 0,.int .u64 0,.int .u64 0,.int .u64 0,.int .u64 0] 177)).alloc (.cells #[.int .u64 0,.int .u64 0,.int .u64 0,.int .u64 0,.int .u64 0,.int .u64 0,.int .u64 0,.int .u64 0] 177)).alloc (.cells #[.int .u64 0,.int .u64 0,.int .u64 0,.int .u64 0,.int .u64 0,.int .u64 0,.int .u64 0,.int .u64 0] 177)) (.tuple #[.string ⟨X.toArray⟩,.string ⟨Y.toArray⟩,.bool false])):=by have:=strings_Cut s ⟨#[58,58]⟩ m (((w.alloc (.cells #[.int .u64 0,.int .u64 0,.int .u64 0,.int .u64 0,.int .u64 0,.int .u64 0,.int .u64 0,.int .u64 0] 177)).alloc (.cells #[.int .u64 0,.int .u64 0,.int .u64 0,.int .u64 0,.int .u64 0,.int .u64 0,.int .u64 0,.int .u64 0] 177)).alloc (.cells #[.int .u64 0,.int .u64 0,.int .u64 0,.int .u64 0,.int .u64 0,.int .u64 0,.int .u64 0,.int .u64 0] 177)) hs hm;rw[show(⟨#[58,58]⟩:ByteArray).data.toList=[58,58] from rfl,hcut] at this;exact this
 have HZ0:Hid ((((w.alloc (.cells #[.int .u64 0,.int .u64 0,.int .u64 0,.int .u64 0,.int .u64 0,.int .u64 0,.int .u64 0,.int .u64 0] 177)).alloc (.cells #[.int .u64 0,.int .u64 0,.int .u64 0,.int .u64 0,.int .u64 0,.int .u64 0,.int .u64 0,.int .u64 0] 177)).alloc (.cells #[.int .u64 0,.int .u64 0,.int .u64 0,.int .u64 0,.int .u64 0,.int .u64 0,.int .u64 0,.int .u64 0] 177)).heap[w.heap.size]?=some (.cells (z0d zero8) 177 (0,0))):=(z32 w _ _ _).1;have HZ1:Hid ((((w.alloc (.cells #[.int .u64 0,.int .u64 0,.int .u64 0,.int .u64 0,.int .u64 0,.int .u64 0,.int .u64 0,.int .u64 0] 177)).alloc (.cells #[.int .u64 0,.int .u64 0,.int .u64 0,.int .u64 0,.int .u64 0,.int .u64 0,.int .u64 0,.int .u64 0] 177)).alloc (.cells #[.int .u64 0,.int .u64 0,.int .u64 0,.int .u64 0,.int .u64 0,.int .u64 0,.int .u64 0,.int .u64 0] 177)).heap[w.heap.size+1]?=some (.cells (z0d zero8) 177 (0,0))):=(z32 w _ _ _).2.1;have HZ2:Hid ((((w.alloc (.cells #[.int .u64 0,.int .u64 0,.int .u64 0,.int .u64 0,.int .u64 0,.int .u64 0,.int .u64 0,.int .u64 0] 177)).alloc (.cells #[.int .u64 0,.int .u64 0,.int .u64 0,.int .u64 0,.int .u64 0,.int .u64 0,.int .u64 0,.int .u64 0] 177)).alloc (.cells #[.int .u64 0,.int .u64 0,.int .u64 0,.int .u64 0,.int .u64 0,.int .u64 0,.int .u64 0,.int .u64 0] 177)).heap[w.heap.size+2]?=some (.cells (z0d zero8) 177 (0,0))):=(z32 w _ _ _).2.2.1;have HS3:Hid ((((w.alloc (.cells #[.int .u64 0,.int .u64 0,.int .u64 0,.int .u64 0,.int .u64 0,.int .u64 0,.int .u64 0,.int .u64 0] 177)).alloc (.cells #[.int .u64 0,.int .u64 0,.int .u64 0,.int .u64 0,.int .u64 0,.int .u64 0,.int .u64 0,.int .u64 0] 177)).alloc (.cells #[.int .u64 0,.int .u64 0,.int .u64 0,.int .u64 0,.int .u64 0,.int .u64 0,.int .u64 0,.int .u64 0] 177)).heap.size=w.heap.size+3):=(z32 w _ _ _).2.2.2;generalize hfo:z0E (z0Z (⟨#[]⟩:ByteArray).data.toList)=fo;generalize hgo:z1s (z0Z s.data.toList)=go;have HFO:=hI hfo;have HGO:=hI hgo;clear henv hm hcut hfo hgo;go_enter func139,ntmps139;go_wp2_with fail;refine HCUT.out.mono ?_;rintro e w1 ⟨rfl,nd,hw1⟩;have HB1:Hid (Below w.heap.size w w1):=by rw[hw1];exact Go.below_drewN HB3 nd
 have HV1:Hid _:=HV.out.below HB1;have HY0:Hid (w1.heap[w.heap.size]?=some (.cells (z0d zero8) 177 (0,0))):=by rw[hw1];exact HZ0
 have HY1:Hid (w1.heap[w.heap.size+1]?=some (.cells (z0d zero8) 177 (0,0))):=by rw[hw1];exact HZ1
 have HY2:Hid (w1.heap[w.heap.size+2]?=some (.cells (z0d zero8) 177 (0,0))):=by rw[hw1];exact HZ2
 have hs1:w1.heap.size=w.heap.size+3:=by rw[hw1];exact HS3
 have HSZ:=hI hs1;clear hw1 hs1 HZ0 HZ1 HZ2 HS3 HV3 HB3 HCUT;obtain⟨m1,hm1⟩:=HV1.out.maxLen;have HM1:=hI hm1;clear hm1;go_wp2_with fail;refine(zi7 ⟨#[]⟩ m1 _ (by decide) HM1).mono ?_;rintro e w2 ⟨⟨v2,rfl,hrow2⟩,hb2⟩;have HR2:=hI hrow2;have HB2:=hI hb2;have HV2:Hid _:=HV1.out.below HB2;clear hrow2 hb2;go_wp2_with fail;refine(ziN _ _ v2 _ HR2 HV2).mono ?_;rw[HFO.out];cases fo with
 |none=>rintro e w3 ⟨⟨te,ve,rfl⟩,hb3⟩;have HBB:Hid _:=HB2.out.trans (hb3.mono (HB2.out.size));have HX0:Hid _:=(HBB.out.block _ (by rw[HSZ.out];omega)).trans HY0;have HX1:Hid _:=(HBB.out.block _ (by rw[HSZ.out];omega)).trans HY1;clear hb3;go_wp2_with(first|refine wpList_load_row rfl 177 _ rfl (w.heap.size+1) rfl 177 (z0d zero8) (0,0) _ HX1 underlying177 rfl zp7 ?_|refine wpList_store_row rfl 177 _ _ rfl w.heap.size (z0d zero8) rfl rfl 177 (z0d zero8) HX0 zp7 rfl (z3d _) ?_);(try simp only[Exit.inBlock,Exit.then]);have hld:=run_loadVar_row (P:=prog) (w3.setRow w.heap.size (z0d zero8)) w.heap.size 177 177 (z0d zero8) (0,0) _ (setRow_heap w3 w.heap.size (z0d zero8) (z0d zero8) 177 (0,0) HX0) underlying177 rfl zp7;refine bodyPost_ret (v:=.tuple #[.agg (z0d zero8),.iface te ve]) ?_ rfl ⟨⟨_,_,rfl⟩,below_setRow (HB1.out.trans (HBB.out.mono (by rw[HSZ.out];omega))) (Nat.le_refl _) _⟩;rw[results_cell_tmp rfl];simp[asAddr,Result.andThen,hld]
 |some f=>
  rintro e w3 ⟨⟨v3,rfl,hown⟩,hb3⟩;have HBB3:Hid _:=HB2.out.trans (hb3.mono (HB2.out.size));obtain⟨sp3,cap3,rfl,hf3⟩:=z6f hown;have HF3:=hI hf3;have hfl:f.length≤4294967283:=by have:=z52 _ _ _ HFO;have h2:=z5X (⟨#[]⟩:ByteArray).data.toList;simp at this h2;omega
  have HV3:Hid _:=HV1.out.below HBB3;obtain⟨m3,hm3⟩:=HV3.out.maxLen;have HM3:=hI hm3;clear hm3 hb3 hown hf3;go_wp2_with fail;refine(zi7 s m3 _ hs HM3).mono ?_;rintro e w4 ⟨⟨v4,rfl,hrow4⟩,hb4⟩;have HR4:=hI hrow4;have HB4:=hI hb4;have HV4:Hid _:=HV3.out.below HB4;clear hrow4 hb4;go_wp2_with fail;refine(zkq _ _ v4 _ HR4 HV4).mono ?_;rw[HGO.out];cases go with
  |none=>rintro e w5 ⟨⟨te,ve,rfl⟩,hb5⟩;have HBB:Hid _:=HBB3.out.trans ((HB4.out.trans (hb5.mono HB4.out.size)).mono HBB3.out.size);have HX0:Hid _:=(HBB.out.block _ (by rw[HSZ.out];omega)).trans HY0;have HX1:Hid _:=(HBB.out.block _ (by rw[HSZ.out];omega)).trans HY1;clear hb5;go_wp2_with(first|refine wpList_load_row rfl 177 _ rfl (w.heap.size+1) rfl 177 (z0d zero8) (0,0) _ HX1 underlying177 rfl zp7 ?_|refine wpList_store_row rfl 177 _ _ rfl w.heap.size (z0d zero8) rfl rfl 177 (z0d zero8) HX0 zp7 rfl (z3d _) ?_);(try simp only[Exit.inBlock,Exit.then]);have hld:=run_loadVar_row (P:=prog) (w5.setRow w.heap.size (z0d zero8)) w.heap.size 177 177 (z0d zero8) (0,0) _ (setRow_heap w5 w.heap.size (z0d zero8) (z0d zero8) 177 (0,0) HX0) underlying177 rfl zp7;refine bodyPost_ret (v:=.tuple #[.agg (z0d zero8),.iface te ve]) ?_ rfl ⟨⟨_,_,rfl⟩,below_setRow (HB1.out.trans (HBB.out.mono (by rw[HSZ.out];omega))) (Nat.le_refl _) _⟩;rw[results_cell_tmp rfl];simp[asAddr,Result.andThen,hld]
  |some g=>
   rintro e w5 ⟨⟨v5,rfl,hown5⟩,hb5⟩;have HB35:Hid _:=HB4.out.trans (hb5.mono HB4.out.size);have HBB:Hid _:=HBB3.out.trans (HB35.out.mono HBB3.out.size);obtain⟨sp5,cap5,rfl,hf5⟩:=z6f hown5;have HF5:=hI hf5;have HX0:Hid _:=(HBB.out.block _ (by rw[HSZ.out];omega)).trans HY0;have HX1:Hid _:=(HBB.out.block _ (by rw[HSZ.out];omega)).trans HY1;have HX2:Hid _:=(HBB.out.block _ (by rw[HSZ.out];omega)).trans HY2;have hgl:g.length≤4294967285:=by have:=zaD _ _ HGO;have h2:=z5X s.data.toList;simp at this h2;omega
   clear hb5 hown5 hf5;go_wp2_with fail;refine(ziP _ false _).mono ?_;rintro e w6 ⟨rfl,hw6⟩;obtain rfl:=hw6.symm;by_cases hcount:((f.length:Int)+(g.length:Int)==8)=true
   ·have hcl:f.length+g.length≤8:=by
     simp at hcount;omega
    have HCO:=hI hcount;have HFX:Hid (0<f.length→∃k,sp3=some ⟨k,0,none⟩∧w.heap.size+1+1<k∧∀j u,(f.map (Value.int .u64))[j]?=some u→w5.cell? ⟨k,j,none⟩=some u):=(by intro h;obtain⟨k,h1,h2,h3⟩:=HF3 h;have h4:=HB2.out.size;rw[HSZ.out] at h4;refine⟨k,h1,by omega,fun j u hj=>?_⟩;have hz:=h3 j u hj;exact(HB35.out.cell (by exact block_lt_of_cell hz)).trans hz);have HGX:Hid (0<g.length→∃k,sp5=some ⟨k,0,none⟩∧w.heap.size+1+1<k∧∀j u,(g.map (Value.int .u64))[j]?=some u→w5.cell? ⟨k,j,none⟩=some u):=(by intro h;obtain⟨k,h1,h2,h3⟩:=HF5 h;have h4:=HB2.out.size;have h5:=HBB3.out.size;have h6:=HB4.out.size;rw[HSZ.out] at h4 h5;exact⟨k,h1,by omega,h3⟩);obtain⟨F,hF⟩:=z09 (f.map (Value.int .u64));obtain⟨G,hG⟩:=z09 (g.map (Value.int .u64));have hFl:F.length=f.length:=(by rw[hF];simp);have hGl:G.length=g.length:=(by rw[hG];simp);have HF1:Hid (∀v∈F,v.oneCell'=true):=(by rw[hF];exact ints_oneCell .u64 f);have HG1:Hid (∀v∈G,v.oneCell'=true):=(by rw[hG];exact ints_oneCell .u64 g);rw[←hF] at HFX;rw[←hG] at HGX;have HFE:=hI hF;have HGE:=hI hG;clear hF hG;go_wp2_with(refine z6e rfl _ _ 225 225 rfl 151 underlying225 zov (some ⟨w.heap.size+1+1,0,none⟩) sp3 8 8 f.length cap3 rfl rfl (w.heap.size+1+1) 0 (zero8.map (Value.int .u64)) 177 HX2 F ?c1 ?c2 ?c3 HF1 ?_)
    case c1=>rw[hFl];exact(Nat.min_eq_left (by omega)).symm
    case c2=>intro h;obtain⟨k,h1,h2,h3⟩:=HFX (by omega);refine⟨_,h1,fun j v hj=>?_⟩;rw[show(⟨k,0,none⟩:Addr).add j=⟨k,j,none⟩ by unfold Addr.add;split<;>simp_all];exact h3 j v hj
    case c3=>rw[hFl];show 0+f.length≤8;omega
    intro w6 HA1 HA2 HA3;obtain⟨d,hd⟩:∃d:Nat,d+g.length=8:=⟨8- g.length,by omega⟩;have hdi:(8:Int)-(g.length:Int)=(d:Int):=(by omega);have HD:=hI hd;have hd8:d≤8:=(by omega);clear hd;by_cases hg0:g.length=0
    ·have hd9:d=8:=by have:=HD;omega
     subst hd9;have hsl:=zmd (w.heap.size+1+1) w6;go_wp2_with(refine z6e rfl _ _ 225 225 rfl 151 underlying225 zov (some ⟨w.heap.size+1+1,0,none⟩) sp5 0 0 g.length cap5 rfl rfl (w.heap.size+1+1) 8 (splice (zero8.map (Value.int .u64)) 0 F) 177 HA1 G ?d1 ?d2 ?d3 HG1 ?_)
     case d1=>rw[hGl,hg0];rfl
     case d2=>intro h;omega
     case d3=>rw[hGl,hg0,length_splice _ _ _ (by rw[hFl];show 0+f.length≤8;omega)];decide
     intro w7 HE1 HE2 HE3;have HX7:Hid _:=((HE2 _ (by omega)).trans (HA2 _ (by omega))).trans HX0;have HFILL:Hid ((splice (splice (zero8.map (Value.int .u64)) 0 F) 8 G).toArray=z0d (f++(List.replicate (8- f.length- g.length) 0++g))):=by show _=_;rw[HFE.out,HGE.out];exact z6r f g 8 HD hcl
     have h8:(z0d (f++(List.replicate (8- f.length- g.length) 0++g))).size=8:=(by rw[z6q];simp;omega);have HE1':Hid (w7.heap[w.heap.size+1+1]?=some (.cells (z0d (f++(List.replicate (8- f.length- g.length) 0++g))) 177 (0,0))):=(by have:=HE1;rw[HFILL.out] at this;exact this);have H8:Hid ((prog.info? 177).map (·.size)=some (z0d (f++(List.replicate (8- f.length- g.length) 0++g))).size):=(by show _=_;rw[h8];exact zp7);have H88:Hid ((z0d zero8).size=(z0d (f++(List.replicate (8- f.length- g.length) 0++g))).size):=h8.symm;clear h8 HE1 HFILL;obtain⟨R,hR⟩:=z09 (f++(List.replicate (8- f.length- g.length) 0++g));rw[←hR] at HE1' H8 H88;have HRR:=hI hR;clear hR;go_wp2_with(first|refine wpList_load_row rfl 177 _ rfl (w.heap.size+1+1) rfl 177 (z0d R) (0,0) _ HE1' underlying177 rfl H8 ?_|refine wpList_store_row rfl 177 _ _ rfl w.heap.size (z0d R) rfl rfl 177 (z0d zero8) HX7 H8 H88 (z3d _) ?_);(try simp only[Exit.inBlock,Exit.then]);have hld:=run_loadVar_row (P:=prog) (w7.setRow w.heap.size (z0d R)) w.heap.size 177 177 (z0d R) (0,0) _ (setRow_heap w7 w.heap.size (z0d zero8) (z0d R) 177 (0,0) HX7) underlying177 rfl H8;have hB7:Below w.heap.size w w7:=(by have h1:=HB1.out.trans (HBB.out.mono (by rw[HSZ.out];omega));obtain⟨a1,a2,a3,a4⟩:=HA3;obtain⟨b1,b2,b3,b4⟩:=HE3;exact h1.trans ⟨b1.trans a1,b2.trans a2,b3.trans a3,by omega,fun k hk=>(HE2 k (by omega)).trans (HA2 k (by omega))⟩);refine bodyPost_ret (v:=.tuple #[.agg (z0d R),.nilIface]) ?_ rfl ⟨?_,below_setRow hB7 (Nat.le_refl _) _⟩
     ·rw[results_cell_tmp rfl]
      simp[asAddr,Result.andThen,hld]
     ·show zoN (if _ then _ else _) _
      rw[if_pos (by exact HCO.out),HRR.out];rfl
    ·have hd9:d<8:=by have:=HD;omega
     have hsl:=zmc (w.heap.size+1+1) d hd9 w6;go_wp2_with(refine z6e rfl _ _ 225 225 rfl 151 underlying225 zov (some ⟨w.heap.size+1+1,d,none⟩) sp5 (8- d) (8- d) g.length cap5 rfl rfl (w.heap.size+1+1) d (splice (zero8.map (Value.int .u64)) 0 F) 177 HA1 G ?d1 ?d2 ?d3 HG1 ?_)
     case d1=>rw[hGl];have:=HD;exact(Nat.min_eq_left (by omega)).symm
     case d2=>intro h;obtain⟨k,h1,h2,h3⟩:=HGX (by omega);refine⟨_,h1,fun j v hj=>?_⟩;rw[show(⟨k,0,none⟩:Addr).add j=⟨k,j,none⟩ by unfold Addr.add;split<;>simp_all];rw[World.cell?_of_block (w:=w5) (HA2.out k (by omega))];exact h3 j v hj
     case d3=>rw[hGl,length_splice _ _ _ (by rw[hFl];show 0+f.length≤8;omega)];have:=HD;show d+g.length≤8;omega
     intro w7 HE1 HE2 HE3;have HX7:Hid _:=((HE2 _ (by omega)).trans (HA2 _ (by omega))).trans HX0;have HFILL:Hid ((splice (splice (zero8.map (Value.int .u64)) 0 F) d G).toArray=z0d (f++(List.replicate (8- f.length- g.length) 0++g))):=by show _=_;rw[HFE.out,HGE.out];exact z6r f g d HD hcl
     have h8:(z0d (f++(List.replicate (8- f.length- g.length) 0++g))).size=8:=(by rw[z6q];simp;omega);have HE1':Hid (w7.heap[w.heap.size+1+1]?=some (.cells (z0d (f++(List.replicate (8- f.length- g.length) 0++g))) 177 (0,0))):=(by have:=HE1;rw[HFILL.out] at this;exact this);have H8:Hid ((prog.info? 177).map (·.size)=some (z0d (f++(List.replicate (8- f.length- g.length) 0++g))).size):=(by show _=_;rw[h8];exact zp7);have H88:Hid ((z0d zero8).size=(z0d (f++(List.replicate (8- f.length- g.length) 0++g))).size):=h8.symm;clear h8 HE1 HFILL;obtain⟨R,hR⟩:=z09 (f++(List.replicate (8- f.length- g.length) 0++g));rw[←hR] at HE1' H8 H88;have HRR:=hI hR;clear hR;go_wp2_with(first|refine wpList_load_row rfl 177 _ rfl (w.heap.size+1+1) rfl 177 (z0d R) (0,0) _ HE1' underlying177 rfl H8 ?_|refine wpList_store_row rfl 177 _ _ rfl w.heap.size (z0d R) rfl rfl 177 (z0d zero8) HX7 H8 H88 (z3d _) ?_);(try simp only[Exit.inBlock,Exit.then]);have hld:=run_loadVar_row (P:=prog) (w7.setRow w.heap.size (z0d R)) w.heap.size 177 177 (z0d R) (0,0) _ (setRow_heap w7 w.heap.size (z0d zero8) (z0d R) 177 (0,0) HX7) underlying177 rfl H8;have hB7:Below w.heap.size w w7:=(by have h1:=HB1.out.trans (HBB.out.mono (by rw[HSZ.out];omega));obtain⟨a1,a2,a3,a4⟩:=HA3;obtain⟨b1,b2,b3,b4⟩:=HE3;exact h1.trans ⟨b1.trans a1,b2.trans a2,b3.trans a3,by omega,fun k hk=>(HE2 k (by omega)).trans (HA2 k (by omega))⟩);refine bodyPost_ret (v:=.tuple #[.agg (z0d R),.nilIface]) ?_ rfl ⟨?_,below_setRow hB7 (Nat.le_refl _) _⟩
     ·rw[results_cell_tmp rfl]
      simp[asAddr,Result.andThen,hld]
     ·show zoN (if _ then _ else _) _
      rw[if_pos (by exact HCO.out),HRR.out];rfl
   ·have HCN:=hI hcount
    have HVE:Hid _:=HV1.out.below HBB;obtain⟨te,ve,hce⟩:=HVE.out.eCount;have hr0:w5.cell? ⟨w.heap.size+1,0,none⟩=some (.int .u64 0):=(by rw[cell_of_row w5 _ _ _ _ _ HX1.out];rfl);have hq0:w5.cell? ⟨w.heap.size,0,none⟩=some (.int .u64 0):=(by rw[cell_of_row w5 _ _ _ _ _ HX0.out];rfl);have hz0:w5.frozen? ⟨w.heap.size,0,none⟩=false:=frozen_of_row w5 _ _ _ _ HX0;have hr1:w5.cell? ⟨w.heap.size+1,1,none⟩=some (.int .u64 0):=(by rw[cell_of_row w5 _ _ _ _ _ HX1.out];rfl);have hq1:w5.cell? ⟨w.heap.size,1,none⟩=some (.int .u64 0):=(by rw[cell_of_row w5 _ _ _ _ _ HX0.out];rfl);have hz1:w5.frozen? ⟨w.heap.size,1,none⟩=false:=frozen_of_row w5 _ _ _ _ HX0;have hr2:w5.cell? ⟨w.heap.size+1,2,none⟩=some (.int .u64 0):=(by rw[cell_of_row w5 _ _ _ _ _ HX1.out];rfl);have hq2:w5.cell? ⟨w.heap.size,2,none⟩=some (.int .u64 0):=(by rw[cell_of_row w5 _ _ _ _ _ HX0.out];rfl);have hz2:w5.frozen? ⟨w.heap.size,2,none⟩=false:=frozen_of_row w5 _ _ _ _ HX0;have hr3:w5.cell? ⟨w.heap.size+1,3,none⟩=some (.int .u64 0):=(by rw[cell_of_row w5 _ _ _ _ _ HX1.out];rfl);have hq3:w5.cell? ⟨w.heap.size,3,none⟩=some (.int .u64 0):=(by rw[cell_of_row w5 _ _ _ _ _ HX0.out];rfl);have hz3:w5.frozen? ⟨w.heap.size,3,none⟩=false:=frozen_of_row w5 _ _ _ _ HX0;have hr4:w5.cell? ⟨w.heap.size+1,4,none⟩=some (.int .u64 0):=(by rw[cell_of_row w5 _ _ _ _ _ HX1.out];rfl);have hq4:w5.cell? ⟨w.heap.size,4,none⟩=some (.int .u64 0):=(by rw[cell_of_row w5 _ _ _ _ _ HX0.out];rfl);have hz4:w5.frozen? ⟨w.heap.size,4,none⟩=false:=frozen_of_row w5 _ _ _ _ HX0;have hr5:w5.cell? ⟨w.heap.size+1,5,none⟩=some (.int .u64 0):=(by rw[cell_of_row w5 _ _ _ _ _ HX1.out];rfl);have hq5:w5.cell? ⟨w.heap.size,5,none⟩=some (.int .u64 0):=(by rw[cell_of_row w5 _ _ _ _ _ HX0.out];rfl);have hz5:w5.frozen? ⟨w.heap.size,5,none⟩=false:=frozen_of_row w5 _ _ _ _ HX0;have hr6:w5.cell? ⟨w.heap.size+1,6,none⟩=some (.int .u64 0):=(by rw[cell_of_row w5 _ _ _ _ _ HX1.out];rfl);have hq6:w5.cell? ⟨w.heap.size,6,none⟩=some (.int .u64 0):=(by rw[cell_of_row w5 _ _ _ _ _ HX0.out];rfl);have hz6:w5.frozen? ⟨w.heap.size,6,none⟩=false:=frozen_of_row w5 _ _ _ _ HX0;have hr7:w5.cell? ⟨w.heap.size+1,7,none⟩=some (.int .u64 0):=(by rw[cell_of_row w5 _ _ _ _ _ HX1.out];rfl);have hq7:w5.cell? ⟨w.heap.size,7,none⟩=some (.int .u64 0):=(by rw[cell_of_row w5 _ _ _ _ _ HX0.out];rfl);have hz7:w5.frozen? ⟨w.heap.size,7,none⟩=false:=frozen_of_row w5 _ _ _ _ HX0;have HSET:=hI fun j hj=>zdn w5 w.heap.size j _ hj HX0;have hne1:¬(14=w.heap.size):=(by have:=HV.out.size;omega);have hne2:¬(w.heap.size=14):=(by have:=HV.out.size;omega);go_wp2;go_region;all_goals
     simp only[HSET.out 0 (by omega),HSET.out 1 (by omega),HSET.out 2 (by omega),HSET.out 3 (by omega),HSET.out 4 (by omega),HSET.out 5 (by omega),HSET.out 6 (by omega),HSET.out 7 (by omega)];go_wp2;(try simp only[Exit.inBlock,Exit.then]);have hld:=run_loadVar_row (P:=prog) w5.drew w.heap.size 177 177 (z0d zero8) (0,0) _ HX0 underlying177 rfl zp7;refine bodyPost_ret (v:=.tuple #[.agg (z0d zero8),.iface te ve]) ?_ rfl ⟨?_,(HB1.out.trans (HBB.out.mono (by rw[HSZ.out];omega))).drew⟩
     ·rw[results_cell_tmp rfl]
      simp[asAddr,Result.andThen,hld]
     ·show zoN (if _ then _ else _) _
      rw[if_neg (by exact HCN.out)];exact⟨_,_,rfl⟩
theorem zlx (s:ByteArray) (w:World) (hs:s.size<4294967281) (henv:Env w):CP 139 #[.string s] w (zoN (z2s s.data.toList)):=by
 unfold z2s;match h:Lib.cut s.data.toList [58,58] with
 |(a,b,true)=>have hl:=znh s.data.toList [58,58];rw[h] at hl;simp only[Array.length_toList,ByteArray.size_data] at hl;exact zjO s ⟨a.toArray⟩ ⟨b.toArray⟩ w hs (by show a.toArray.size<_;simp;omega) (by show b.toArray.size<_;simp;omega) henv h
 |(a,b,false)=>exact zkp s a b w hs henv h
end Go.Proofs
