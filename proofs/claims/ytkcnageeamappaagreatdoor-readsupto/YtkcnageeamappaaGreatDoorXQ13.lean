import Derived.Test.YtkcnageeamappaaGreatDoorXQ11
set_option maxHeartbeats 32000000
set_option maxRecDepth 8000
namespace Go.Proofs
open Go.RowKit Go.Moor Go.Proofs.Tryz
def z2k (o:Option Bs) (e:Ending):Prop:=
 match o with
 |some t=>e=.returned (.tuple #[.string ⟨t.toArray⟩,.bool true])
 |none=>∃x,e=.returned (.tuple #[.string x,.bool false])
theorem zl5:∀c:Fin 256,zme.contains c.val.toUInt8=z2V c.val.toUInt8:=by decide+kernel
theorem zmZ (c:UInt8):zme.contains c=z2V c:=by have h:=zl5 ⟨c.toNat,c.toNat_lt⟩;simp only at h;rw[show c.toNat.toUInt8=c by simp] at h;exact h
theorem badS_fin:∀c:Fin 256,z2p c.val.toUInt8=(z2V c.val.toUInt8||(decide (c.val<32)||(decide (c.val=37)||decide (126<c.val)))):=by decide+kernel
theorem zh0 (c:UInt8):z2p c=(z2V c||(decide (c.toNat<32)||(decide (c.toNat=37)||decide (126<c.toNat)))):=by have h:=badS_fin ⟨c.toNat,c.toNat_lt⟩;simp only at h;rw[show c.toNat.toUInt8=c by simp] at h;exact h
theorem zay (m:Bs) (c:UInt8):Lib.hasSuffix (m++ [c]) [93]=decide (c=93):=by
 unfold Lib.hasSuffix;rw[Bool.eq_iff_iff,List.isSuffixOf_iff_suffix,decide_eq_true_eq];constructor
 ·rintro⟨t,ht⟩
  have:=List.append_inj_right' ht rfl;injection this with h;exact h.symm
 ·rintro rfl
  exact⟨m,rfl⟩
theorem zhT (ps:List Int) (h:∀p∈ps,z3I p):z0e ps=((ps.map Int.toNat).map fun p=>Value.int .i64 (p:Nat)).toArray:=by unfold z0e;rw[List.map_map];congr 1;refine List.map_congr_left fun p hp=>?_;have:=(h p hp).1;simp;omega
theorem zn0 (s:ByteArray) (sp:Bool) (w:World) (hs:s.size≤2000) (hpf:Lib.hasPrefix s.data.toList [91]=true):CP 67 #[.string s,.bool sp] w (z2k (z1N (s.data.toList.drop 1))):=by
 obtain⟨l,hl⟩:=z09 s.data.toList;have HLN:Hid (l.length=s.size):=by show _=_;rw[hl,Array.length_toList];rfl
 have HG:Hid (∀(k:Nat) (h:k<s.size) (h2:k<l.length),l[k]=s[k]):=by intro k h h2;subst hl;simp;rfl
 have HXT:Hid (∀i j:Nat,s.extract i j=⟨((l.drop i).take (j- i)).toArray⟩):=by intro i j;rw[hl];exact z1Z s i j
 rw[←hl] at hpf⊢;clear hl;rw[z6m,decide_eq_true_eq] at hpf;obtain⟨r,hr⟩:∃r,l=91::r:=by
  cases l with
  |nil=>simp at hpf
  |cons x r=>simp at hpf;exact⟨r,by rw[hpf]⟩
 have h0:0<s.size:=by rw[←HLN.out,hr];simp
 obtain⟨k,hk⟩:∃k,s.size=k+1:=⟨s.size- 1,by omega⟩;have h91:((s[0].toNat:Int)==91)=true:=by
  have h2:0<l.length:=by rw[HLN.out];exact h0
  rw[←HG.out 0 h0 h2];have:l[0]?=some 91:=by rw[hr];rfl
  rw[List.getElem?_eq_getElem h2] at this;rw[Option.some.inj this];rfl
 have hks:k<s.size:=by omega
 have hkl:k<l.length:=by rw[HLN.out];exact hks
 have HKE:=hI (HG.out k hks hkl);have HD1:Hid (l.drop 1=r):=by show _=_;rw[hr];rfl
 suffices key:∀res:Option Bs,Hid (res=z1N (l.drop 1))→Calls prog 67 #[.string s,.bool sp] w fun e w'=>z2k res e∧Below w.heap.size w w' from key _ rfl
 intro res HRES;by_cases h93:s[k]=93
 ·have hk0:0<k:=by
   rcases Nat.eq_zero_or_pos k with h|h
   ·subst h
    rw[h93] at h91;simp at h91
   ·exact h
  obtain⟨m,hm⟩:∃m,r=m++ [93]:=by have h1:r.length=k:=(by have:=HLN.out;rw[hr,hk] at this;simpa using this);have h2:r≠[]:=(by intro h;rw[h] at h1;simp at h1;omega);refine⟨r.dropLast,?_⟩;have h3:=List.dropLast_concat_getLast h2;rw[←h3];have h4:r.getLast h2=93:=(by rw[←h93,←HKE.out,List.getLast_eq_getElem];simp only[hr,h1];rw[List.getElem_cons,dif_neg (by omega)]);rw[h4];simp
  have hml:m.length+1=k:=by have:=HLN.out;rw[hr,hk,hm] at this;simpa using this
  have HX:Hid (s.extract 1 k=⟨m.toArray⟩):=by show _=_;rw[HXT.out 1 k,HD1.out,hm,List.take_append_of_le_length (by omega),List.take_of_length_le (by omega)]
  have HBR:Hid (res=match z2s m with|some ps=>some ([91]++(z1C (ps.map Int.toNat)++ [93]))|none=>none):=by
   show _=_;have hsf:=zay m 93;have htr:Lib.trimSuffix (m++ [93]) [93]=m:=by unfold Lib.trimSuffix;rw[hsf];simp
   rw[HRES.out,HD1.out,hm];unfold z1N;rw[hsf,if_pos (by simp),htr];cases z2s m<;>rfl
  have HSX:Hid (CP 116 #[.string (s.extract 1 k)] w (zhP (z2s m))):=by show Calls _ _ _ _ _;have:=znY (s.extract 1 k) w (by simp;omega);rw[HX.out] at this⊢;rw[←zlk];exact this
  have h93p:(s[k].toNat:Int)=93:=by rw[h93];rfl
  have hk1:(s.size:Int)- 1=(k:Int):=by omega
  have hn1:((s.size:Int)==1)=false:=by rw[beq_eq_false_iff_ne];omega
  have hki1:(1:Int)≤(k:Int):=by omega
  have hki2:(k:Int)≤(s.size:Int):=by omega
  have h0i:(0:Int)<(s.size:Int):=by omega
  clear hr hm hml h93 hpf HD1 HRES HXT HG hk;cases hso:z2s m with
  |none=>have HN:Hid (res=none):=(by show _=_;rw[HBR.out,hso]);rw[hso] at HSX;clear hso;go_enter func67,ntmps67;go_wp2_with fail;refine Calls.mono HSX.out ?_;rintro e w1 ⟨⟨r8,hr8,rfl⟩,hb1⟩;have hw1:=hb1.size;have HA:Hid ((w1.alloc (.cells (z0e zero8) 34)).heap[w1.heap.size]?=some (.cells (z0e zero8) 34 (0,0))):=heap_alloc_new w1 _;have HS8:Hid ((prog.info? 34).map (·.size)=some (z0e r8).size):=(by show _=_;rw[z3T,hr8];exact zoJ);have HS88:Hid ((z0e zero8).size=(z0e r8).size):=(by show _=_;rw[z3T r8,hr8];rfl);go_wp2_with(refine wpList_store_row rfl 34 _ _ rfl w1.heap.size (z0e r8) rfl rfl 34 (z0e zero8) HA.out HS8.out HS88.out (z2E _) ?_);go_ret2;rw[HN.out];exact⟨⟨_,rfl⟩,below_setRow (hb1.alloc hw1 _) hw1 _⟩
  |some ps=>
   obtain⟨h8,hok⟩:=z8G m ps hso;have HRS:Hid (res=some ([91]++(z1C (ps.map Int.toNat)++ [93]))):=(by show _=_;rw[HBR.out,hso]);rw[hso] at HSX;have HTE:Hid (∀W,CB 117 #[.agg (z0e ps)] W (.string ⟨(z1C (ps.map Int.toNat)).toArray⟩)):=by
    intro W;rw[zhT ps hok];exact znc (ps.map Int.toNat) (by rw[List.length_map];exact h8) (fun p hp=>by
     obtain⟨q,hq,rfl⟩:=List.mem_map.1 hp;have:=hok q hq;unfold z3I at this;omega) W
   have hsl:=zak (ps.map Int.toNat) (by rw[List.length_map];exact h8);have HAP:Hid ((⟨#[91]⟩:ByteArray)++⟨(z1C (ps.map Int.toNat)).toArray⟩++⟨#[93]⟩=⟨([91]++(z1C (ps.map Int.toNat)++ [93])).toArray⟩):=(by show _=_;have e1:(⟨#[91]⟩:ByteArray)++⟨(z1C (ps.map Int.toNat)).toArray⟩=⟨([91]++z1C (ps.map Int.toNat)).toArray⟩:=z0G [91] _;rw[e1];exact(z0G _ [93]).trans (by rw[List.append_assoc]));have hz:(⟨(z1C (ps.map Int.toNat)).toArray⟩:ByteArray).size≤82:=(by rw[z07];exact hsl);generalize(⟨(z1C (ps.map Int.toNat)).toArray⟩:ByteArray)=tx at*;have z91:(⟨#[91]⟩:ByteArray).size=1:=rfl;have z93:(⟨#[93]⟩:ByteArray).size=1:=rfl;have g0:∀W:World,(Op.stringOp .add ⟨#[91]⟩ tx).run prog W=.ok (.string (⟨#[91]⟩++tx)) W:=fun W=>run_string_add_sum W _ _ (by omega);have g1:∀W:World,(Op.stringOp .add (⟨#[91]⟩++tx) ⟨#[93]⟩).run prog W=.ok (.string (⟨#[91]⟩++tx++⟨#[93]⟩)) W:=fun W=>run_string_add_sum W _ _ (by simp only[ByteArray.size_append];omega);have HS8:Hid ((prog.info? 34).map (·.size)=some (z0e ps).size):=(by show _=_;rw[z3T,h8];exact zoJ);have HS88:Hid ((z0e zero8).size=(z0e ps).size):=(by show _=_;rw[z3T ps,h8];rfl);clear hso hok h8 hsl hz z91 z93 HBR;go_enter func67,ntmps67;go_wp2_with fail;refine Calls.mono HSX.out ?_;rintro e w1 ⟨hx,hb1⟩;have hx:e=_:=hx;subst hx;have hw1:=hb1.size;have HA:Hid ((w1.alloc (.cells (z0e zero8) 34)).heap[w1.heap.size]?=some (.cells (z0e zero8) 34 (0,0))):=heap_alloc_new w1 _;have HA2:=hI (setRow_heap _ w1.heap.size (z0e zero8) (z0e ps) 34 (0,0) HA.out);have HBB:Hid (Below w.heap.size w ((w1.alloc (.cells (z0e zero8) 34)).setRow w1.heap.size (z0e ps))):=below_setRow (hb1.alloc hw1 _) hw1 _;clear hb1;go_wp2_with(first|refine wpList_store_row rfl 34 _ _ rfl w1.heap.size (z0e ps) rfl rfl 34 (z0e zero8) HA.out HS8.out HS88.out (z2E _) ?_|refine wpList_load_row rfl 34 _ rfl w1.heap.size rfl 34 (z0e ps) (0,0) _ HA2.out underlying34 rfl HS8.out ?_);refine Calls.mono (HTE.out _) ?_;rintro e w2 ⟨rfl,hb2⟩;have HB2:=hI (HBB.out.trans (hb2.mono HBB.out.size));clear hb2;go_wp2;go_ret2;rw[HRS.out];refine⟨?_,HB2.out⟩;show _=Ending.returned (.tuple #[.string ⟨([91]++(z1C (ps.map Int.toNat)++ [93])).toArray⟩,.bool true]);rw[←HAP.out];rfl
 ·have HN:Hid (res=none):=by
   show _=_;rw[HRES.out,HD1.out];unfold z1N;rw[if_neg];intro h;by_cases hr0:r=[]
   ·rw[hr0] at h;simp[Lib.hasSuffix] at h
   ·have h3:=List.dropLast_concat_getLast hr0
    rw[←h3,zay,decide_eq_true_eq] at h;apply h93;have h1:r.length=k:=(by have:=HLN.out;rw[hr,hk] at this;simpa using this);rw[←HKE.out,←h,List.getLast_eq_getElem];have hk0:0<k:=(by rw[←h1];exact List.length_pos_iff.2 hr0);simp only[hr,h1];rw[List.getElem_cons,dif_neg (by omega)]
  have h93p:¬(s[k].toNat:Int)=93:=by intro h;exact h93 (UInt8.toNat_inj.1 (by show s[k].toNat=93;omega))
  have hk1:(s.size:Int)- 1=(k:Int):=by omega
  have h0i:(0:Int)<(s.size:Int):=by omega
  clear hr h93 hpf HD1 HRES HXT HG hk;go_enter func67,ntmps67;go_wp2;go_ret2;rw[HN.out];exact⟨⟨_,rfl⟩,Below.refl _ _⟩
theorem zn1 (c:UInt8) (w:World):C0 110 #[.string ⟨#[0,9,10,13,32,35,47,58,60,62,63,64,91,92,93,94,124]⟩,.int .u8 c.toNat] w (.bool (z2V c)):=by have h:=znX ⟨#[0,9,10,13,32,35,47,58,60,62,63,64,91,92,93,94,124]⟩ c w (by decide);have e:(⟨#[0,9,10,13,32,35,47,58,60,62,63,64,91,92,93,94,124]⟩:ByteArray).data.toList.contains c=z2V c:=zmZ c;rw[e] at h;exact h
theorem zbP (s:ByteArray) (h:Lib.hasPrefix s.data.toList [91]=false):(¬(0:Int)<(s.size:Int))∨((0:Int)<(s.size:Int)∧∃h0:0<s.size,((s[0].toNat:Int)==91)=false):=by
 by_cases h0:0<s.size
 ·right
  refine⟨by omega,h0,?_⟩;rw[beq_eq_false_iff_ne];intro hc;have:s[0]=91:=UInt8.toNat_inj.1 (by show s[0].toNat=91;omega);rw[z6m,decide_eq_false_iff_not] at h;apply h;have hl:0<s.data.toList.length:=by rw[Array.length_toList];exact h0
  rw[List.head?_eq_getElem?,List.getElem?_eq_getElem hl,←this];rfl
 ·left
  omega
theorem zl6 (s:ByteArray) (w:World) (hs:s.size≤2000) (hpf:Lib.hasPrefix s.data.toList [91]=false):CP 67 #[.string s,.bool false] w (z2k (z2x s.data.toList)):=by
 have HES:Hid _:=zb3 s 0 w (by omega);have HFO:=hI fun c w1=>zn1 c w1;suffices key:∀res:Option Bs,Hid (res=z2x s.data.toList)→Calls prog 67 #[.string s,.bool false] w fun e w'=>z2k res e∧Below w.heap.size w w' from key _ rfl
 intro res HRES;rcases zbP s hpf with h0|⟨h0,h1,h2⟩;all_goals
  go_enter func67,ntmps67;go_wp2_with fail;go_loopw [9] (fun i wr=>∃k:Nat,k≤s.size∧i=.int .i64 (k:Nat)∧(∀(j:Nat) (hj:j<s.size),j<k→z2V s[j]=false)∧wr=w) (fun i _=>s.size-(intOf i).toNat)
  case atStart=>exact⟨0,Nat.zero_le _,rfl,fun j hj h=>by omega,rfl⟩
  case round=>
   obtain⟨k,hk,rfl,hno,hwr⟩:=hrel;obtain rfl:=hwr.symm;have HNO:=hI hno;clear hno;by_cases hlt:k<s.size
   ·have HF:Hid _:=HFO s[k] w
    cases hb:z2V s[k] with
    |true=>have HN:Hid (res=none):=(by show _=_;rw[HRES.out];exact if_pos (zeM s k hlt hb));rw[hb] at HF;clear hb;go_wp2_with fail;refine Calls.mono HF ?_;rintro e W0 ⟨rfl,hw0⟩;obtain rfl:=hw0.symm;go_wp2;go_ret2;rw[HN.out];exact⟨⟨_,rfl⟩,Below.refl _ _⟩
    |false=>
     have HNX:Hid (∀(j:Nat) (hj:j<s.size),j<k+1→z2V s[j]=false):=by
      intro j hj h;by_cases e:j=k
      ·subst e;exact hb
      ·exact HNO j hj (by omega)
     rw[hb] at HF;clear hb;go_wp2_with fail;refine Calls.mono HF ?_;rintro e W0 ⟨rfl,hw0⟩;obtain rfl:=hw0.symm;go_wp2;go_roundw
     case rel=>exact⟨k+1,by omega,by go_num,HNX,trivial⟩
     case measure=>(simp[intOf];try omega)
   ·have HRS:Hid (res=some (esc 0 s.data.toList)):=by
     show _=_;rw[HRES.out];unfold z2x;rw[if_neg];rw[zd4 s (fun j hj=>HNO.out j hj (by omega))];simp
    go_wp2_with fail;refine Calls.mono HES ?_;rintro e w1 ⟨rfl,b1⟩;have HB1:=hI b1;clear b1;go_wp2;go_ret2;rw[HRS.out];exact⟨rfl,HB1⟩
theorem zl7 (s:ByteArray) (k:Nat) (h:k<s.size) (hb:z2p s[k]=true):s.data.toList.any z2p=true:=by rw[List.any_eq_true];exact⟨s[k],List.mem_of_getElem? (i:=k) (by rw[Array.getElem?_toList];exact Array.getElem?_eq_getElem h),hb⟩
theorem zjq (s:ByteArray) (h:∀(j:Nat) (hj:j<s.size),z2p s[j]=false):s.data.toList.any z2p=false:=by rw[List.any_eq_false];intro x hx;rw[List.mem_iff_getElem?] at hx;obtain⟨j,hj⟩:=hx;rw[Array.getElem?_toList,Array.getElem?_eq_some_iff] at hj;obtain⟨h1,h2⟩:=hj;have h3:=h j h1;rw[←h2];intro h4;have h5:z2p s[j]=true:=h4;rw[h3] at h5;cases h5
theorem zjr (c:UInt8) (h:z2p c=true):z2V c=true∨(z2V c=false∧(c.toNat:Int)<32)∨(z2V c=false∧¬(c.toNat:Int)<32∧((c.toNat:Int)==37)=true)∨(z2V c=false∧¬(c.toNat:Int)<32∧((c.toNat:Int)==37)=false∧(126:Int)<(c.toNat:Int)):=by
 rw[zh0] at h;cases hb:z2V c with
 |true=>exact Or.inl rfl
 |false=>
  rw[hb] at h;simp at h;by_cases h1:c.toNat<32
  ·exact Or.inr (Or.inl ⟨rfl,by omega⟩)
  ·by_cases h2:c.toNat=37
   ·exact Or.inr (Or.inr (Or.inl ⟨rfl,by omega,by rw[h2];rfl⟩))
   ·exact Or.inr (Or.inr (Or.inr ⟨rfl,by omega,by rw[beq_eq_false_iff_ne];omega,by omega⟩))
theorem zhU (c:UInt8) (h:z2p c=false):z2V c=false∧¬(c.toNat:Int)<32∧((c.toNat:Int)==37)=false∧¬(126:Int)<(c.toNat:Int):=by rw[zh0] at h;simp at h;obtain⟨h1,h2,h3,h4⟩:=h;exact⟨h1,by omega,by rw[beq_eq_false_iff_ne];omega,by omega⟩
theorem lower_len (u:Bs):(Lib.toLowerA u).length=u.length:=by unfold Lib.toLowerA;exact List.length_map ..
theorem zhV:z1h []=[[]]:=by decide
end Go.Proofs
