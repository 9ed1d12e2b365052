import Derived.Test.YtkcnageeamappaaGreatDoorXIp4
import Derived.Lib.ItoaMem
import Derived.Lib.AppendIntMem
set_option maxHeartbeats 32000000
set_option maxRecDepth 8000
namespace Go.Proofs
open Go.RowKit Go.Moor Go.Proofs.Tryz Go.RowKit Go.Moor Go.Sort
theorem zkI (i:Nat) (h:i<100) (w:World):C0 239 #[.int .u64 i,.int .i64 10] w (.string ⟨(Lib.decDigits i).toArray⟩):=by go_enter func239,ntmps239;go_wp2_with(go_at_call 254;refine(internal_strconv_small i h _).mono ?_;rintro e w' ⟨rfl,rfl⟩);go_ret;exact⟨rfl,rfl⟩
theorem zg0 (w:World) (T:TypeId):Holds (fun(b:UInt8)=>Value.int .u8 (b.toNat:Int)) (w.alloc (.cells Lib.zeros24 T)) w.heap.size 0 (Array.replicate 3 (0:UInt8)):=fun j hj=>by
 have hj':j<3:=by simpa using hj
 refine⟨?_,World.frozen?_alloc_new _ _ _ _⟩;rw[World.cell?_alloc_new,Lib.zeros24_at _ (by omega),getElem!_pos _ j hj];simp
set_option maxRecDepth 100000 in
theorem zkJ (u:Nat) (h1:100≤u) (h2:u<256) (w:World) (htab:Lib.TabIs prog w "internal/strconv.uint64pow10" .u64 Lib.pow10Tab):CB 239 #[.int .u64 u,.int .i64 10] w (.string ⟨(Lib.decDigits u).toArray⟩):=by
 have hnd:=Lib.nDigits_unique 2 u (by omega) (by omega);have hdl:(Lib.decDigits u).length=3:=by rw[Lib.decDigits_length,hnd]
 have hH0:=zg0 w 259;have hfmt:=internal_strconv_formatBase10 w.heap.size 0 24 u (Array.replicate 3 0) (w.alloc (.cells Lib.zeros24 259)) hH0 (by rw[Array.size_replicate];omega) (by omega) (by rw[Array.size_replicate];omega);rw[Array.size_replicate] at hfmt;have HF0:=hI hfmt;have HH0:=hI hH0;have HND:=hI hnd;have HDL:=hI hdl;have HNC:Hid (Calls prog 255 #[.int .u64 u] (w.alloc (.cells Lib.zeros24 259)) fun e w'=>e=.returned (.int .i64 3)∧w'=w.alloc (.cells Lib.zeros24 259)):=by have:=internal_strconv_numDigits u (by omega) (by omega) (w.alloc (.cells Lib.zeros24 259)) (Lib.tabIs_alloc htab _);rw[hnd] at this;exact this
 clear hfmt hH0 hnd hdl;go_enter func239,ntmps239;go_wp2_with fail;refine HNC.out.mono ?_;rintro e w' ⟨rfl,rfl⟩;go_wp2_with fail;refine HF0.out.mono ?_;rintro e w' ⟨rfl,k,v',dk,rfl,hF⟩;have HFI:=hI hF;clear hF;have hcv:(convert 47 9 (.slice (some ⟨w.heap.size,0,none⟩) 3 24)).run prog ((putRow (fun(b:UInt8)=>Value.int .u8 (b.toNat:Int)) (w.alloc (.cells Lib.zeros24 259)) w.heap.size 0 dk).drewN k)=.ok (.string ⟨(Lib.decDigits u).toArray⟩) ((putRow (fun(b:UInt8)=>Value.int .u8 (b.toNat:Int)) (w.alloc (.cells Lib.zeros24 259)) w.heap.size 0 dk).drewN k):=by
  have hF:Lib.FmtInv (Lib.nDigits u) u 0 v' dk:=by rw[HND.out];exact HFI
  have h:=run_convert_bytes_back (P:=prog) ((putRow (fun(b:UInt8)=>Value.int .u8 (b.toNat:Int)) (w.alloc (.cells Lib.zeros24 259)) w.heap.size 0 dk).drewN k) 47 9 5 ⟨w.heap.size,0,none⟩ 24 (Lib.decDigits u) underlying47 underlying5 underlying9 (fun j hj=>by
   rw[Lib.row_is_numeral hF j hj,Lib.add_plain,World.cell?_drewN];exact cell?_putRow (fun(b:UInt8)=>Value.int .u8 (b.toNat:Int)) _ w.heap.size 0 _ dk HH0 (by rw[hF.size,HND.out,Array.size_replicate]) j (by rw[hF.size];rw[Lib.decDigits_length] at hj;exact hj))
  rw[HDL.out] at h;exact h
 have HB:Hid (Below w.heap.size w ((putRow (fun(b:UInt8)=>Value.int .u8 (b.toNat:Int)) (w.alloc (.cells Lib.zeros24 259)) w.heap.size 0 dk).drewN k)):=by obtain⟨os',_,e⟩:=putRow_grow_new (fun(b:UInt8)=>Value.int .u8 (b.toNat:Int)) w #[.cells Lib.zeros24 259] w.heap.size 0 dk (Nat.le_refl _);show Below _ _ _;rw[alloc_eq_grow,e];exact Lib.below_grow _ w (Nat.le_refl _) k os'
 go_wp2;go_ret;exact⟨rfl,HB⟩
theorem zmH (u:Nat) (h2:u<256) (w:World) (htab:Lib.TabIs prog w "internal/strconv.uint64pow10" .u64 Lib.pow10Tab):CB 239 #[.int .u64 u,.int .i64 10] w (.string ⟨(Lib.decDigits u).toArray⟩):=by
 by_cases h:u<100
 ·refine(zkI u h w).mono ?_
  rintro e w' ⟨rfl,rfl⟩;exact⟨rfl,Below.refl _ _⟩
 ·exact zkJ u (by omega) h2 w htab
theorem ziK (u:Nat) (h2:u<256) (w:World) (htab:Lib.TabIs prog w "internal/strconv.uint64pow10" .u64 Lib.pow10Tab):CB 203 #[.int .u64 u,.int .i64 10] w (.string ⟨(Lib.decDigits u).toArray⟩):=by have HT:=hI htab;clear htab;go_enter func203,ntmps203;go_wp2_with fail;refine(zmH u h2 _ HT).mono ?_;rintro e w' ⟨rfl,hb⟩;go_wp2;go_ret;exact⟨rfl,hb⟩
theorem zkK (a:Nat) (ha:a<4294967296) (w:World) (henv:Env w):CB 146 #[.int .u64 a] w (.string ⟨(z2U a).toArray⟩):=by
 have HV:=hI henv;clear henv;go_enter func146,ntmps146;go_wp2;go_loopw [5] (fun i wr=>∃q:Nat,q≤4∧i=.int .i64 q∧(∀j,j<4→wr.cell? ⟨w.heap.size,j,none⟩=some (.string (if j<q then⟨(Lib.decDigits (z2m a j)).toArray⟩ else⟨#[]⟩)))∧(∀j,j<4→wr.frozen? ⟨w.heap.size,j,none⟩=false)∧Below w.heap.size w wr∧w.heap.size<wr.heap.size) (fun i _=>4-(intOf i).toNat)
 case atStart=>
  refine⟨0,by omega,rfl,?_,?_,(Below.refl _ w).alloc (Nat.le_refl _) _,by simp⟩
  ·intro j hj
   have e:(w.alloc (.cells #[.string ⟨#[]⟩,.string ⟨#[]⟩,.string ⟨#[]⟩,.string ⟨#[]⟩] 237)).heap[w.heap.size]?=some (.cells #[.string ⟨#[]⟩,.string ⟨#[]⟩,.string ⟨#[]⟩,.string ⟨#[]⟩] 237):=heap_alloc_new w _;simp only[World.cell?,e];match j,hj with
   |0,_=>rfl
   |1,_=>rfl
   |2,_=>rfl
   |3,_=>rfl
  ·intro j hj
   exact World.frozen?_alloc_new _ _ _ _
 case round=>
  obtain⟨q,hq,rfl,hc,hf,hb,hz⟩:=hrel;have HC:=hI hc;have HF:=hI hf;clear hc hf;by_cases hlt:q<4
  ·have HA:Hid (bits .and .u64 ((a:Int)/2^(24- 8*q)) 255=((z2m a q:Nat):Int)):=zkP a (24- 8*q) ha
   have HVr:Hid _:=HV.out.below hb;go_wp2_with fail;rw[HA.out];refine(ziK (z2m a q) (z7d a q) _ HVr.out.pow10).mono ?_;rintro e W1 ⟨rfl,b1⟩;have hc1:W1.cell? ⟨w.heap.size,q,none⟩=some (.string ⟨#[]⟩):=(by rw[b1.cell (p:=⟨w.heap.size,q,none⟩) hz,HC.out q hlt,if_neg (by omega)]);have hf1:W1.frozen? ⟨w.heap.size,q,none⟩=false:=(by rw[b1.frozen (p:=⟨w.heap.size,q,none⟩) hz,HF.out q hlt]);have hz1:=Nat.lt_of_lt_of_le hz b1.size;have hb1:=hb.trans (b1.mono (by omega));go_wp2;go_roundw
   case rel=>
    refine⟨q+1,by omega,by go_num,?_,?_,hb1.setCell (Nat.le_refl _) _,by simpa using hz1⟩
    ·intro j hj
     by_cases hjq:j=q
     ·subst hjq
      rw[World.cell?_setCell_same _ _ _ hc1,if_pos (by omega)]
     ·rw[World.cell?_setCell_other _ _ _ _ (by intro h;cases h;exact hjq rfl),b1.cell (p:=⟨w.heap.size,j,none⟩) hz,HC.out j hj]
      by_cases h:j<q
      ·rw[if_pos h,if_pos (by omega)]
      ·rw[if_neg h,if_neg (by omega)]
    ·intro j hj
     rw[World.frozen?_setCell,b1.frozen (p:=⟨w.heap.size,j,none⟩) hz,HF.out j hj]
   case measure=>simp[intOf];omega
  ·have hq4:q=4:=by omega
   subst hq4;have HJ:Hid (CB 189 #[.slice (some ⟨w.heap.size,0,none⟩) 4 4,.string ⟨#[46]⟩] wr (.string ⟨(z2U a).toArray⟩)):=by
    have hj:=strings_Join w.heap.size 0 4 [⟨(Lib.decDigits (z2m a 0)).toArray⟩,⟨(Lib.decDigits (z2m a 1)).toArray⟩,⟨(Lib.decDigits (z2m a 2)).toArray⟩,⟨(Lib.decDigits (z2m a 3)).toArray⟩] ⟨#[46]⟩ wr (by
      intro j x hx;match j,hx with
      |0,hx=>cases hx;exact HC 0 (by omega)
      |1,hx=>cases hx;exact HC 1 (by omega)
      |2,hx=>cases hx;exact HC 2 (by omega)
      |3,hx=>cases hx;exact HC 3 (by omega)) hz (by simp) (by simp) (by
      show(z2U a).length≤_;have:=zd6 a;omega)
    exact hj
   go_wp2_with fail;refine HJ.out.mono ?_;rintro e W1 ⟨rfl,b1⟩;go_wp2;go_ret;exact⟨rfl,hb.trans (b1.mono (by omega))⟩
end Go.Proofs
namespace Go.Proofs
open Go.RowKit Go.Moor Go.Proofs.Tryz
def z4D (o:Option (List UInt8)) (e:Ending):Prop:=
 match o with
 |some l=>e=.returned (.tuple #[.string ⟨l.toArray⟩,.nilIface])
 |none=>∃t v,e=.returned (.tuple #[.string ⟨#[]⟩,.iface t v])
theorem z9P (s:ByteArray) (c:UInt8) (w:World) (h:0≤Lib.indexByte s.data.toList c):Calls prog 141 #[.string s,.int .u8 c.toNat] w fun e w'=>(∃i:Int,0≤i∧e=.returned (.int .i64 i))∧w'=w:=by refine(strings_IndexByte s c.toNat w).mono ?_;rintro e w' ⟨rfl,rfl⟩;exact⟨⟨_,by simpa using h,rfl⟩,rfl⟩
theorem zad (s:ByteArray) (c:UInt8) (w:World) (h:¬0≤Lib.indexByte s.data.toList c):Calls prog 141 #[.string s,.int .u8 c.toNat] w fun e w'=>(∃i:Int,i<0∧e=.returned (.int .i64 i))∧w'=w:=by refine(strings_IndexByte s c.toNat w).mono ?_;rintro e w' ⟨rfl,rfl⟩;exact⟨⟨_,by simpa using h,rfl⟩,rfl⟩
theorem zmf (c:UInt8) (w:World) (hs:zpl w) (hz:13<w.heap.size) (h:z0n 0 c.toNat=true):CB 142 #[.int .i64 0,.int .u8 c.toNat] w (.bool true):=by have:=znM 0 c w hs hz;rw[h] at this;exact this
theorem zni (c:UInt8) (w:World) (hs:zpl w) (hz:13<w.heap.size) (h:z0n 0 c.toNat=false):CB 142 #[.int .i64 0,.int .u8 c.toNat] w (.bool false):=by have:=znM 0 c w hs hz;rw[h] at this;exact this
theorem znj (s:ByteArray) (k:Nat) (h:k<s.size) (hb:z2p s[k]=true):s.data.toList.any z2p=true:=by rw[List.any_eq_true];exact⟨s[k],List.getElem_mem (l:=s.data.toList) (n:=k) (by simpa using h),hb⟩
theorem zlA (s:ByteArray) (h:∀(j:Nat) (hj:j<s.size),z2p s[j]=false):s.data.toList.any z2p=false:=by rw[List.any_eq_false];intro x hx;obtain⟨j,hj,rfl⟩:=List.getElem_of_mem hx;have:z2p s.data.toList[j]=false:=h j (by simpa using hj);rw[this];simp
theorem z8H (s:ByteArray) (w:World) (hs:s.size<4294967281) (henv:Env w):CP 84 #[.string s] w (z4D (z14 s.data.toList)):=by
 have HV:=hI henv;clear henv;by_cases hem:s.toList.isEmpty=true
 ·obtain⟨te,ve,hce⟩:=HV.out.eEmpty
  go_enter func84,ntmps84;go_wp2;go_quiet (fail);go_wp2;go_ret2;refine⟨?_,Go.below_drewN (Below.refl _ _) _⟩;unfold z14;rw[if_pos (by rw[Lib.toList_data] at hem;simpa using hem)];exact⟨_,_,rfl⟩
 ·have hem2:=Bool.eq_false_iff.2 hem
  have HNE:Hid (¬s.data.toList=[]):=by show¬_;intro h;rw[Lib.toList_data,h] at hem;exact hem rfl
  clear hem;go_enter func84,ntmps84;go_wp2_with fail;go_loopw [4] (fun i wr=>∃k:Nat,k≤s.size∧i=.int .i64 k∧(∀(j:Nat) (hj:j<s.size),j<k→z2p s[j]=false)∧Below w.heap.size w wr) (fun i _=>s.size-(intOf i).toNat)
  case atStart=>exact⟨0,Nat.zero_le _,rfl,fun j hj h=>by omega,Below.refl _ _⟩
  case round=>
   obtain⟨k,hk,rfl,hgood,hbw⟩:=hrel;have HBR:=hI hbw;have HVr:=hI (HV.out.below hbw);clear hbw;have HG:=hI hgood;clear hgood;by_cases hlt:k<s.size
   ·by_cases hb:z2p s[k]=true
    ·have HB:=hI (znj s k hlt hb)
     have HR:Hid (z14 s.data.toList=none):=(by show _=_;unfold z14;rw[if_neg HNE.out,if_pos HB.out]);by_cases h1:0≤Lib.indexByte zhE s[k]
     ·clear hb
      go_wp2_with(go_at_call 141;refine(z9P _ _ _ h1).mono ?_;rintro e w' ⟨⟨i,hi,rfl⟩,hw0⟩;have hw0:=hw0.symm;subst hw0);go_quiet (fail);go_wp2;go_ret2;refine⟨?_,Go.below_drewN HBR.out _⟩;rw[HR.out];exact⟨_,_,rfl⟩
     ·have h2:z0n 0 s[k].toNat=true:=by
       unfold z2p at hb;rw[decide_eq_false h1] at hb;simpa using hb
      clear hb;have HH:=hI (zmf _ _ HVr.out.sets (by have:=HVr.out.size;omega) h2);go_wp2_with(first|(go_at_call 141;refine(zad _ _ _ h1).mono ?_;rintro e w' ⟨⟨i,hi,rfl⟩,hw0⟩;have hw0:=hw0.symm;subst hw0)|fail);refine HH.out.mono ?_;rintro e W0 ⟨rfl,b0⟩;have HB0:=hI (HBR.out.trans (b0.mono HBR.out.size));clear b0;go_wp2;go_quiet (fail);go_wp2;go_ret2;refine⟨?_,Go.below_drewN HB0.out _⟩;rw[HR.out];exact⟨_,_,rfl⟩
    ·have hb2:=Bool.eq_false_iff.2 hb
     have HG2:Hid (∀(j:Nat) (hj:j<s.size),j<k+1→z2p s[j]=false):=by
      intro j hj h;by_cases e:j=k
      ·subst e;exact hb2
      ·exact HG.out j hj (by omega)
     have h1:¬0≤Lib.indexByte zhE s[k]:=fun h=>by unfold z2p at hb2;rw[decide_eq_true h] at hb2;simp at hb2
     have h2:=(Bool.or_eq_false_iff.1 hb2).2;clear hb hb2;have HH:=hI (zni _ _ HVr.out.sets (by have:=HVr.out.size;omega) h2);go_wp2_with(first|(go_at_call 141;refine(zad _ _ _ h1).mono ?_;rintro e w' ⟨⟨i,hi,rfl⟩,hw0⟩;have hw0:=hw0.symm;subst hw0)|fail);refine HH.out.mono ?_;rintro e W0 ⟨rfl,b0⟩;have HB0:=hI (HBR.out.trans (b0.mono HBR.out.size));clear b0;go_wp2;go_roundw
     case rel=>exact⟨k+1,by omega,by go_num,HG2.out,HB0.out⟩
     case measure=>simp[intOf];omega
   ·have HNB:=hI (zlA s (fun j hj=>HG.out j hj (by omega)))
    have HAS:Hid (∀(j:Nat) (b:UInt8),s.data.toList[j]?=some b→b.toNat<128):=(by intro j b h;refine zg6 b ?_;have h1:=HNB.out;rw[List.any_eq_false] at h1;have:=h1 b (List.mem_of_getElem? h);simpa using this);clear HG;go_wp2_with fail;refine(strings_ToLower_ascii s _ (by omega) HAS.out).mono ?_;rintro e W1 ⟨rfl,b1⟩;have b1:=HBR.out.trans (b1.mono HBR.out.size);have HV1:=hI (HV.out.below b1);obtain⟨m,hm⟩:=HV1.out.maxLen;have HM:=hI hm;clear hm;have hsz:(⟨(Lib.toLowerA s.data.toList).toArray⟩:ByteArray).size<4294967281:=(by rw[z07];simpa[Lib.toLowerA] using hs);by_cases hn:z1R ((z1h (Lib.toLowerA s.data.toList)).getLastD [])=true
    ·have HNC:Hid (CB 144 #[.string ⟨(Lib.toLowerA s.data.toList).toArray⟩] W1 (.bool true)):=by
      have:=zg8 ⟨(Lib.toLowerA s.data.toList).toArray⟩ m W1 hsz HM.out;rw[show z1R ((z1h (⟨(Lib.toLowerA s.data.toList).toArray⟩:ByteArray).data.toList).getLastD [])=true from hn] at this;exact this
     have HN:=hI hn;clear hn;go_wp2_with fail;refine HNC.out.mono ?_;rintro e W2 ⟨rfl,b2⟩;have HV2:=hI (HV1.out.below b2);have hb2:=b1.trans (b2.mono b1.size);clear b1 b2 HNC;have HRC:=hI (zkR ⟨(Lib.toLowerA s.data.toList).toArray⟩ W2 hsz HV2.out);cases ho:ip4 (z1h (Lib.toLowerA s.data.toList)) with
     |none=>have HO:=hI ho;clear ho;go_wp2_with fail;refine HRC.out.mono ?_;rw[HO.out];rintro e W3 ⟨⟨te,ve,rfl⟩,b3⟩;go_wp2;go_ret2;refine⟨?_,hb2.trans (b3.mono hb2.size)⟩;unfold z14;rw[if_neg HNE.out,if_neg (by rw[HNB.out];simp),if_pos HN.out,HO.out];exact⟨_,_,rfl⟩
     |some n=>have HO:=hI ho;have hr:=zd7 _ n (z6y _) ho;clear ho;obtain⟨a,rfl⟩:∃a:Nat,n=a:=⟨n.toNat,by omega⟩;go_wp2_with fail;refine HRC.out.mono ?_;rw[HO.out];rintro e W3 ⟨rfl,b3⟩;have HV3:=hI (HV2.out.below b3);have hb3:=hb2.trans (b3.mono hb2.size);go_wp2_with fail;refine(zkK a (by omega) _ HV3.out).mono ?_;rintro e W4 ⟨rfl,b4⟩;go_wp2;go_ret2;refine⟨?_,hb3.trans (b4.mono hb3.size)⟩;unfold z14;rw[if_neg HNE.out,if_neg (by rw[HNB.out];simp),if_pos HN.out,HO.out];rfl
    ·have hn2:=Bool.eq_false_iff.2 hn
     have HNC:Hid (CB 144 #[.string ⟨(Lib.toLowerA s.data.toList).toArray⟩] W1 (.bool false)):=(by have:=zg8 ⟨(Lib.toLowerA s.data.toList).toArray⟩ m W1 hsz HM.out;rw[show z1R ((z1h (⟨(Lib.toLowerA s.data.toList).toArray⟩:ByteArray).data.toList).getLastD [])=false from hn2] at this;exact this);have HN:=hI hn2;clear hn hn2;go_wp2_with fail;refine HNC.out.mono ?_;rintro e W2 ⟨rfl,b2⟩;go_wp2;go_ret2;refine⟨?_,b1.trans (b2.mono b1.size)⟩;unfold z14;rw[if_neg HNE.out,if_neg (by rw[HNB.out];simp),if_neg (by rw[HN.out];simp)];rfl
end Go.Proofs
