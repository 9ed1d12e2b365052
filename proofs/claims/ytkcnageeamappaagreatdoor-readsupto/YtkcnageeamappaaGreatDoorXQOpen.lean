import Derived.Test.YtkcnageeamappaaGreatDoorXU27
import Derived.Carry
import Derived.Deep.Slices
import Derived.Deep.Strs
set_option maxHeartbeats 32000000
set_option maxRecDepth 8000
namespace Go.Proofs
open Go.RowKit Go.Moor Go.Proofs.Tryz
theorem znD (t:Bs) (w:World) (ht:t.length≤maxLen) (henv:Env2 w):CE 22 #[.string ⟨t.toArray⟩] w (z8J (z2T t)):=by
 cases ho:z2T t with
 |error n=>exact zmN t n w ho ht henv
 |ok a=>exact znT t a w ho ht henv
theorem zgF (o:Except Int Adr):∃(a0 a1 a2:ByteArray) (a3:Bool) (a4:ByteArray) (a5:Int) (a6:Bool) (a7:ByteArray) (a8:Bool) (a9:ByteArray) (a10:Bool) (a11:ByteArray) (n:Int),z8J o=.returned (.tuple #[.agg #[.string a0,.string a1,.string a2,.bool a3,.string a4,.int .i64 a5,.bool a6,.string a7,.bool a8,.string a9,.bool a10,.string a11],.int .i64 n]):=by
 cases o with
 |error n=>exact⟨_,_,_,_,_,_,_,_,_,_,_,_,n,rfl⟩
 |ok u=>exact⟨_,_,_,_,_,_,_,_,_,_,_,_,0,rfl⟩
theorem zbn (t:Bs) (w:World) (ht:t.length≤maxLen) (henv:Env2 w):CB 45 #[.string ⟨t.toArray⟩] w (.bool true):=by
 have HS1:Hid _:=znD t w ht henv;have HS2:Hid _:=fun W=>zmm t W ht;obtain⟨a0,a1,a2,a3,a4,a5,a6,a7,a8,a9,a10,a11,n,hsh⟩:=zgF (z2T t);rw[hsh] at HS1 HS2;obtain⟨pc,hpc⟩:∃pc:Array Value,pc=#[.string a0,.string a1,.string a2,.bool a3,.string a4,.int .i64 a5,.bool a6,.string a7,.bool a8,.string a9,.bool a10,.string a11]:=⟨_,rfl⟩;rw[←hpc] at HS1 HS2;have HPZ:Hid ((prog.info? 40).map (·.size)=some pc.size):=by show _=_;rw[hpc];exact zmz
 have HPO:Hid (pc.all (·.oneCell')=true):=by show _=_;rw[hpc];simp[Value.oneCell']
 have HPS:Hid (z0p.size=pc.size):=by show _=_;rw[hpc];rfl
 have HPC:=hI hpc;generalize(⟨t.toArray⟩:ByteArray)=tb at*;clear ht henv hsh hpc;go_enter func45,ntmps45;go_wp2_with fail;refine Calls.mono HS1 ?_;rintro e w1 ⟨rfl,b1⟩;have HN1:Hid ((w1.alloc (.cells z0p 40)).heap[w1.heap.size]?=some (.cells z0p 40 (0,0))):=z0K w1 _ _;obtain⟨V1,hV1⟩:∃V,V=(w1.alloc (.cells z0p 40)).setRow w1.heap.size pc:=⟨_,rfl⟩;have hc1:V1.heap[w1.heap.size]?=some (.cells pc 40 (0,0)):=by rw[hV1];exact z3a HN1 _
 have hb1:Below w.heap.size w V1:=by rw[hV1];exact below_setRow (b1.alloc b1.size _) b1.size _
 have HC1:Hid (∀W,Below V1.heap.size V1 W→W.heap[w1.heap.size]?=some (.cells pc 40 (0,0))):=fun W h=>(h.block _ (Array.getElem?_eq_some_iff.1 hc1).1).trans hc1;have HB1:=hI hb1;have HV1:=hI hV1;clear b1 hc1 hb1 hV1;go_wp2_with(refine wpList_store_row rfl 40 _ _ rfl w1.heap.size pc rfl rfl 40 z0p HN1 HPZ HPS HPO ?_);have hve:=HV1;unfold z0p at hve;rw[←hve];clear hve HV1 HN1;refine Calls.mono (HS2 V1) ?_;rintro e w2 ⟨rfl,b2⟩;have HN2:Hid ((w2.alloc (.cells z0p 40)).heap[w2.heap.size]?=some (.cells z0p 40 (0,0))):=z0K w2 _ _;obtain⟨V2,hV2⟩:∃V,V=(w2.alloc (.cells z0p 40)).setRow w2.heap.size pc:=⟨_,rfl⟩;have hc2:V2.heap[w2.heap.size]?=some (.cells pc 40 (0,0)):=by rw[hV2];exact z3a HN2 _
 have hb2:Below V1.heap.size V1 V2:=by rw[hV2];exact below_setRow (b2.alloc b2.size _) b2.size _
 have hd1:=HC1 V2 hb2;have HB2:Hid _:=HB1.out.trans (hb2.mono HB1.out.size);have HV2:=hI hV2;rw[HPC.out] at hc2 hd1;have s0:(a0.toList==a0.toList)=true:=by simp
 have s1:(a1.toList==a1.toList)=true:=by simp
 have s2:(a2.toList==a2.toList)=true:=by simp
 have s4:(a4.toList==a4.toList)=true:=by simp
 have s7:(a7.toList==a7.toList)=true:=by simp
 have s9:(a9.toList==a9.toList)=true:=by simp
 have s11:(a11.toList==a11.toList)=true:=by simp
 have c0:V2.cell? ⟨w1.heap.size,0,none⟩=some (.string a0):=z00 hd1 0;have c1:V2.cell? ⟨w1.heap.size,1,none⟩=some (.string a1):=z00 hd1 1;have c2:V2.cell? ⟨w1.heap.size,2,none⟩=some (.string a2):=z00 hd1 2;have c3:V2.cell? ⟨w1.heap.size,3,none⟩=some (.bool a3):=z00 hd1 3;have c4:V2.cell? ⟨w1.heap.size,4,none⟩=some (.string a4):=z00 hd1 4;have c5:V2.cell? ⟨w1.heap.size,5,none⟩=some (.int .i64 a5):=z00 hd1 5;have c6:V2.cell? ⟨w1.heap.size,6,none⟩=some (.bool a6):=z00 hd1 6;have c7:V2.cell? ⟨w1.heap.size,7,none⟩=some (.string a7):=z00 hd1 7;have c8:V2.cell? ⟨w1.heap.size,8,none⟩=some (.bool a8):=z00 hd1 8;have c9:V2.cell? ⟨w1.heap.size,9,none⟩=some (.string a9):=z00 hd1 9;have c10:V2.cell? ⟨w1.heap.size,10,none⟩=some (.bool a10):=z00 hd1 10;have c11:V2.cell? ⟨w1.heap.size,11,none⟩=some (.string a11):=z00 hd1 11;have d0:V2.cell? ⟨w2.heap.size,0,none⟩=some (.string a0):=z00 hc2 0;have d1:V2.cell? ⟨w2.heap.size,1,none⟩=some (.string a1):=z00 hc2 1;have d2:V2.cell? ⟨w2.heap.size,2,none⟩=some (.string a2):=z00 hc2 2;have d3:V2.cell? ⟨w2.heap.size,3,none⟩=some (.bool a3):=z00 hc2 3;have d4:V2.cell? ⟨w2.heap.size,4,none⟩=some (.string a4):=z00 hc2 4;have d5:V2.cell? ⟨w2.heap.size,5,none⟩=some (.int .i64 a5):=z00 hc2 5;have d6:V2.cell? ⟨w2.heap.size,6,none⟩=some (.bool a6):=z00 hc2 6;have d7:V2.cell? ⟨w2.heap.size,7,none⟩=some (.string a7):=z00 hc2 7;have d8:V2.cell? ⟨w2.heap.size,8,none⟩=some (.bool a8):=z00 hc2 8;have d9:V2.cell? ⟨w2.heap.size,9,none⟩=some (.string a9):=z00 hc2 9;have d10:V2.cell? ⟨w2.heap.size,10,none⟩=some (.bool a10):=z00 hc2 10;have d11:V2.cell? ⟨w2.heap.size,11,none⟩=some (.string a11):=z00 hc2 11;clear b2 hc2 hb2 hV2 hd1 HB1 HC1 HPC;go_upto_region 3 with(refine wpList_store_row rfl 40 _ _ rfl w2.heap.size pc rfl rfl 40 z0p HN2 HPZ HPS HPO ?_)
 have hve:=HV2;unfold z0p at hve;rw[←hve];clear hve HV2 HN2;go_wp2;go_ret;exact⟨rfl,HB2⟩
theorem zn2 (s:ByteArray) (sp:Bool) (w:World) (hs:s.size≤2097152) (henv:Env w) (htz:Tz w):CB 43 #[.string s,.bool sp] w (.bool true):=by
 by_cases hl:2000<s.size
 ·have HH:Hid _:=zmM s sp w hl (by unfold maxLen;omega)
  have hli:(2000:Int)<(s.size:Int):=by omega
  clear henv htz;go_enter func43,ntmps43;go_wp2_with fail;refine Calls.mono HH ?_;rintro e W0 ⟨rfl,hw0⟩;obtain rfl:=hw0.symm;go_wp2;go_ret;exact⟨rfl,Below.refl _ _⟩
 ·have HH:Hid _:=znW s sp w (by omega) henv htz
  have HR:=hI fun w1=>zcE s sp w1 (by omega);have hli:¬(2000:Int)<(s.size:Int):=by omega
  clear henv htz hl;cases ho:hostTell s.data.toList sp with
  |none=>rw[ho] at HH HR;clear ho;go_enter func43,ntmps43;go_wp2_with fail;refine Calls.mono HH ?_;rintro e w1 ⟨he,b1⟩;have he:e=.returned (.tuple #[.string ⟨#[]⟩,.int .i64 4]):=he;subst he;have HB1:=hI b1;clear b1;go_wp2_with fail;refine Calls.mono (HR w1) ?_;rintro e w2 ⟨⟨x,rfl⟩,b2⟩;have HB2:Hid _:=HB1.out.trans (b2.mono HB1.out.size);clear b2;go_wp2;go_ret;exact⟨rfl,HB2⟩
  |some t=>rw[ho] at HH HR;clear ho;obtain⟨tb,htb⟩:=z09 (⟨t.toArray⟩:ByteArray);have hself:(tb.toList==tb.toList)=true:=(by simp);have HTB:=hI htb;clear htb;go_enter func43,ntmps43;go_wp2_with fail;refine Calls.mono HH ?_;rintro e w1 ⟨he,b1⟩;have he:e=.returned (.tuple #[.string ⟨t.toArray⟩,.int .i64 0]):=he;rw[←HTB.out] at he;subst he;have HB1:=hI b1;clear b1;go_wp2_with fail;refine Calls.mono (HR w1) ?_;rintro e w2 ⟨he,b2⟩;have he:e=.returned (.tuple #[.string ⟨t.toArray⟩,.bool true]):=he;rw[←HTB.out] at he;subst he;have HB2:Hid _:=HB1.out.trans (b2.mono HB1.out.size);clear b2;go_wp2;go_ret;exact⟨rfl,HB2⟩
theorem znZ {w w':World} (h:Tz w) (hb:Below w.heap.size w w') (hz:29≤w.heap.size):Tz w':=by first|exact h.below hb hz|exact h.below hb
theorem zbQ (b:Value) (kind n:Int) (flag:Bool) (S T:ByteArray) (lv:Value) (w:World) (hk:kind≤3) (hS:S.size≤2097152) (henv:Env w) (htz:Tz w):CB 29 #[b,.agg #[.int .i64 kind,.int .i64 n,.bool flag,.string S,.string T,lv]] w (.bool true):=by
 obtain⟨W,hW⟩:=z09 (w.alloc (.cells #[.int .i64 kind,.int .i64 n,.bool flag,.string S,.string T,lv] 60));have hBW:Below w.heap.size w W:=by rw[hW];exact(Below.refl _ _).alloc (Nat.le_refl _) _
 have HBW:Hid (∀w1,Below W.heap.size W w1→Below w.heap.size w w1):=fun w1 b1=>hBW.trans (b1.mono hBW.size);have hEW:=henv.below hBW;have hTW:=znZ htz hBW henv.size;have hz:W.heap[w.heap.size]?=some (.cells #[.int .i64 kind,.int .i64 n,.bool flag,.string S,.string T,lv] 60 (0,0)):=by rw[hW];exact heap_alloc_new w _
 have hzs:=(Array.getElem?_eq_some_iff.1 hz).1;have HC:Hid (∀w1,Below W.heap.size W w1→w1.cell? ⟨w.heap.size,0,none⟩=some (.int .i64 kind)∧w1.cell? ⟨w.heap.size,1,none⟩=some (.int .i64 n)∧w1.cell? ⟨w.heap.size,2,none⟩=some (.bool flag)∧w1.cell? ⟨w.heap.size,3,none⟩=some (.string S)):=by intro w1 b1;have k:=(b1.block w.heap.size hzs).trans hz;unfold World.cell?;simp[k]
 have HZ:=hI hW;have HE1:=hI fun w1 b1=>zmh S n w1 (by omega) (hEW.below b1).sets (by have:=(hEW.below b1).size;omega);have HE2:=hI fun w1=>zb3 S n w1 (by omega);have HU1:Hid (∀w1,Below W.heap.size W w1→CB 41 #[.string S] w1 (.string ⟨(z0t S.data.toList).toArray⟩)):=fun w1 b1=>by
  obtain⟨m,hm⟩:=(hEW.below b1).maxLen;exact zkt S m w1 (by omega) hm (by have:=(hEW.below b1).size;omega)
 have HU2:=hI fun w1=>zjw S w1 (by omega);have HH1:Hid _:=zn2 S flag W hS hEW hTW;clear hEW hTW hBW hz hzs henv htz hS;have hWr:Hid (Below W.heap.size W W):=Below.refl _ _;obtain⟨c0,c1,c2,c3⟩:=HC W hWr.out;by_cases h1:kind=1
 ·subst h1
  obtain⟨tb,htb⟩:=z09 (⟨(esc n S.data.toList).toArray⟩:ByteArray);rw[←htb] at HE1 HE2;have hself:(tb.toList==tb.toList)=true:=by simp
  clear htb hW;go_enter func29,ntmps29;go_upto_region 1 with fail;rw[←HZ.out];go_wp2_with fail;refine Calls.mono (HE1 W hWr.out) ?_;rintro e w1 ⟨rfl,b1⟩;have HB1:=hI b1;obtain⟨d0,d1,d2,d3⟩:=HC w1 b1;clear b1 c0 c1 c2 c3;go_wp2_with fail;refine Calls.mono (HE2 w1) ?_;rintro e w2 ⟨rfl,b2⟩;have HB2:Hid _:=HB1.out.trans (b2.mono HB1.out.size);clear b2;go_wp2;go_ret;exact⟨rfl,HBW _ HB2⟩
 have e1:(kind==1)=false:=by rw[beq_eq_false_iff_ne];exact h1
 by_cases h2:kind=2
 ·subst h2
  obtain⟨tb,htb⟩:=z09 (⟨(z0t S.data.toList).toArray⟩:ByteArray);rw[←htb] at HU1 HU2;have hself:(tb.toList==tb.toList)=true:=by simp
  clear htb hW;go_enter func29,ntmps29;go_upto_region 1 with fail;rw[←HZ.out];go_wp2_with fail;refine Calls.mono (HU1 W hWr.out) ?_;rintro e w1 ⟨rfl,b1⟩;have HB1:=hI b1;obtain⟨d0,d1,d2,d3⟩:=HC w1 b1;clear b1 c0 c1 c2 c3;go_wp2_with fail;refine Calls.mono (HU2 w1) ?_;rintro e w2 ⟨rfl,b2⟩;have HB2:Hid _:=HB1.out.trans (b2.mono HB1.out.size);clear b2;go_wp2;go_ret;exact⟨rfl,HBW _ HB2⟩
 have e2:(kind==2)=false:=by rw[beq_eq_false_iff_ne];exact h2
 by_cases h3:kind=3
 ·subst h3
  clear hW;go_enter func29,ntmps29;go_upto_region 1 with fail;rw[←HZ.out];go_wp2_with fail;refine Calls.mono HH1 ?_;rintro e w1 ⟨rfl,b1⟩;have HB1:=hI b1;clear b1;go_wp2;go_ret;exact⟨rfl,HBW _ HB1⟩
 have e3:(kind==3)=false:=by rw[beq_eq_false_iff_ne];exact h3
 have e4:(kind==4)=false:=by rw[beq_eq_false_iff_ne];omega
 have e5:(kind==5)=false:=by rw[beq_eq_false_iff_ne];omega
 have e6:(kind==6)=false:=by rw[beq_eq_false_iff_ne];omega
 have e7:(kind==7)=false:=by rw[beq_eq_false_iff_ne];omega
 have e8:(kind==8)=false:=by rw[beq_eq_false_iff_ne];omega
 have e9:(kind==9)=false:=by rw[beq_eq_false_iff_ne];omega
 clear hW h1 h2 h3 hk;go_enter func29,ntmps29;go_upto_region 1 with fail;rw[←HZ.out];go_wp2;go_ret;exact⟨rfl,HBW _ hWr.out⟩
theorem zm7 (g:Nat) (w:World) (hc:w.cell? ⟨g,0,none⟩=some (.slice none 0 0)):C0 30 #[.pointer (some ⟨g,0,none⟩)] w (.bool true):=by
 go_enter func30,ntmps30;go_wp2_with fail;go_loopw [3] (fun i wr=>i=.int .i64 0∧wr=w) (fun _ _=>0)
 case atStart=>exact⟨rfl,rfl⟩
 case round=>obtain⟨rfl,hwr⟩:=hrel;obtain rfl:=hwr.symm;go_wp2;go_ret;exact⟨rfl,rfl⟩
structure OpV where
 kind:Int
 n:Int
 flag:Bool
 S:ByteArray
 T:ByteArray
 lv:Value
def zbR (w:World) (sp:Option Go.Addr) (os:List OpV):Prop:=∀(j:Nat) o,os[j]?=some o→∃g off,sp=some ⟨g,off,none⟩∧g<w.heap.size∧w.cell? ⟨g,off+j*6,none⟩=some (.int .i64 o.kind)∧w.cell? ⟨g,off+j*6+1,none⟩=some (.int .i64 o.n)∧w.cell? ⟨g,off+j*6+2,none⟩=some (.bool o.flag)∧w.cell? ⟨g,off+j*6+3,none⟩=some (.string o.S)∧w.cell? ⟨g,off+j*6+4,none⟩=some (.string o.T)∧w.cell? ⟨g,off+j*6+5,none⟩=some o.lv
theorem zbR.below {w w':World} {sp:Option Go.Addr} {os:List OpV} (h:zbR w sp os) (hb:Below w.heap.size w w'):zbR w' sp os:=by intro j o hj;obtain⟨g,off,h1,h2,c0,c1,c2,c3,c4,c5⟩:=h j o hj;exact⟨g,off,h1,Nat.lt_of_lt_of_le h2 hb.size,(hb.cell (by exact h2)).trans c0,(hb.cell (by exact h2)).trans c1,(hb.cell (by exact h2)).trans c2,(hb.cell (by exact h2)).trans c3,(hb.cell (by exact h2)).trans c4,(hb.cell (by exact h2)).trans c5⟩
theorem zgG (o:Except Int Bs):∃(x:ByteArray) (m:Int),z68 o=.returned (.tuple #[.string x,.int .i64 m]):=by
 cases o with
 |error n=>exact⟨_,_,rfl⟩
 |ok t=>exact⟨_,_,rfl⟩
theorem zfH (o:Except Int Adr):∃(x:ByteArray) (m:Int),z9U o=.returned (.tuple #[.string x,.int .i64 m]):=by
 cases o with
 |error n=>exact⟨_,_,rfl⟩
 |ok t=>exact⟨_,_,rfl⟩
theorem zmn (b:Value) (kind n:Int) (flag:Bool) (S T:ByteArray) (lv:Value) (w:World) (hk:kind≤6) (hS:S.size≤2097152) (hT:T.size≤2097152) (henv:Tryz.Env2 w):Calls Tryz.prog 29 #[b,.agg #[.int .i64 kind,.int .i64 n,.bool flag,.string S,.string T,lv]] w fun e w'=>e=.returned (.bool true)∧Below w.heap.size w w':=by
 by_cases hk3:kind≤3
 ·exact zbQ b kind n flag S T lv w hk3 hS henv.env henv.tz
 obtain⟨W,hW⟩:=z09 (w.alloc (.cells #[.int .i64 kind,.int .i64 n,.bool flag,.string S,.string T,lv] 60));have hBW:Below w.heap.size w W:=by rw[hW];exact(Below.refl _ _).alloc (Nat.le_refl _) _
 have HBW:Hid (∀w1,Below W.heap.size W w1→Below w.heap.size w w1):=fun w1 b1=>hBW.trans (b1.mono hBW.size);have hEW:=henv.below hBW;have hz:W.heap[w.heap.size]?=some (.cells #[.int .i64 kind,.int .i64 n,.bool flag,.string S,.string T,lv] 60 (0,0)):=by rw[hW];exact heap_alloc_new w _
 have hzs:=(Array.getElem?_eq_some_iff.1 hz).1;have HC:Hid (∀w1,Below W.heap.size W w1→w1.cell? ⟨w.heap.size,0,none⟩=some (.int .i64 kind)∧w1.cell? ⟨w.heap.size,3,none⟩=some (.string S)∧w1.cell? ⟨w.heap.size,4,none⟩=some (.string T)):=by intro w1 b1;have k:=(b1.block w.heap.size hzs).trans hz;unfold World.cell?;simp[k]
 have HZ:=hI hW;have hSl:S.data.toList.length≤maxLen:=by
  unfold maxLen;have:S.data.toList.length=S.size:=by rw[Array.length_toList];rfl
  omega
 have hTl:T.data.toList.length≤maxLen:=by
  unfold maxLen;have:T.data.toList.length=T.size:=by rw[Array.length_toList];rfl
  omega
 have HP1:Hid _:=zcr S.data.toList T.data.toList W hSl hTl hEW;have HP2:=hI fun w1=>zcf S.data.toList T.data.toList w1 hSl hTl;have HO1:Hid _:=zcg S.data.toList W hSl hEW;have HO2:=hI fun w1=>zbl S.data.toList w1 hSl;have HD1:Hid _:=zbn S.data.toList W hSl hEW;obtain⟨px,pm,hpx⟩:=zgG (z5H hostTell S.data.toList T.data.toList);obtain⟨ox,om,hox⟩:=zfH (z2T S.data.toList);rw[hpx] at HP1 HP2;rw[hox] at HO1 HO2;have hps:(px.toList==px.toList)=true:=by simp
 have hos:(ox.toList==ox.toList)=true:=by simp
 clear hEW hBW hz hzs henv hS hT hSl hTl hpx hox;have hWr:Hid (Below W.heap.size W W):=Below.refl _ _;obtain⟨c0,c3,c4⟩:=HC W hWr.out;have hcase:kind=4∨kind=5∨kind=6:=by omega
 clear hk hk3;rcases hcase with hk|hk|hk
 ·subst hk
  clear hW;go_enter Tryz.func29,Tryz.ntmps29;go_upto_region 1 with fail;rw[←HZ.out];go_wp2_with fail;refine Calls.mono HP1 ?_;rintro e w1 ⟨rfl,b1⟩;have HB1:=hI b1;obtain⟨d0,d3,d4⟩:=HC w1 b1;clear b1 c0 c3 c4;go_wp2_with fail;refine Calls.mono (HP2 w1) ?_;rintro e w2 ⟨rfl,b2⟩;have HB2:Hid _:=HB1.out.trans (b2.mono HB1.out.size);clear b2;go_wp2;go_ret;exact⟨rfl,HBW _ HB2⟩
 ·subst hk
  clear hW;go_enter Tryz.func29,Tryz.ntmps29;go_upto_region 1 with fail;rw[←HZ.out];go_wp2_with fail;refine Calls.mono HD1 ?_;rintro e w1 ⟨rfl,b1⟩;have HB1:=hI b1;clear b1;go_wp2;go_ret;exact⟨rfl,HBW _ HB1⟩
 ·subst hk
  clear hW;go_enter Tryz.func29,Tryz.ntmps29;go_upto_region 1 with fail;rw[←HZ.out];go_wp2_with fail;refine Calls.mono HO1 ?_;rintro e w1 ⟨rfl,b1⟩;have HB1:=hI b1;obtain⟨d0,d3,d4⟩:=HC w1 b1;clear b1 c0 c3 c4;go_wp2_with fail;refine Calls.mono (HO2 w1) ?_;rintro e w2 ⟨rfl,b2⟩;have HB2:Hid _:=HB1.out.trans (b2.mono HB1.out.size);clear b2;go_wp2;go_ret;exact⟨rfl,HBW _ HB2⟩
theorem zlS (sp:Option Go.Addr) (cap:Nat) (os:List OpV) (w:World) (hr:zbR w sp os) (hl:os.length≤2097152) (hS:∀o∈os,o.S.size≤2097152∧o.T.size≤2097152) (henv:Env2 w):CB 13 #[.slice sp os.length cap,.int .i64 6] w (.bool true):=by
 obtain⟨W,hW⟩:=z09 (w.alloc (.cells #[.slice none 0 0] 56));have hBW:Below w.heap.size w W:=by rw[hW];exact(Below.refl _ _).alloc (Nat.le_refl _) _
 have hz:W.heap[w.heap.size]?=some (.cells #[.slice none 0 0] 56 (0,0)):=by rw[hW];exact heap_alloc_new w _
 have hzs:=(Array.getElem?_eq_some_iff.1 hz).1;have HBW:Hid (∀w1,Below W.heap.size W w1→Below w.heap.size w w1):=fun w1 b1=>hBW.trans (b1.mono hBW.size);have hEW:=henv.below hBW;have HST:=
  hI fun b kind n flag S T lv w1 hk hS hT b1=>zmn b kind n flag S T lv w1 hk hS hT (hEW.below b1)
 have HLO:Hid (∀w1,Below W.heap.size W w1→C0 30 #[.pointer (some ⟨w.heap.size,0,none⟩)] w1 (.bool true)):=by intro w1 b1;refine zm7 w.heap.size w1 ?_;have k:=(b1.block w.heap.size hzs).trans hz;unfold World.cell?;simp[k]
 have HRW:=hI fun w1 b1=>hr.below (HBW w1 b1);have HSS:=hI hS;have HZ:=hI hW;clear hEW hBW hz hzs henv hS hW hr;go_enter func13,ntmps13;go_upto_region 2 with fail;rw[←HZ.out];go_wp2_with fail;refine Calls.mono (HST _ 3 0 true ⟨#[48,120,55,70,46,49]⟩ ⟨#[]⟩ (.slice none 0 0) W (by omega) (by decide) (by decide) (Below.refl _ _)) ?_;rintro e w1 ⟨rfl,b1⟩;have HB1:=hI b1;clear b1;go_wp2_with fail;refine Calls.mono (HST _ 1 1 false ⟨#[97,32,98]⟩ ⟨#[]⟩ (.slice none 0 0) w1 (by omega) (by decide) (by decide) HB1) ?_;rintro e w2 ⟨rfl,b2⟩;have HB2:Hid _:=HB1.out.trans (b2.mono HB1.out.size);clear b2;go_wp2_with fail;refine Calls.mono (HST _ _ _ _ _ _ _ w2 (by decide) (by decide) (by decide) HB2) ?_;rintro e w3 ⟨rfl,b3⟩;have HB3:Hid _:=HB2.out.trans (b3.mono HB2.out.size);clear b3;go_wp2_with fail;refine Calls.mono (HST _ _ _ _ _ _ _ w3 (by decide) (by decide) (by decide) HB3) ?_;rintro e w4 ⟨rfl,b4⟩;have HB4:Hid _:=HB3.out.trans (b4.mono HB3.out.size);clear b4;go_wp2_with fail;refine Calls.mono (HST _ _ _ _ _ _ _ w4 (by decide) (by decide) (by decide) HB4) ?_;rintro e w5 ⟨rfl,b5⟩;have HB5:Hid _:=HB4.out.trans (b5.mono HB4.out.size);clear b5;go_wp2_with fail;go_loopw [8,9] (fun o i wr=>∃q:Nat,q≤os.length∧i=.int .i64 (q:Nat)∧o=.bool true∧Below W.heap.size W wr) (fun _ i _=>os.length-(intOf i).toNat)
 case atStart=>exact⟨0,Nat.zero_le _,rfl,rfl,HB5⟩
 case round=>
  obtain⟨q,hq,rfl,rfl,hb⟩:=hrel;have HB:=hI hb;by_cases hlt:q<os.length
  ·obtain⟨o,ho⟩:∃o,os[q]?=some o:=⟨os[q],List.getElem?_eq_getElem hlt⟩
   obtain⟨g,off,hsp,hg,c0,c1,c2,c3,c4,c5⟩:=HRW wr hb q o ho;subst hsp;have hSz:=HSS o (List.mem_of_getElem? ho);obtain⟨kind,n,flag,S,T,lv⟩:=o;simp only at c0 c1 c2 c3 c4 c5 hSz;clear ho hb hg;by_cases hk:kind≤6
   ·have hki:¬(6:Int)<kind:=by omega
    go_wp2_with fail;refine Calls.mono (HST _ kind n flag S T lv wr hk hSz.1 hSz.2 HB) ?_;rintro e w6 ⟨rfl,b6⟩;have HB6:Hid _:=HB.out.trans (b6.mono HB.out.size);clear b6 c0 c1 c2 c3 c4 c5;go_wp2_with fail;refine Calls.mono (HLO w6 HB6) ?_;rintro e W0 ⟨rfl,hw0⟩;obtain rfl:=hw0.symm;go_wp2;go_roundw
    case rel=>exact⟨q+1,by omega,by go_num,rfl,HB6⟩
    case measure=>(simp[intOf];try omega)
   ·have hki:(6:Int)<kind:=by omega
    go_wp2;go_roundw
    case rel=>exact⟨q+1,by omega,by go_num,rfl,HB⟩
    case measure=>(simp[intOf];try omega)
  ·clear hb
   go_wp2;go_ret;exact⟨rfl,HBW _ HB⟩
theorem zcN (sp:Option Go.Addr) (cap:Nat) (os:List OpV) (w:World) (hr:zbR w sp os) (hl:os.length≤2097152) (hS:∀o∈os,o.S.size≤2097152∧o.T.size≤2097152) (henv:Env2 w):CB 6 #[.slice sp os.length cap] w (.bool true):=by have H:Hid _:=zlS sp cap os w hr hl hS henv;clear hr hS henv;go_enter func6,ntmps6;go_wp2_with fail;refine Calls.mono H ?_;rintro e w1 ⟨rfl,b1⟩;have HB1:=hI b1;clear b1;go_wp2;go_ret;exact⟨rfl,HB1⟩
end Go.Proofs
namespace Go.Proofs.YtkcnageeamappaaGreatDoor
open Go.Proofs.Tryz Go.ChangeShapes Go.WideShapes Go.ChangeAt Go.RowKit Go.Moor
theorem zlf {H:Type} (d:DataW H):1≤Rows.uptoBulk d:=by
 cases d with
 |lit l=>cases l<;>simp[Rows.uptoBulk]
 |_=>simp[Rows.uptoBulk]
theorem zh2 {H:Type} {d:DataW H}:∀{l:List (DataW H)},d∈l→Rows.uptoBulk d≤Rows.uptoBulkAll l
 | [],h=>by cases h
 |x::r,h=>by
  rw[Rows.uptoBulkAll];rcases List.mem_cons.1 h with rfl|h
  ·omega
  ·have:=zh2 h;omega
theorem zbS {H:Type}:∀l:List (DataW H),l.length≤Rows.uptoBulkAll l
 | []=>Nat.zero_le _
 |x::r=>by
  have h1:=zlf x;have h2:=zbS r;rw[Rows.uptoBulkAll,List.length_cons];omega
theorem zh3:prog.cellsOf 60=6:=by kernel_rfl
theorem zdc:prog.cellsOf 3=1:=by kernel_rfl
theorem zi0:prog.cellsOf 4=1:=by kernel_rfl
theorem zdd:prog.cellsOf 9=1:=by kernel_rfl
theorem zgk:prog.cellsOf 58=1:=by kernel_rfl
set_option maxRecDepth 100000 in
theorem znd {H:Type} {enc:TypeId×Value→H} {W:World} {n:Nat} {cs:List Value} {d:DataW H} {pl:List MemPlace} (h:DataW.trod enc prog W 0 (fun _=>true) true n 60 cs=some (d,pl)):∃(o:OpV) (d5:DataW H) (p5:List MemPlace) (m:Nat),cs=[.int .i64 o.kind,.int .i64 o.n,.bool o.flag,.string o.S,.string o.T,o.lv]∧d=.agg [.lit (.int .i64 o.kind),.lit (.int .i64 o.n),.lit (.bool o.flag),.lit (.string o.S.data.toList),.lit (.string o.T.data.toList),d5]∧DataW.trod enc prog W 0 (fun _=>true) true m 58 [o.lv]=some (d5,p5):=by
 obtain⟨xs,m,_,hx,hl,hlen,hf⟩:=DataW.trod_struct underlying60 h;rw[zh3] at hl;have hlen:xs.length=6:=hlen;match cs,hl,xs,hlen with
 | [c0,c1,c2,c3,c4,c5],_,[y0,y1,y2,y3,y4,y5],_=>
  have f0:DataW.trod enc prog W 0 (fun _=>true) true m 3 [c0]=some y0:=by have this:DataW.trod enc prog W 0 (fun _=>true) true m 3 (([c0,c1,c2,c3,c4,c5].drop 0).take (prog.cellsOf 3))=some y0:=hf 0 _ rfl;rw[zdc] at this;exact this
  have f1:DataW.trod enc prog W 0 (fun _=>true) true m 3 [c1]=some y1:=by have this:DataW.trod enc prog W 0 (fun _=>true) true m 3 (([c0,c1,c2,c3,c4,c5].drop 1).take (prog.cellsOf 3))=some y1:=hf 1 _ rfl;rw[zdc] at this;exact this
  have f2:DataW.trod enc prog W 0 (fun _=>true) true m 4 [c2]=some y2:=by have this:DataW.trod enc prog W 0 (fun _=>true) true m 4 (([c0,c1,c2,c3,c4,c5].drop 2).take (prog.cellsOf 4))=some y2:=hf 2 _ rfl;rw[zi0] at this;exact this
  have f3:DataW.trod enc prog W 0 (fun _=>true) true m 9 [c3]=some y3:=by have this:DataW.trod enc prog W 0 (fun _=>true) true m 9 (([c0,c1,c2,c3,c4,c5].drop 3).take (prog.cellsOf 9))=some y3:=hf 3 _ rfl;rw[zdd] at this;exact this
  have f4:DataW.trod enc prog W 0 (fun _=>true) true m 9 [c4]=some y4:=by have this:DataW.trod enc prog W 0 (fun _=>true) true m 9 (([c0,c1,c2,c3,c4,c5].drop 4).take (prog.cellsOf 9))=some y4:=hf 4 _ rfl;rw[zdd] at this;exact this
  have f5:DataW.trod enc prog W 0 (fun _=>true) true m 58 [c5]=some y5:=by have this:DataW.trod enc prog W 0 (fun _=>true) true m 58 (([c0,c1,c2,c3,c4,c5].drop 5).take (prog.cellsOf 58))=some y5:=hf 5 _ rfl;rw[zgk] at this;exact this
  obtain⟨k,e0,x0,_⟩:=DataW.trod_int underlying3 f0;obtain⟨n',e1,x1,_⟩:=DataW.trod_int underlying3 f1;obtain⟨b,e2,x2⟩:=DataW.trod_bool underlying4 f2;obtain⟨S,e3,x3,_⟩:=DataW.trod_string underlying9 f3;obtain⟨T,e4,x4,_⟩:=DataW.trod_string underlying9 f4;injection e0 with e0 _;injection e1 with e1 _;injection e2 with e2 _;injection e3 with e3 _;injection e4 with e4 _;subst e0 e1 e2 e3 e4 x0 x1 x2 x3 x4;refine⟨⟨k,n',b,S,T,c5⟩,y5.1,y5.2,m,rfl,?_,f5⟩;have:=congrArg Prod.fst hx;simpa using this
theorem z2P (g off k:Nat):(⟨g,off,none⟩:Go.Addr).add k=⟨g,off+k,none⟩:=by
 unfold Go.Addr.add;split
 ·rename_i h;rw[h];rfl
 ·rfl
theorem zjC {W:World} {a:Go.Addr} {v:Value} (h:W.cell? a=some v):a.spot=none∧a.block<W.heap.size:=by
 unfold World.cell? at h;constructor
 ·split at h
  ·split at h
   ·cases h
   ·rename_i h2;simpa using h2
  ·cases h
 ·by_cases hb:a.block<W.heap.size
  ·exact hb
  ·rw[Array.getElem?_eq_none (show W.heap.size≤a.block by omega)] at h
   simp at h
set_option maxRecDepth 100000 in
theorem zlg {H:Type} {enc:TypeId×Value→H} {W:World} {base:Nat} {v:Value} {d:DataW H} {p:List MemPlace} (hv:Value.okWide prog W .any base 22 v) (h0:DataW.Trod enc prog W 0 (fun _=>true) true 22 v d p) (hk:Rows.uptoBulk d≤1048576):∃(sp:Option Go.Addr) (cap:Nat) (os:List OpV),v=.slice sp os.length cap∧zbR W sp os∧os.length≤2097152∧∀o∈os,o.S.size≤2097152∧o.T.size≤2097152∧∃(d5:DataW H) (p5:List MemPlace) (m:Nat),DataW.trod enc prog W 0 (fun _=>true) true m 58 [o.lv]=some (d5,p5)∧Rows.uptoBulk d5≤1048576:=by
 obtain⟨a0,len,cap,rfl⟩:=okWide_slice underlying22 hv;obtain⟨fuel,hf⟩:=h0;rcases Go.Deep.open_slice underlying22 hf with⟨hcs,hx⟩|⟨a,len',cap',m,n,D,Pl,hcs,_,hl,hm,hmm,hx,hel⟩
 ·simp[Value.cells] at hcs
  obtain⟨rfl,rfl,rfl⟩:=hcs;exact⟨none,0,[],rfl,fun j o hj=>by simp at hj,by simp,fun o ho=>by cases ho⟩
 ·simp[Value.cells] at hcs
  obtain⟨rfl,rfl,rfl⟩:=hcs;simp only[if_true] at hmm;have each:∀i,i<len→∃q:OpV×DataW H×List MemPlace×Nat,(∀(i':Nat) c,[Value.int .i64 q.1.kind,.int .i64 q.1.n,.bool q.1.flag,.string q.1.S,.string q.1.T,q.1.lv][i']?=some c→W.cell? ((a.add (i*6)).add i')=some c)∧
    D i=.agg [.lit (.int .i64 q.1.kind),.lit (.int .i64 q.1.n),.lit (.bool q.1.flag),.lit (.string q.1.S.data.toList),.lit (.string q.1.T.data.toList),q.2.1]∧DataW.trod enc prog W 0 (fun _=>true) true q.2.2.2 58 [q.1.lv]=some (q.2.1,q.2.2.1):=by
   intro i hi;obtain⟨cs',h1,h2⟩:=hel i (by omega);rw[zh3] at h1;obtain⟨_,hlen,hc⟩:=World.cells?_some h1;obtain⟨o,d5,p5,m5,rfl,hd,h5⟩:=znd h2;refine⟨(o,d5,p5,m5),fun i' c hi'=>?_,hd,h5⟩;have hlt:i'<6:=by have:=(List.getElem?_eq_some_iff.1 hi').1;simpa using this
   rw[hc i' hlt,hi']
  have:Inhabited OpV:=⟨⟨0,0,false,⟨#[]⟩,⟨#[]⟩,.slice none 0 0⟩⟩;obtain⟨Q,hQ⟩:=Go.Deep.choose_lt (α:=OpV×DataW H×List MemPlace×Nat) each;have hd:d=.slice ((List.range len).map D) ((List.range (m- len)).map fun j=>D (len+j)):=congrArg Prod.fst hx;rw[hd,Rows.uptoBulk] at hk;have hcount:=zbS ((List.range len).map D);rw[List.length_map,List.length_range] at hcount;refine⟨some a,cap,(List.range len).map fun i=>(Q i).1,by simp,?_,by simp;omega,?_⟩
  ·intro j o hj
   have hjl:j<len:=(by have:=(List.getElem?_eq_some_iff.1 hj).1;simpa using this);rw[List.getElem?_map,List.getElem?_range hjl] at hj;simp only[Option.map_some,Option.some.injEq] at hj;subst hj;have hc:=(hQ j hjl).1;have h00:=(hQ 0 (by omega)).1 0 _ rfl;have hsa:=zjC h00;have hae:a=⟨a.block,a.off,none⟩:=by
    have:((a.add (0*6)).add 0)=a:=by rw[Nat.zero_mul];rfl
    rw[this] at hsa;cases a;simp at hsa;rw[hsa.1]
   have hbl:a.block<W.heap.size:=by
    have:((a.add (0*6)).add 0)=a:=by rw[Nat.zero_mul];rfl
    rw[this] at hsa;exact hsa.2
   generalize a.block=g at*;generalize a.off=off at*;subst hae;refine⟨g,off,rfl,hbl,?_,?_,?_,?_,?_,?_⟩
   ·have:=hc 0 _ rfl;rw[z2P,z2P] at this;exact this
   ·have:=hc 1 _ rfl;rw[z2P,z2P] at this;exact this
   ·have:=hc 2 _ rfl;rw[z2P,z2P] at this;exact this
   ·have:=hc 3 _ rfl;rw[z2P,z2P] at this;exact this
   ·have:=hc 4 _ rfl;rw[z2P,z2P] at this;exact this
   ·have:=hc 5 _ rfl;rw[z2P,z2P] at this;exact this
  ·intro o ho
   obtain⟨i,hi,rfl⟩:=List.mem_map.1 ho;have hil:=List.mem_range.1 hi;obtain⟨_,hD,h5⟩:=hQ i hil;have hb:=zh2 (List.mem_map.2 ⟨i,hi,rfl⟩:D i∈(List.range len).map D);rw[hD] at hb;simp only[Rows.uptoBulk,Rows.uptoBulkAll] at hb;have hs1:(Q i).1.S.data.toList.length=(Q i).1.S.size:=(by rw[Array.length_toList];rfl);have hs2:(Q i).1.T.data.toList.length=(Q i).1.T.size:=(by rw[Array.length_toList];rfl);rw[hs1,hs2] at hb;exact⟨by omega,by omega,_,_,_,h5,by omega⟩
end Go.Proofs.YtkcnageeamappaaGreatDoor
