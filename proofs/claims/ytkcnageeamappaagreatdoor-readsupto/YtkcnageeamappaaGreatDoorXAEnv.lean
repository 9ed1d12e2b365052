import Derived.Test.YtkcnageeamappaaGreatDoorXSIp6
import Derived.Lib.Replace
import Derived.Lib.CountLaws
import Derived.Lib.LastIndexByte
import Derived.Lib.SlTrimSet
import Derived.Shelf.Strings.SlTrimAscii
set_option maxHeartbeats 32000000
set_option maxRecDepth 8000
namespace Go.Proofs
open Go.RowKit Go.Moor Go.Proofs.Tryz
def Tryz.Tz (w:World):Prop:=w.cell? ⟨28,15,none⟩=some (.int .u8 4)
theorem Tryz.Tz.below {w w':World} (h:Tz w) (hb:Below w.heap.size w w') (hz:28<w.heap.size):Tz w':=by show _=_;rw[hb.cell (p:=⟨28,15,none⟩) hz];exact h
set_option maxRecDepth 100000 in
theorem zos (w:World) (h:Tz w):C0 314 #[.int .u64 16] w (.int .i64 4):=by
 have hc:w.cell? ⟨28,15,none⟩=some (.int .u8 4):=h;have h0:IntKind.u64.wrap (-16)=18446744073709551600:=by kernel_rfl
 have h1:bits .and .u64 16 18446744073709551600=16:=by kernel_rfl
 have h2:IntKind.u64.wrap 4573923408821661840=4573923408821661840:=by kernel_rfl
 clear h;go_enter func314,ntmps314;go_wp2;go_ret;exact⟨rfl,rfl⟩
theorem zp5 (w:World) (h:Tz w):C0 292 #[.int .u64 16] w (.int .i64 4):=by have H:=hI h;clear h;go_enter func292,ntmps292;go_wp2_with(go_at_call 314;refine(zos _ H).mono ?_;rintro e w' ⟨rfl,rfl⟩);go_ret;exact⟨rfl,rfl⟩
theorem zot (w:World):C0 291 #[.int .i64 16] w (.bool true):=by
 have h1:bits .and .i64 16 15=0:=by kernel_rfl
 go_enter func291,ntmps291;go_wp2;go_ret;exact⟨rfl,rfl⟩
theorem zlt (v:Nat) (h:v<65536):bits .and .u64 (v:Int) 15=((v%16:Nat):Int):=by rw[show(15:Int)=((15:Nat):Int) from rfl,u64_and_nat v 15 (by omega) (by omega),show(15:Nat)=2^4- 1 from rfl,Nat.and_two_pow_sub_one_eq_mod]
theorem zmb (m:Nat) (h:m<(⟨#[48,49,50,51,52,53,54,55,56,57,97,98,99,100,101,102,103,104,105,106,107,108,109,110,111,112,113,114,115,116,117,118,119,120,121,122]⟩:ByteArray).size) (h16:m<16):(⟨#[48,49,50,51,52,53,54,55,56,57,97,98,99,100,101,102,103,104,105,106,107,108,109,110,111,112,113,114,115,116,117,118,119,120,121,122]⟩:ByteArray)[m]=z1A m:=by
 match m,h16 with
 |0,_=>rfl
 |1,_=>rfl
 |2,_=>rfl
 |3,_=>rfl
 |4,_=>rfl
 |5,_=>rfl
 |6,_=>rfl
 |7,_=>rfl
 |8,_=>rfl
 |9,_=>rfl
 |10,_=>rfl
 |11,_=>rfl
 |12,_=>rfl
 |13,_=>rfl
 |14,_=>rfl
 |15,_=>rfl
 |m+16,h=>exact absurd h (by omega)
theorem zp6:prog.arrayLen 285=65:=by kernel_rfl
theorem zoK:prog.elem 285=5:=by kernel_rfl
theorem zou:prog.underlying 285=some (.array (prog.arrayLen 285) (prog.elem 285)):=by rw[zp6,zoK];exact underlying285
theorem zoL:(prog.info? 5).map (·.size)=some 1:=by kernel_rfl
theorem zo1 (w:World):(sizeOf 5).run prog w=.ok 1 w:=by
 have h:=zoL;cases hq:prog.info? 5 with
 |none=>rw[hq] at h;simp at h
 |some i=>
  rw[hq] at h;have:i.size=1:=by simpa using h
  simp[sizeOf,typeInfo,hq,this]
theorem zlu (g d n:Nat) (hd:d<65) (hn:d+n=65) (w:World):(Instr.sliceAt 285 (.pointer (some ⟨g,0,none⟩)) (some (.int .i64 d)) none none).run prog w=.ok (.slice (some ⟨g,d,none⟩) n n) w:=by rw[run_sliceAt_array_l w 285 ⟨g,0,none⟩ zou .i64 d (by omega) (by rw[zp6];omega),zoK,zo1,zp6];simp only[Result.andThen,slicedAt,Int.toNat_natCast,Nat.mul_one];rw[if_neg (by omega),show(⟨g,0,none⟩:Addr).add d=⟨g,d,none⟩ by unfold Addr.add;split<;>simp_all,show 65- d=n by omega]
set_option maxRecDepth 100000 in
theorem znf (u:Nat) (hu:u<65536) (w:World) (henv:Env w) (htz:Tz w):CB 257 #[.slice none 0 0,.int .u64 u,.int .i64 16,.bool false,.bool false] w (.tuple #[.slice none 0 0,.string ⟨(z0O 16 3 u).toArray⟩]):=by
 have HV:=hI henv;have HT:=hI htz;have HT1:Hid (Tz (w.alloc (.cells zeroCells285 285))):=HT.out.below ((Below.refl _ w).alloc (Nat.le_refl _) _) (by have:=HV.out.size;omega);clear henv htz;go_enter func257,ntmps257;go_wp2_with fail;refine(zot _).mono ?_;rintro e w1 ⟨rfl,hw1⟩;obtain rfl:=hw1.symm;go_wp2_with fail;refine(zp5 _ HT1.out).mono ?_;rintro e w1 ⟨rfl,hw1⟩;obtain rfl:=hw1.symm;go_wp2;go_loopw [1,13] (fun t i wr=>∃(v k n:Nat) (ds:List UInt8),t=.int .u64 v∧i=.int .i64 n∧n+k=65∧k≤3∧ds.length=k∧v<16^(4- k)∧z0O 16 (3- k) v++ds=z0O 16 3 u∧(∀j,j<65→(wr.cell? ⟨w.heap.size,j,none⟩).isSome=true)∧(∀j,j<65→wr.frozen? ⟨w.heap.size,j,none⟩=false)∧(∀(j:Nat) x,ds[j]?=some x→wr.cell? ⟨w.heap.size,n+j,none⟩=some (.int .u8 (x.toNat:Int)))∧Below w.heap.size w wr) (fun t _ _=>(intOf t).toNat)
 case atStart=>
  refine⟨u,0,65,[],rfl,rfl,rfl,by omega,rfl,by simpa using hu,by simp,?_,?_,by simp,(Below.refl _ w).alloc (Nat.le_refl _) _⟩
  ·intro j hj
   rw[World.cell?_alloc_new];simp;exact hj
  ·intro j hj
   exact World.frozen?_alloc_new _ _ _ _
 case round=>
  obtain⟨v,k,n,ds,rfl,rfl,hnk,hk3,hdl,hv,hdig,hcs,hfs,hcl,hbw⟩:=hrel;have HDIG:=hI hdig;have HCS:=hI hcs;have HFS:=hI hfs;have HCL:=hI hcl;have HV4:=hI hv;have hv5:v<65536:=Nat.lt_of_lt_of_le hv (by
   have:k=0∨k=1∨k=2∨k=3:=by omega
   rcases this with rfl|rfl|rfl|rfl<;>decide)
  obtain⟨p,rfl⟩:∃p,n=p+1:=⟨n- 1,by omega⟩;obtain⟨c,hc⟩:=Option.isSome_iff_exists.1 (hcs p (by omega));have hf:=hfs p (by omega);have hp65:p<65:=by omega
  clear hdig hcs hfs hcl hv;by_cases h16:16≤v
  ·have HA:=hI (zlt v hv5)
   have hA:=HA.out;go_wp2;go_roundw
   case rel=>
    have hk2:k≤2:=by
     rcases(show k≤2∨k=3 by omega) with h|h
     ·exact h
     ·exfalso
      have h3:=HV4.out;rw[h] at h3;have h4:=h3;omega
    refine⟨v/16,k+1,p,z1A (v%16)::ds,by simp,rfl,by omega,by omega,by simp[hdl],?_,?_,?_,?_,?_,hbw.setCell (Nat.le_refl _) _⟩
    ·have h1:=HV4.out
     rw[show 4- k=(4-(k+1))+1 by omega,Nat.pow_succ] at h1;rw[Nat.mul_comm] at h1;exact Nat.div_lt_of_lt_mul h1
    ·have h1:=HDIG.out
     rw[show 3- k=(3-(k+1))+1 by omega,z0O,if_neg (by omega),List.append_assoc] at h1;exact h1
    ·intro j hj
     by_cases hjp:j=p
     ·subst hjp
      rw[World.cell?_setCell_same _ _ _ hc];rfl
     ·rw[World.cell?_setCell_other _ _ _ _ (by intro h;cases h;exact hjp rfl)]
      exact HCS.out j hj
    ·intro j hj
     rw[World.frozen?_setCell];exact HFS.out j hj
    ·intro j x hx
     match j,hx with
     |0,hx=>simp at hx;subst hx;exact(World.cell?_setCell_same _ _ _ hc).trans (by rw[zmb _ _ (by omega)])
     |j+1,hx=>rw[World.cell?_setCell_other _ _ _ _ (by intro h;cases h),show p+(j+1)=p+1+j by omega];exact HCL.out j x (by simpa using hx)
   case measure=>simp[intOf];omega
  ·have hs36:v<(⟨#[48,49,50,51,52,53,54,55,56,57,97,98,99,100,101,102,103,104,105,106,107,108,109,110,111,112,113,114,115,116,117,118,119,120,121,122]⟩:ByteArray).size:=by show v<36;omega
   have hsl:=zlu w.heap.size p (k+1) (by omega) (by omega) (wr.setCell ⟨w.heap.size,p,none⟩ (.int .u8 ((⟨#[48,49,50,51,52,53,54,55,56,57,97,98,99,100,101,102,103,104,105,106,107,108,109,110,111,112,113,114,115,116,117,118,119,120,121,122]⟩:ByteArray)[v].toNat:Int)));have hcv:(convert 47 9 (.slice (some ⟨w.heap.size,p,none⟩) (k+1) (k+1))).run prog (wr.setCell ⟨w.heap.size,p,none⟩ (.int .u8 ((⟨#[48,49,50,51,52,53,54,55,56,57,97,98,99,100,101,102,103,104,105,106,107,108,109,110,111,112,113,114,115,116,117,118,119,120,121,122]⟩:ByteArray)[v].toNat:Int)))=.ok (.string ⟨(z1A v::ds).toArray⟩) (wr.setCell ⟨w.heap.size,p,none⟩ (.int .u8 ((⟨#[48,49,50,51,52,53,54,55,56,57,97,98,99,100,101,102,103,104,105,106,107,108,109,110,111,112,113,114,115,116,117,118,119,120,121,122]⟩:ByteArray)[v].toNat:Int))):=by
    have h:=run_convert_bytes_back (P:=prog) (wr.setCell ⟨w.heap.size,p,none⟩ (.int .u8 ((⟨#[48,49,50,51,52,53,54,55,56,57,97,98,99,100,101,102,103,104,105,106,107,108,109,110,111,112,113,114,115,116,117,118,119,120,121,122]⟩:ByteArray)[v].toNat:Int))) 47 9 5 ⟨w.heap.size,p,none⟩ (k+1) (z1A v::ds) underlying47 underlying5 underlying9 (fun j hj=>by
     rw[show(⟨w.heap.size,p,none⟩:Addr).add j=⟨w.heap.size,p+j,none⟩ by unfold Addr.add;split<;>simp_all];match j,hj with
     |0,_=>exact(World.cell?_setCell_same _ _ _ hc).trans (by rw[zmb _ _ (by omega)];rfl)
     |j+1,hj=>
      rw[World.cell?_setCell_other _ _ _ _ (by intro h;cases h),show p+(j+1)=p+1+j by omega];exact HCL.out j _ (by simp))
    rw[List.length_cons,hdl] at h;exact h
   have HFIN:Hid (z1A v::ds=z0O 16 3 u):=by
    show _=_;rw[←HDIG.out];have:z0O 16 (3- k) v=[z1A v]:=by
     cases h3:3- k with
     |zero=>rfl
     |succ m=>unfold z0O;rw[if_pos (by omega)]
    rw[this];rfl
   go_wp2;go_ret2;refine⟨?_,hbw.setCell (Nat.le_refl _) _⟩;rw[HFIN.out];rfl
theorem zlv (u:Nat) (hu:u<65536) (w:World) (henv:Env w) (htz:Tz w):CB 239 #[.int .u64 u,.int .i64 16] w (.string ⟨(z0O 16 3 u).toArray⟩):=by have HV:=hI henv;have HT:=hI htz;clear henv htz;go_enter func239,ntmps239;go_wp2_with fail;refine(znf u hu _ HV HT).mono ?_;rintro e w' ⟨rfl,hb⟩;go_wp2;go_ret;exact⟨rfl,hb⟩
theorem zng (u:Nat) (hu:u<65536) (w:World) (henv:Env w) (htz:Tz w):CB 203 #[.int .u64 u,.int .i64 16] w (.string ⟨(z0O 16 3 u).toArray⟩):=by have HV:=hI henv;have HT:=hI htz;clear henv htz;go_enter func203,ntmps203;go_wp2_with fail;refine(zlv u hu _ HV HT).mono ?_;rintro e w' ⟨rfl,hb⟩;go_wp2;go_ret;exact⟨rfl,hb⟩
end Go.Proofs
namespace Go.Proofs.YtkcnageeamappaaGreatDoor
open Go.Proofs.Tryz Go.ChangeShapes Go.WideShapes Go.ChangeAt Go.RowKit Go.Moor
def tab64:List Int:=[0,1,56,2,57,49,28,3,61,58,42,50,38,29,17,4,62,47,59,36,45,43,51,22,53,39,33,30,24,18,12,5,63,55,48,27,60,41,37,16,46,35,44,21,52,32,23,11,54,26,40,15,34,20,31,10,25,14,19,9,13,8,7,6]
theorem gTz:prog.globalNamed "math/bits.deBruijn64tab" =some 28:=by kernel_rfl
theorem zpr:(prog.globals[28]?).map (·.type)=some 313:=by kernel_rfl
theorem z7w:prog.cellsOf 5=1:=by kernel_rfl
theorem zmP:prog.cellsOf 313=64:=by kernel_rfl
theorem zmQ:(Rows.laid_math_bits_deBruijn64tab:DataW Unit)=Lib.tabData .u8 tab64:=by kernel_rfl
theorem zgb {W:World} (h:Lib.VarReads prog W "math/bits.deBruijn64tab" Rows.laid_math_bits_deBruijn64tab):Tz W:=by obtain⟨g',t',cs,fuel,p,hg',ht',hvar,hd⟩:=h;obtain rfl:=Option.some.inj (gTz.symm.trans hg');obtain rfl:=Option.some.inj (zpr.symm.trans ht');rw[zmQ] at hd;have h3:=Lib.cells_of_tab underlying313 underlying5 z7w zmP hd;show _=_;rw[World.var?_cell gTz hvar 15,←Array.getElem?_toList,h3];rfl
end Go.Proofs.YtkcnageeamappaaGreatDoor
namespace Go.Moor
open Go
abbrev Bs:=List UInt8
structure Auth where
 user:Bs
 pass:Bs
 has:Bool
 host:Bs
 port:Int
structure Way where
 opaq:Bool
 text:Bs
 segs:List Bs
structure Adr where
 scheme:Bs
 auth:Auth
 way:Way
 query:Option Bs
 frag:Option Bs
structure Cuts where
 scheme:Bs
 middle:Bs
 query:Option Bs
 frag:Option Bs
def noAuth:Auth:=⟨[],[],false,[], -1⟩
def z18 (c:UInt8):Bool:=(decide (65≤c.toNat)&&decide (c.toNat≤90))||(decide (97≤c.toNat)&&decide (c.toNat≤122))
def z1D (c:UInt8):Bool:=z18 c||(decide (48≤c.toNat)&&decide (c.toNat≤57))||c==43||c==45||c==46
def z4Q:Bs→Bool
 | []=>false
 |c::_=>z18 c
def z0W (l:Bs):Bool:=z4Q l&&l.all z1D
def zek:Bs:=[104,116,116,112]
def zbt:Bs:=[104,116,116,112,115]
def sWs:Bs:=[119,115]
def zhr:Bs:=[119,115,115]
def zhs:Bs:=[102,116,112]
def sFile:Bs:=[102,105,108,101]
def z1z (s:Bs):Int×Bool:=
 if s=zek∨s=sWs then(80,true)
 else if s=zbt∨s=zhr then(443,true)
 else if s=zhs then(21,true)
 else if s=sFile then(-1,true)
 else(-1,false)
def z0b (s:Bs):Bool:=(z1z s).2
def z0q (s:Bs):Int:=if z0b s then 3 else 2
def z1a (c:UInt8):Bs→Option (Bs×Bs)
 | []=>none
 |b::l=>if b=c then some ([],l) else(z1a c l).map fun p=>(b::p.1,p.2)
def z0k (t:Bs):Bs×Bs:=
 match z1a 58 t with
 |some (n,r)=>if z0W n then(Lib.toLowerA n,r) else([],t)
 |none=>([],t)
def z0i (c:UInt8) (t:Bs):Bs×Option Bs:=
 match z1a c t with
 |some (a,b)=>(a,some b)
 |none=>(t,none)
def z1K (t:Bs):Cuts:=
 let s:=z0k t;let f:=z0i 35 s.2;let q:=z0i 63 f.1;⟨s.1,q.1,q.2,f.2⟩
def blankB (c:UInt8):Bool:=decide (c.toNat<33)
def z4R (c:UInt8):Bool:=c==9||c==10||c==13
def z3N (p:UInt8→Bool) (l:Bs):Bs:=((l.dropWhile p).reverse.dropWhile p).reverse
def z24 (t:Bs):Bs:=(z3N blankB t).filter fun c=>!z4R c
def z02 (s t:Bs):Bs:=if z0b s then t.map fun c=>if c=92 then 47 else c else t
def z0l (t:Bs):Bs×Bs:=(t.takeWhile (·≠47),t.dropWhile (·≠47))
def z0v (t:Bs):Bs:=match t with|47::l=>l|l=>l
def z0r:Bs→Bs
 |37::50::69::l=>37::50::101::z0r l
 |c::l=>c::z0r l
 | []=>[]
def z1V (p:Bs):Nat:=
 let l:=z0r p
 if l=[46]∨l=[37,50,101] then 1
 else if l=[46,46]∨l=[46,37,50,101]∨l=[37,50,101,46]∨l=[37,50,101,37,50,101] then 2
 else 0
def z0h:Bs→Bool
 | [a,b]=>z18 a&&(b==58||b==124)
 |_=>false
def z15 (l:Bs):Bool:=z0h l&&l.getD 1 0==58
def z08 (s:Bs) (segs:List Bs):List Bs:=
 if segs.length=1∧s=sFile∧z15 (segs.headD [])=true then segs else segs.dropLast
def z2G (s p:Bs) (first:Bool):Bs:=if first&&decide (s=sFile)&&z0h p then p.take 1++ [58] else esc 4 p
def z0R (s:Bs):List Bs→List Bs→List Bs
 |segs,[]=>segs
 |segs,p::l=>
  if z1V p=0 then z0R s (segs++ [z2G s p segs.isEmpty]) l
  else z0R s ((if z1V p=2 then z08 s segs else segs)++(if l.isEmpty then [[]] else [])) l
def z0z (s:Bs) (begun:List Bs) (t:Bs):List Bs:=
 if t=[]∧z0b s=false then begun else z0R s begun (z0a 47 (z0v t))
def z0M (s:Bs) (begun:List Bs) (t:Bs):Way:=⟨false,[],z0z s begun t⟩
def z3P (c:UInt8) (t:Bs):Option (Bs×Bs):=(z1a c t.reverse).map fun p=>(p.2.reverse,p.1.reverse)
def z0u (t:Bs):Bs×Bs:=
 match z3P 64 t with
 |some (a,b)=>(a,b)
 |none=>([],t)
def z2h (t:Bs):Nat:=if t.head? =some 91 then(match z1a 93 t with|some (a,_)=>a.length+1|none=>0) else 0
def z10 (t:Bs):Bs×Bs:=
 match z1a 58 (t.drop (z2h t)) with
 |some (a,b)=>(t.take (z2h t)++a,b)
 |none=>(t,[])
def z1g:Nat→Bs→Nat
 |n,[]=>n
 |n,c::l=>z1g (n*10+(c.toNat- 48)) l
def z2R (c:UInt8):Bool:=decide (48≤c.toNat)&&decide (c.toNat≤57)
def z1o (t s:Bs):Option Int:=
 if t=[] then some (-1)
 else if t.all z2R&&decide (z1g 0 t≤65535) then(if(z1g 0 t:Int)=(z1z s).1 then some (-1) else some (z1g 0 t))
 else none
section
variable (H : Bs → Bool → Option Bs)
def z1W (t authority s:Bs):Option Bs:=if t=[]∧authority≠[] then none else H t (z0b s)
def z2i (t s:Bs):Except Int Auth:=
 let lp:=z0u t;let up:=z0i 58 lp.1;let hp:=z10 lp.2;match z1W H hp.1 t s with
 |none=>.error 4
 |some h=>match z1o hp.2 s with
  |none=>.error 5
  |some p=>.ok ⟨esc 5 up.1,esc 5 (up.2.getD []),true,h,p⟩
def z0Q (s t:Bs):Except Int (Auth×Way):=
 let c:=z0l t;match z2i H c.1 s with
 | .error e=>.error e
 | .ok a=>.ok (a,z0M s [] c.2)
def z1v (t:Bs):Option Bs:=
 if t=[] then some [] else match H t true with
  |none=>none
  |some h=>if h=[108,111,99,97,108,104,111,115,116] then some [] else some h
def z1P (h:Bs):Auth:=⟨[],[],true,h, -1⟩
def z2X (s m:Bs) (q:Option Bs) (base:Adr):Way×Option Bs:=
 if m≠[] then(z0M s (z08 s base.way.segs) m,q) else(base.way,if q.isSome then q else base.query)
def z13 (segs:List Bs):List Bs:=if segs.length>0∧z15 (segs.headD [])=true then segs.take 1 else []
def z1Q (m:Bs) (q:Option Bs) (base:Option Adr):Except Int (Auth×Way×Option Bs):=
 if [47,47].isPrefixOf m then
  let c:=z0l (m.drop 2)
  if z0h c.1 then .ok (z1P [],z0M sFile [] (m.drop 2),q)
  else match z1v H c.1 with
   |none=>.error 4
   |some h=>.ok (z1P h,z0M sFile [] c.2,q)
 else match base with
  |none=>.ok (z1P [],z0M sFile [] m,q)
  |some b=>
   if z0h (z0l (z0v m)).1 then .ok (z1P b.auth.host,z0M sFile [] m,q)
   else if m.head? =some 47 then .ok (z1P b.auth.host,z0M sFile (z13 b.way.segs) m,q)
   else let g:=z2X sFile m q b
    .ok (z1P b.auth.host,g.1,g.2)
def z0x (t:Bs):Bs:=t.dropWhile (·=47)
def z0X (t:Bs):Bs:=(esc 0 t).flatMap fun c=>if c=32 then [37,50,48] else [c]
def z0U (s m:Bs) (q:Option Bs) (b:Adr):Except Int (Auth×Way×Option Bs):=
 if [47,47].isPrefixOf m then
  match z0Q H s (if z0b s then z0x (m.drop 2) else m.drop 2) with
  | .error e=>.error e
  | .ok (a,w)=>.ok (a,w,q)
 else if m.head? =some 47 then .ok (b.auth,z0M s [] m,q)
 else let g:=z2X s m q b
  .ok (b.auth,g.1,g.2)
def z1l (s m:Bs):Except Int (Auth×Way):=
 if [47,47].isPrefixOf m then z0Q H s (m.drop 2)
 else if m.head? =some 47 then .ok (noAuth,z0M s [] m)
 else .ok (noAuth,⟨true,z0X m,[]⟩)
def z17 (s m:Bs) (q:Option Bs) (base:Option Adr):Except Int (Auth×Way×Option Bs):=
 if s=sFile then z1Q H m q base
 else match base with
  |some b=>z0U H s m q b
  |none=>match(if z0b s then z0Q H s (z0x m) else z1l H s m) with
   | .error e=>.error e
   | .ok (a,w)=>.ok (a,w,q)
def z1p (s m:Bs) (q f:Option Bs) (base:Option Adr):Except Int Adr:=
 match z17 H s (z02 s m) (q.map (esc (z0q s))) base with
 | .error e=>.error e
 | .ok (a,w,q2)=>.ok ⟨s,a,w,q2,f.map (esc 1)⟩
def z3o (c:Cuts) (base:Option Adr):Except Int Adr:=
 if c.scheme≠[] then
  z1p H c.scheme c.middle c.query c.frag (base.bind fun b=>if b.scheme=c.scheme∧z0b c.scheme=true then some b else none)
 else match base with
  |none=>.error 3
  |some b=>
   if b.way.opaq then(if c.middle=[]∧c.query=none∧c.frag.isSome then .ok {b with frag:=c.frag.map (esc 1)} else .error 3)
   else z1p H b.scheme c.middle c.query c.frag (some b)
def z0C (t:Bs) (base:Option Adr):Except Int Adr:=z3o H (z1K (z24 t)) base
def z1c (t base:Bs):Except Int Adr:=
 if base=[] then z0C H t none
 else match z0C H base none with
  | .error _=>.error 2
  | .ok b=>z0C H t (some b)
end
def z42 (p:Int):Bs:=Lib.decDigits p.toNat
def z1m (a:Auth):Bs:=if a.port= -1 then a.host else a.host++58::z42 a.port
def z16 (a:Auth):Bs:=if a.pass≠[] then a.user++58::(a.pass++ [64]) else if a.user≠[] then a.user++ [64] else []
def z3K (a:Auth):Bs:=if a.has then 47::47::(z16 a++z1m a) else []
def z0F (l:List Bs):Bs:=l.flatMap fun p=>47::p
def z1X (w:Way):Bs:=if w.opaq then w.text else z0F w.segs
def z3h (a:Adr):Bs:=if a.auth.has=false∧1<a.way.segs.length∧a.way.segs.head? =some [] then [47,46] else []
def z1b (c:UInt8):Option Bs→Bs
 |none=>[]
 |some t=>c::t
def z3p (a:Adr):Bs:=a.scheme++58::(z3K a.auth++(z3h a++(z1X a.way++(z1b 63 a.query++z1b 35 a.frag))))
def z5H (H:Bs→Bool→Option Bs) (t base:Bs):Except Int Bs:=
 if t.length>2000∨base.length>2000 then .error 1
 else match z1c H t base with
  | .error e=>.error e
  | .ok a=>.ok (z3p a)
end Go.Moor
namespace Go.Proofs
open Go.RowKit Go.Moor Go.Proofs.Tryz
theorem z5f (s:ByteArray) (l:List UInt8) (h:¬s.data.toList=l):(s.toList==l)=false:=by rw[beq_eq_false_iff_ne,Lib.toList_data];exact h
theorem z5g (s:ByteArray) (l:List UInt8) (h:s.data.toList=l):s=⟨l.toArray⟩:=by rw[←h]
theorem zkz (s:ByteArray) (w:World):C0 185 #[.string s] w (.tuple #[.int .i64 (z1z s.data.toList).1,.bool (z1z s.data.toList).2]):=by
 by_cases h1:s.data.toList=zek
 ·rw[z5g s _ h1]
  go_enter func185,ntmps185;go_wp2;go_ret2;exact⟨rfl,rfl⟩
 by_cases h2:s.data.toList=sWs
 ·rw[z5g s _ h2]
  go_enter func185,ntmps185;go_wp2;go_ret2;exact⟨rfl,rfl⟩
 by_cases h3:s.data.toList=zbt
 ·rw[z5g s _ h3]
  go_enter func185,ntmps185;go_wp2;go_ret2;exact⟨rfl,rfl⟩
 by_cases h4:s.data.toList=zhr
 ·rw[z5g s _ h4]
  go_enter func185,ntmps185;go_wp2;go_ret2;exact⟨rfl,rfl⟩
 by_cases h5:s.data.toList=zhs
 ·rw[z5g s _ h5]
  go_enter func185,ntmps185;go_wp2;go_ret2;exact⟨rfl,rfl⟩
 by_cases h6:s.data.toList=sFile
 ·rw[z5g s _ h6]
  go_enter func185,ntmps185;go_wp2;go_ret2;exact⟨rfl,rfl⟩
 have HE:Hid (z1z s.data.toList=(-1,false)):=by show _=_;unfold z1z;rw[if_neg (by simp[h1,h2]),if_neg (by simp[h3,h4]),if_neg h5,if_neg h6]
 have e1:(s.toList==[104,116,116,112])=false:=z5f s _ h1;have e2:(s.toList==[119,115])=false:=z5f s _ h2;have e3:(s.toList==[104,116,116,112,115])=false:=z5f s _ h3;have e4:(s.toList==[119,115,115])=false:=z5f s _ h4;have e5:(s.toList==[102,116,112])=false:=z5f s _ h5;have e6:(s.toList==[102,105,108,101])=false:=z5f s _ h6;clear h1 h2 h3 h4 h5 h6;go_enter func185,ntmps185;go_wp2;go_ret2;rw[HE.out];exact⟨rfl,rfl⟩
theorem z9l (s:ByteArray) (w:World):C0 126 #[.string s] w (.bool (z0b s.data.toList)):=by go_enter func126,ntmps126;go_wp2_with fail;refine(zkz s _).mono ?_;rintro e w' ⟨rfl,rfl⟩;go_wp2;go_ret;exact⟨rfl,rfl⟩
theorem za5 (s:ByteArray) (w:World):C0 104 #[.string s] w (.int .i64 (z0q s.data.toList)):=by
 cases h:z0b s.data.toList with
 |true=>
  have HQ:Hid (z0q s.data.toList=3):=by show _=_;unfold z0q;rw[if_pos h]
  go_enter func104,ntmps104;go_wp2_with fail;refine(z9l s _).mono ?_;rw[h];rintro e w' ⟨rfl,rfl⟩;go_wp2;go_ret;rw[HQ.out];exact⟨rfl,rfl⟩
 |false=>
  have HQ:Hid (z0q s.data.toList=2):=by show _=_;unfold z0q;rw[if_neg (by simp[h])]
  go_enter func104,ntmps104;go_wp2_with fail;refine(z9l s _).mono ?_;rw[h];rintro e w' ⟨rfl,rfl⟩;go_wp2;go_ret;rw[HQ.out];exact⟨rfl,rfl⟩
def zaS:List UInt8:=[65,66,67,68,69,70,71,72,73,74,75,76,77,78,79,80,81,82,83,84,85,86,87,88,89,90,97,98,99,100,101,102,103,104,105,106,107,108,109,110,111,112,113,114,115,116,117,118,119,120,121,122]
theorem zfV:∀c:Fin 256,decide (0≤Lib.indexByte zaS c.val.toUInt8)=z18 c.val.toUInt8:=by decide+kernel
theorem zbw (c:UInt8):decide (0≤Lib.indexByte zaS c)=z18 c:=by have:=zfV ⟨c.toNat,c.toNat_lt⟩;simpa using this
theorem z4L (s:ByteArray) (w:World):C0 240 #[.string s] w (.bool (z4Q s.data.toList)):=by
 by_cases hem:s.size=0
 ·have hs:s.toList.isEmpty=true:=by
   rw[Lib.toList_data];have:=List.eq_nil_of_length_eq_zero (by rw[←Lib.size_eq];exact hem);rw[this];rfl
  have HE:Hid (z4Q s.data.toList=false):=by have:=List.eq_nil_of_length_eq_zero (by rw[←Lib.size_eq];exact hem);show _=_;rw[this];rfl
  clear hem;go_enter func240,ntmps240;go_wp2;go_ret;rw[HE.out];exact⟨rfl,rfl⟩
 ·have hs:s.toList.isEmpty=false:=by
   rw[Lib.toList_data];cases h:s.data.toList with
   |nil=>exact absurd (by rw[Lib.size_eq,h];rfl) hem
   |cons c r=>rfl
  have h0:0<s.size:=by omega
  have HE:Hid (z4Q s.data.toList=z18 s[0]):=by
   show _=_;have e:s.data.toList[0]?=some s[0]:=by rw[List.getElem?_eq_getElem (by rw[←Lib.size_eq];exact h0)];rfl
   cases h:s.data.toList with
   |nil=>exact absurd (by rw[Lib.size_eq,h];rfl) hem
   |cons c r=>rw[h] at e;simp at e;rw[←e];rfl
  clear hem;by_cases hl:(0:Int)≤Lib.indexByte zaS s[0]
  ·have HL:Hid (z18 s[0]=true):=by show _=_;rw[←zbw,decide_eq_true hl]
   go_enter func240,ntmps240;go_wp2_with(go_at_call 141;refine(z9P _ _ _ hl).mono ?_;rintro e w' ⟨⟨i,hi,rfl⟩,rfl⟩);go_ret;rw[HE.out,HL.out];exact⟨rfl,rfl⟩
  ·have HL:Hid (z18 s[0]=false):=by show _=_;rw[←zbw,decide_eq_false hl]
   go_enter func240,ntmps240;go_wp2_with(go_at_call 141;refine(zad _ _ _ hl).mono ?_;rintro e w' ⟨⟨i,hi,rfl⟩,rfl⟩);go_ret;rw[HE.out,HL.out];refine⟨?_,rfl⟩;simp;omega
theorem z4l (k:Nat) (w:World) (n:Nat):Below k w (w.drewN n):=⟨rfl,rfl,rfl,Nat.le_refl _,fun _ _=>rfl⟩
theorem z88 {k:Nat} {w w':World} (h:Below k w w') (n:Nat):Below k w (w'.drewN n):=h.trans (z4l _ _ _)
end Go.Proofs
namespace Go.Moor
open Go
theorem zes (c:UInt8) (l:Bs):Lib.cut l [c]=match z1a c l with|some (a,b)=>(a,b,true)|none=>(l,[],false):=by
 have none':∀l:Bs,(∀x∈l,x≠c)→z1a c l=none:=by
  intro l;induction l with
  |nil=>intro _;rfl
  |cons b l ih=>intro h;rw[z1a,if_neg (h b (by simp)),ih (fun x hx=>h x (by simp[hx]))];rfl
 have some':∀p r:Bs,(∀x∈p,x≠c)→z1a c (p++c::r)=some (p,r):=by
  intro p r;induction p with
  |nil=>intro _;simp[z1a]
  |cons b p ih=>intro h;show z1a c (b::(p++c::r))=_;rw[z1a,if_neg (h b (by simp)),ih (fun x hx=>h x (by simp[hx]))];rfl
 rcases zd9 c l with⟨h1,h2⟩|⟨p,r,rfl,h2,h3⟩
 ·rw[h1,none' l h2]
 ·rw[h3,some' p r h2]
theorem zhn (c:UInt8) (l:Bs):Lib.cut l [c]=((z0i c l).1,(z0i c l).2.getD [],(z0i c l).2.isSome):=by
 rw[zes];unfold z0i;cases z1a c l with
 |none=>rfl
 |some p=>rfl
def z5y (c:UInt8) (n:Bs) (b:UInt8):Bs:=if b=c then n else [b]
theorem z7s (c:UInt8) (n:Bs):∀l:Bs,(∀x∈l,x≠c)→l.flatMap (z5y c n)=l
 | [],_=>rfl
 |b::l,h=>by
  rw[List.flatMap_cons,z7s c n l (fun x hx=>h x (by simp[hx]))];unfold z5y;rw[if_neg (h b (by simp))];rfl
theorem z9g (c:UInt8) (n:Bs):∀(k:Nat) (l:Bs),l.count c≤k→Lib.replaceK [c] n k l=l.flatMap (z5y c n)
 |0,l,h=>by
  rw[z7s c n l (fun x hx e=>by subst e;have:=List.count_pos_iff.2 hx;omega)];rfl
 |k+1,l,h=>by
  rcases z2D c l with⟨hi,hno⟩|⟨p,r,rfl,hno,hi⟩
  ·rw[Lib.replaceK,Lib.index_one,hi,if_pos (by rfl),z7s c n l hno]
  ·have hc:=List.count_eq_zero_of_not_mem (fun hm=>hno c hm rfl)
   have hr:List.count c r≤k:=(by rw[List.count_append,hc,List.count_cons_self] at h;omega);rw[Lib.replaceK_hit [c] n k _ p.length (by rw[Lib.index_one,hi]),List.take_left,show List.drop (p.length+ [c].length) (p++c::r)=r by simp,z9g c n k r hr,List.flatMap_append,List.flatMap_cons,z7s c n p hno];unfold z5y;rw[if_pos rfl];simp
theorem z64 (c:UInt8) (n l:Bs):Lib.replaceAll l [c] n=l.flatMap (z5y c n):=by
 unfold Lib.replaceAll Lib.replace;split
 ·rename_i h
  have h:=beq_iff_eq.1 h;subst h;have:∀l:Bs,l.flatMap (z5y c [c])=l:=by
   intro l;induction l with
   |nil=>rfl
   |cons b l ih=>
    rw[List.flatMap_cons,ih];unfold z5y;by_cases e:b=c
    ·rw[if_pos e,e];rfl
    ·rw[if_neg e];rfl
  rw[this]
 ·refine z9g c n _ l ?_
  unfold Lib.replaceNum;rw[if_pos (Or.inl (by omega)),Lib.count_one];exact Nat.le_refl _
theorem ziT (c:UInt8) (l:Bs):l.flatMap (z5y c [])=l.filter (·≠c):=by
 induction l with
 |nil=>rfl
 |cons b l ih=>
  rw[List.flatMap_cons,ih];unfold z5y;by_cases e:b=c
  ·rw[if_pos e,List.filter_cons_of_neg (by simp[e])];rfl
  ·rw[if_neg e,List.filter_cons_of_pos (by simp[e])];rfl
theorem zkv (c d:UInt8) (l:Bs):l.flatMap (z5y c [d])=l.map fun b=>if b=c then d else b:=by
 induction l with
 |nil=>rfl
 |cons b l ih=>
  rw[List.flatMap_cons,ih,List.map_cons];unfold z5y;by_cases e:b=c
  ·rw[if_pos e,if_pos e];rfl
  ·rw[if_neg e,if_neg e];rfl
theorem zdz (l:Bs):((l.filter (·≠9)).filter (·≠10)).filter (·≠13)=l.filter fun c=>!z4R c:=by rw[List.filter_filter,List.filter_filter];congr 1;funext c;by_cases h1:c=9<;>by_cases h2:c=10<;>by_cases h3:c=13<;>simp[z4R,h1,h2,h3]
def pE:Bs:=[37,50,69]
def pe:Bs:=[37,50,101]
theorem z6W (b:UInt8) (l:Bs) (h:pE.isPrefixOf (b::l)=false):z0r (b::l)=b::z0r l:=by rw[z0r];intro l' hb hl;subst hb;subst hl;simp[pE,List.isPrefixOf] at h
theorem zcU:∀l:Bs,(Lib.index l pE= -1∧z0r l=l)∨∃p r,l=p++(pE++r)∧Lib.index l pE=p.length∧z0r l=p++(pe++z0r r)
 | []=>Or.inl ⟨rfl,rfl⟩
 |b::l=>by
  cases hp:pE.isPrefixOf (b::l) with
  |true=>
   obtain⟨r,hr⟩:=List.isPrefixOf_iff_prefix.1 hp;refine Or.inr ⟨[],r,hr.symm,?_,?_⟩
   ·rw[Lib.index,hp]
    rfl
   ·rw[←hr]
    rfl
  |false=>
   rcases zcU l with⟨h1,h2⟩|⟨p,r,h1,h2,h3⟩
   ·refine Or.inl ⟨?_,?_⟩
    ·rw[Lib.index,hp,h1]
     rfl
    ·rw[z6W b l hp,h2]
   ·refine Or.inr ⟨b::p,r,by rw[h1];rfl,?_,?_⟩
    ·rw[Lib.index,hp,h2]
     have:((p.length:Int)== -1)=false:=beq_eq_false_iff_ne.2 (by omega);rw[this];simp
    ·rw[z6W b l hp,h3]
     rfl
theorem zet:∀(k:Nat) (l:Bs),Lib.countFrom pE k l≤k→l.length<k→Lib.replaceK pE pe (Lib.countFrom pE k l) l=z0r l
 |0,l,_,h=>by omega
 |k+1,l,_,h=>by
  rcases zcU l with⟨h1,h2⟩|⟨p,r,h1,h2,h3⟩
  ·rw[Lib.countFrom,h1,if_pos (by rfl),h2]
   rfl
  ·have e:((p.length:Int)== -1)=false:=beq_eq_false_iff_ne.2 (by omega)
   have ed:List.drop (p.length+pE.length) l=r:=(by rw[h1,←List.append_assoc,List.drop_left' (by simp)]);have hlen:l.length=p.length+3+r.length:=(by rw[h1];simp[pE];omega);rw[Lib.countFrom,h2,e];simp only[Bool.false_eq_true,if_false,Int.toNat_natCast];rw[ed,Nat.add_comm 1,Lib.replaceK_hit pE pe _ l p.length h2,ed,h3];have ih:Lib.replaceK pE pe (Lib.countFrom pE k r) r=z0r r:=by
    have hf:=Lib.countFrom_fuel (sub:=pE) (by decide) k r (by omega) (r.length+1) (by omega);by_cases hk:Lib.countFrom pE k r≤k
    ·exact zet k r hk (by omega)
    ·have hle:∀(f:Nat) (x:Bs),Lib.countFrom pE f x≤f:=by
      intro f;induction f with
      |zero=>intro x;exact Nat.le_refl _
      |succ f ih=>
       intro x;rw[Lib.countFrom];split
       ·omega
       ·have:=ih (List.drop ((Lib.index x pE).toNat+pE.length) x)
        omega
     exact absurd (hle k r) hk
   rw[ih,h1];simp
theorem zcp (l:Bs):Lib.replaceAll l pE pe=z0r l:=by
 have hle:∀(f:Nat) (x:Bs),Lib.countFrom pE f x≤f:=by
  intro f;induction f with
  |zero=>intro x;exact Nat.le_refl _
  |succ f ih=>
   intro x;rw[Lib.countFrom];split
   ·omega
   ·have:=ih (List.drop ((Lib.index x pE).toNat+pE.length) x)
    omega
 unfold Lib.replaceAll Lib.replace;rw[if_neg (by decide)];unfold Lib.replaceNum;rw[if_pos (Or.inl (by omega))];exact zet (l.length+1) l (hle _ _) (by omega)
theorem ziU (l cs:Bs):(Lib.trimS l cs).isEmpty=l.all fun b=>cs.contains b:=by
 unfold Lib.trimS Lib.trimLeftS Lib.trimRightS;cases h:l.all fun b=>cs.contains b with
 |true=>
  have h2:∀b∈l.reverse,cs.contains b=true:=fun b hb=>List.all_eq_true.1 h b (by simpa using hb);have e:l.reverse.dropWhile (cs.contains ·)=[]:=by have:=List.dropWhile_append_of_pos (p:=fun b=>cs.contains b) (l₁:=l.reverse) (l₂:=[]) h2;simpa using this
  rw[e];rfl
 |false=>
  have key:∀x:Bs,(x.dropWhile (cs.contains ·)).isEmpty=true→∀b∈x,cs.contains b=true:=by
   intro x;induction x with
   |nil=>intro _ b hb;cases hb
   |cons a x ih=>
    intro hx b hb;by_cases ha:cs.contains a=true
    ·rw[List.dropWhile_cons_of_pos ha] at hx
     rcases List.mem_cons.1 hb with rfl|hb
     ·exact ha
     ·exact ih hx b hb
    ·rw[List.dropWhile_cons_of_neg ha] at hx
     cases hx
  cases hE:(((l.reverse.dropWhile (cs.contains ·)).reverse).dropWhile (cs.contains ·)).isEmpty with
  |false=>rfl
  |true=>
   have h1:=key _ hE;have h2:(l.reverse.dropWhile (cs.contains ·)).isEmpty=true:=by
    cases hd:l.reverse.dropWhile (cs.contains ·) with
    |nil=>rfl
    |cons a x=>have ha:=h1 a (by rw[hd];simp);have hn:=List.head?_dropWhile_not (p:=(cs.contains ·)) l.reverse;rw[hd] at hn;simp at hn;rw[List.contains_iff_mem] at ha;exact absurd ha hn
   have h3:=key _ h2;have:=List.all_eq_true.2 fun b hb=>h3 b (by simpa using hb);rw[this] at h;cases h
end Go.Moor
namespace Go.Proofs
open Go.RowKit Go.Moor Go.Proofs.Tryz
def zgR:List UInt8:=[65,66,67,68,69,70,71,72,73,74,75,76,77,78,79,80,81,82,83,84,85,86,87,88,89,90,97,98,99,100,101,102,103,104,105,106,107,108,109,110,111,112,113,114,115,116,117,118,119,120,121,122,48,49,50,51,52,53,54,55,56,57,43,45,46]
theorem zhu:∀c:Fin 256,zgR.contains c.val.toUInt8=z1D c.val.toUInt8:=by decide+kernel
theorem ziZ (c:UInt8):zgR.contains c=z1D c:=by have:=zhu ⟨c.toNat,c.toNat_lt⟩;simpa using this
theorem zey:∀(j:Nat) b,(⟨zgR.toArray⟩:ByteArray).data.toList[j]?=some b→b.toNat<128:=by
 intro j b h;have h2:∀b∈zgR,b.toNat<128:=by decide+kernel
 exact h2 b (List.mem_of_getElem? h)
theorem zbx (s:ByteArray) (w:World) (hs:s.size<4294967281):Calls Tryz.prog 241 #[.string s,.string ⟨zgR.toArray⟩] w fun e w'=>(∃r:ByteArray,r.toList.isEmpty=(s.data.toList.all z1D)∧e=.returned (.string r))∧Below w.heap.size w w':=by refine(Any.strings_Trim_laid zfj (by kernel_rfl) s ⟨zgR.toArray⟩ w (by omega) (by decide+kernel) zey).mono ?_;rintro e w' ⟨rfl,hb⟩;refine⟨⟨_,?_,rfl⟩,hb⟩;rw[Lib.toList_data];show(Lib.trimS s.data.toList zgR).isEmpty=_;rw[ziU];congr 1;funext c;exact ziZ c
theorem za6 (s:ByteArray) (w:World) (hs:s.size<4294967281):Calls Tryz.prog 204 #[.string s] w fun e w'=>e=.returned (.bool (z0W s.data.toList))∧Below w.heap.size w w':=by
 have HB:=hI (z4L s w);have HT:=hI (zbx s w hs);cases hb:z4Q s.data.toList with
 |false=>
  have HR:Hid (z0W s.data.toList=false):=by show _=_;unfold z0W;rw[hb];rfl
  rw[hb] at HB;clear hb;go_enter Tryz.func204,Tryz.ntmps204;go_wp2_with fail;refine HB.out.mono ?_;rintro e w' ⟨rfl,hw0⟩;obtain rfl:=hw0.symm;go_wp2;go_ret;rw[HR.out];exact⟨rfl,Below.refl _ _⟩
 |true=>
  cases ha:s.data.toList.all z1D with
  |true=>have HR:Hid (z0W s.data.toList=true):=(by show _=_;unfold z0W;rw[hb,ha];rfl);rw[hb] at HB;rw[ha] at HT;clear hb ha;go_enter Tryz.func204,Tryz.ntmps204;go_wp2_with fail;refine HB.out.mono ?_;rintro e w' ⟨rfl,hw0⟩;obtain rfl:=hw0.symm;go_wp2_with fail;refine HT.out.mono ?_;rintro e w2 ⟨⟨r,hr,rfl⟩,b2⟩;go_wp2;go_ret;rw[HR.out];exact⟨rfl,b2⟩
  |false=>have HR:Hid (z0W s.data.toList=false):=(by show _=_;unfold z0W;rw[hb,ha];rfl);rw[hb] at HB;rw[ha] at HT;clear hb ha;go_enter Tryz.func204,Tryz.ntmps204;go_wp2_with fail;refine HB.out.mono ?_;rintro e w' ⟨rfl,hw0⟩;obtain rfl:=hw0.symm;go_wp2_with fail;refine HT.out.mono ?_;rintro e w2 ⟨⟨r,hr,rfl⟩,b2⟩;go_wp2;go_ret;rw[HR.out];exact⟨rfl,b2⟩
theorem zdH (s:ByteArray) (c:UInt8) (m:Int) (w:World) (hs:s.size<4294967281) (hm:w.cell? ⟨16,0,none⟩=some (.int .i64 m)):Calls Tryz.prog 112 #[.string s,.string ⟨#[c]⟩] w fun e w'=>e=.returned (.tuple #[.string ⟨(z0i c s.data.toList).1.toArray⟩,.string ⟨((z0i c s.data.toList).2.getD []).toArray⟩,.bool (z0i c s.data.toList).2.isSome])∧∃n,w'=w.drewN n:=by refine(Tryz.strings_Cut s ⟨#[c]⟩ m w hs hm).mono ?_;rintro e w' ⟨rfl,n,rfl⟩;refine⟨?_,n,rfl⟩;have e1:=zhn c s.data.toList;rw[e1]
theorem cutB_parts (c:UInt8):∀(l a b:Bs),z1a c l=some (a,b)→l=a++c::b
 | [],a,b,h=>by simp[z1a] at h
 |x::l,a,b,h=>by
  rw[z1a] at h;split at h
  ·rename_i hx
   cases h
   rw[hx];rfl
  ·cases hc:z1a c l with
   |none=>rw[hc] at h;simp at h
   |some p=>rw[hc] at h;simp at h;obtain⟨h1,h2⟩:=h;have:=cutB_parts c l p.1 p.2 hc;rw[←h1,←h2,this];rfl
theorem cutOpt_len (c:UInt8) (l:Bs):(z0i c l).1.length≤l.length∧((z0i c l).2.getD []).length≤l.length:=by
 unfold z0i;cases h:z1a c l with
 |none=>simp
 |some p=>
  have:=cutB_parts c l p.1 p.2 h;have hl:l.length=p.1.length+(p.2.length+1):=by rw[this];simp
  simp;omega
theorem zdI (l:Bs) (h:z0W l=true):∀(j:Nat) (b:UInt8),l[j]?=some b→b.toNat<128:=by
 intro j b hb;unfold z0W at h;rw[Bool.and_eq_true] at h;have h2:=List.all_eq_true.1 h.2 b (List.mem_of_getElem? hb);have h3:∀c:Fin 256,z1D c.val.toUInt8=true→c.val<128:=by decide+kernel
 have:=h3 ⟨b.toNat,b.toNat_lt⟩;simp at this;exact this h2
theorem zj0 (s:ByteArray) (w:World) (hs:s.size<4294967281) (henv:Tryz.Env w):Calls Tryz.prog 151 #[.string s] w fun e w'=>e=.returned (.tuple #[.string ⟨(z0k s.data.toList).1.toArray⟩,.string ⟨(z0k s.data.toList).2.toArray⟩])∧Below w.heap.size w w':=by
 obtain⟨m,hm⟩:=henv.maxLen;have HC:=hI (zdH s 58 m w hs hm);clear hm;have hlen:=cutOpt_len 58 s.data.toList;rw[←Lib.size_eq] at hlen;cases hc:z1a 58 s.data.toList with
 |none=>
  have HR:Hid (z0k s.data.toList=([],s.data.toList)):=by show _=_;unfold z0k;rw[hc]
  have e:z0i 58 s.data.toList=(s.data.toList,none):=by unfold z0i;rw[hc]
  rw[e] at HC;clear e hc hlen;go_enter Tryz.func151,Tryz.ntmps151;go_wp2_with fail;refine HC.out.mono ?_;rintro e w1 ⟨rfl,n,rfl⟩;go_wp2;go_ret2;rw[HR.out];exact⟨rfl,z4l _ _ _⟩
 |some p=>
  have e:z0i 58 s.data.toList=(p.1,some p.2):=by unfold z0i;rw[hc]
  rw[e] at HC hlen;obtain⟨hl1,hl2⟩:=hlen;obtain⟨p1,p2⟩:=p;simp only at hl1 hl2 HC;have HS:=hI fun W=>za6 ⟨p1.toArray⟩ W (by rw[z07];omega);cases hsb:z0W p1 with
  |false=>have HR:Hid (z0k s.data.toList=([],s.data.toList)):=(by show _=_;unfold z0k;rw[hc];simp[hsb]);rw[hsb] at HS;clear e hc hsb;go_enter Tryz.func151,Tryz.ntmps151;go_wp2_with fail;refine HC.out.mono ?_;rintro e w1 ⟨rfl,n,rfl⟩;go_wp2_with fail;refine(HS _).mono ?_;rintro e w2 ⟨rfl,b2⟩;go_wp2;go_ret2;rw[HR.out];exact⟨rfl,(z4l _ _ n).trans b2⟩
  |true=>have HR:Hid (z0k s.data.toList=(Lib.toLowerA p1,p2)):=(by show _=_;unfold z0k;rw[hc];simp[hsb]);have HL:=hI fun W=>Tryz.strings_ToLower_ascii ⟨p1.toArray⟩ W (by rw[z07];omega) (zdI p1 hsb);rw[hsb] at HS;clear e hc hsb;go_enter Tryz.func151,Tryz.ntmps151;go_wp2_with fail;refine HC.out.mono ?_;rintro e w1 ⟨rfl,n,rfl⟩;go_wp2_with fail;refine(HS _).mono ?_;rintro e w2 ⟨rfl,b2⟩;go_wp2_with fail;refine(HL _).mono ?_;rintro e w3 ⟨rfl,b3⟩;go_wp2;go_ret2;rw[HR.out];exact⟨rfl,((z4l _ _ n).trans b2).trans (b3.mono b2.size)⟩
theorem z0K (w:World) (cs:Array Value) (t:TypeId):(w.alloc (.cells cs t)).heap[w.heap.size]?=some (.cells cs t (0,0)):=by unfold World.alloc;exact Array.getElem?_push_size
def z65 (o:Option Bs):Array Value:=#[.bool o.isSome,.string ⟨(o.getD []).toArray⟩]
def z0s (c:Cuts):Array Value:=#[.string ⟨c.scheme.toArray⟩,.string ⟨c.middle.toArray⟩,.bool c.query.isSome,.string ⟨(c.query.getD []).toArray⟩,.bool c.frag.isSome,.string ⟨(c.frag.getD []).toArray⟩]
def z5D:Array Value:=#[.string ⟨#[]⟩,.string ⟨#[]⟩,.bool false,.string ⟨#[]⟩,.bool false,.string ⟨#[]⟩]
theorem zdD (c:Cuts):(z0s c).all (·.oneCell')=true:=by simp[z0s,Value.oneCell']
theorem z66:(prog.info? 137).map (·.size)=some 6:=by kernel_rfl
theorem zkg:(prog.info? 75).map (·.size)=some 2:=by kernel_rfl
theorem z8Z (s:ByteArray) (w:World) (hs:s.size<4294967281) (henv:Env w):CB 93 #[.string s] w (.agg (z0s (z1K s.data.toList))):=by
 have HV:Hid (Env w):=henv;clear henv;have HW:Hid (Below w.heap.size w (w.alloc (.cells z5D 137))):=(Below.refl _ _).alloc (Nat.le_refl _) _;have HVA:Hid (Env (w.alloc (.cells z5D 137))):=HV.out.below HW.out;have HA:Hid ((w.alloc (.cells z5D 137)).heap[w.heap.size]?=some (.cells z5D 137 (0,0))):=z0K w _ _;have HSC:Hid (CB 151 #[.string s] (w.alloc (.cells z5D 137)) (.tuple #[.string ⟨(z0k s.data.toList).1.toArray⟩,.string ⟨(z0k s.data.toList).2.toArray⟩])):=zj0 s _ hs HVA.out;have hlen:(z0k s.data.toList).2.length≤s.size:=by
  unfold z0k;rw[Lib.size_eq];cases h:z1a 58 s.data.toList with
  |none=>exact Nat.le_refl _
  |some p=>
   have:=cutB_parts 58 _ p.1 p.2 h;have hl:s.data.toList.length=p.1.length+(p.2.length+1):=(by rw[this];simp);show(if z0W p.1=true then(Lib.toLowerA p.1,p.2) else([],s.data.toList)).2.length≤_;split
   ·show p.2.length≤_
    omega
   ·exact Nat.le_refl _
 have HCM:Hid (z0s (z1K s.data.toList)=z0s ⟨(z0k s.data.toList).1,(z0i 63 (z0i 35 (z0k s.data.toList).2).1).1,(z0i 63 (z0i 35 (z0k s.data.toList).2).1).2,(z0i 35 (z0k s.data.toList).2).2⟩):=rfl;generalize(z0k s.data.toList).1=sc at*;generalize(z0k s.data.toList).2=rest at*;have hl1:=cutOpt_len 35 rest;have hl2:=cutOpt_len 63 (z0i 35 rest).1;have HC1:Hid (∀m W,W.cell? ⟨16,0,none⟩=some (.int .i64 m)→CN 112 #[.string ⟨rest.toArray⟩,.string ⟨#[35]⟩] W (.tuple #[.string ⟨(z0i 35 rest).1.toArray⟩,.string ⟨((z0i 35 rest).2.getD []).toArray⟩,.bool (z0i 35 rest).2.isSome])):=fun m W hm=>zdH ⟨rest.toArray⟩ 35 m W (by rw[z07];omega) hm;have HC2:Hid (∀m W,W.cell? ⟨16,0,none⟩=some (.int .i64 m)→CN 112 #[.string ⟨(z0i 35 rest).1.toArray⟩,.string ⟨#[63]⟩] W (.tuple #[.string ⟨(z0i 63 (z0i 35 rest).1).1.toArray⟩,.string ⟨((z0i 63 (z0i 35 rest).1).2.getD []).toArray⟩,.bool (z0i 63 (z0i 35 rest).1).2.isSome])):=fun m W hm=>zdH ⟨(z0i 35 rest).1.toArray⟩ 63 m W (by rw[z07];omega) hm;clear hl1 hl2 hlen hs;go_enter func93,ntmps93;go_wp2_with fail;refine HSC.out.mono ?_;rintro e w1 ⟨rfl,b1⟩;have HN:Hid (w1.heap[w.heap.size]?=some (.cells z5D 137 (0,0))):=(b1.block _ (by simp)).trans HA.out;have HB1:Hid (Below w.heap.size w w1):=HW.out.trans (b1.mono (by simp));obtain⟨m,hm⟩:=(HVA.out.below b1).maxLen;have HM:Hid (w1.cell? ⟨16,0,none⟩=some (.int .i64 m)):=hm;clear b1 hm HVA;go_wp2_with fail;refine(HC1.out m w1 HM.out).mono ?_;rintro e w2 ⟨rfl,n1,rfl⟩;go_wp2_with fail;refine(HC2.out m (w1.drewN n1) HM.out).mono ?_;rintro e w2 ⟨rfl,n2,rfl⟩;have HN2:Hid (((w1.drewN n1).drewN n2).heap[w.heap.size]?=some (.cells z5D 137 (0,0))):=HN.out;have HB2:Hid (Below w.heap.size w ((w1.drewN n1).drewN n2)):=z88 (z88 HB1.out n1) n2;have HSZ:Hid ((z0s ⟨sc,(z0i 63 (z0i 35 rest).1).1,(z0i 63 (z0i 35 rest).1).2,(z0i 35 rest).2⟩).all (·.oneCell')=true):=zdD _;generalize(w1.drewN n1).drewN n2=w3 at*;go_wp2_with(refine wpList_store_row rfl 137 _ _ rfl w.heap.size (z0s ⟨sc,(z0i 63 (z0i 35 rest).1).1,(z0i 63 (z0i 35 rest).1).2,(z0i 35 rest).2⟩) rfl rfl 137 z5D HN2.out z66 rfl HSZ.out ?_);(try simp only[Exit.inBlock,Exit.then]);refine bodyPost_ret (v:=.agg (z0s ⟨sc,(z0i 63 (z0i 35 rest).1).1,(z0i 63 (z0i 35 rest).1).2,(z0i 35 rest).2⟩)) ?_ rfl ⟨by rw[HCM.out],below_setRow HB2.out (Nat.le_refl _) _⟩;exact results_cell_row rfl _ _ w.heap.size 137 _ (0,0) _ rfl (setRow_heap w3 w.heap.size z5D _ 137 (0,0) HN2.out) underlying137 rfl z66
structure Tryz.Env2 (w:World):Prop where
 env:Tryz.Env w
 tz:Tryz.Tz w
 u8:Lib.Utf8Tabs 21 22 w
 eBase:Tryz.Err 6 w
 eOpaque:Tryz.Err 15 w
 eHost:Tryz.Err 12 w
 eSyntax:Tryz.Err 25 w
 eRange:Tryz.Err 26 w
theorem Tryz.Env2.below {w w':World} (h:Tryz.Env2 w) (hb:Below w.heap.size w w'):Tryz.Env2 w':=by
 have hz:=h.env.size;refine⟨h.env.below hb,h.tz.below hb (by omega),⟨fun c hc=>?_,fun i hi=>⟨?_,?_⟩⟩,h.eBase.below hb (by omega),h.eOpaque.below hb (by omega),h.eHost.below hb (by omega),h.eSyntax.below hb (by omega),h.eRange.below hb (by omega)⟩
 ·rw[hb.cell (p:=⟨21,c,none⟩) (show 21<w.heap.size by omega)]
  exact h.u8.1 c hc
 ·rw[hb.cell (p:=⟨22,2*i,none⟩) (show 22<w.heap.size by omega)]
  exact(h.u8.2 i hi).1
 ·rw[hb.cell (p:=⟨22,2*i+1,none⟩) (show 22<w.heap.size by omega)]
  exact(h.u8.2 i hi).2
end Go.Proofs
