import Derived.Test.YtkcnageeamappaaGreatDoorXAs2
import Derived.Test.YtkcnageeamappaaGreatDoorRows
import Derived.ProofKit
import Derived.OpenShut
import Derived.Lib.LaidU8
import Derived.Lay
import Derived.LaidHandle
import Derived.Shelf.Vars
set_option maxHeartbeats 32000000
set_option maxRecDepth 8000
namespace Go.Proofs
open Go.RowKit Go.Moor Go.Proofs.Tryz
theorem zaY (w:World):Calls Tryz.prog 33 #[.nilIface] w fun e w'=>e=.returned (.int .i64 0)∧Below w.heap.size w w':=by go_enter Tryz.func33,Tryz.ntmps33;go_wp2_with(go_at_call 56;refine(zfX _ _).mono ?_;rintro e w' ⟨rfl,rfl⟩);go_ret;exact⟨rfl,(Below.refl _ _).alloc (Nat.le_refl _) _⟩
theorem z6z (n:Int) (x y:ByteArray) (t:TypeId) (v:Value) (w:World) (henv:Tryz.Env w):Calls Tryz.prog 33 #[.iface 96 (.agg #[.int .i64 n,.string x,.string y,.iface t v])] w fun e w'=>e=.returned (.int .i64 n)∧Below w.heap.size w w':=by
 have HV:Hid (Tryz.Env (w.alloc (.cells #[.int .i64 0,.string ⟨#[]⟩,.string ⟨#[]⟩,.nilIface] 96))):=henv.below ((Below.refl _ _).alloc (Nat.le_refl _) _);have hgz:=henv.size;have HC:=
  hI (zfY w.heap.size n x y ⟨#[]⟩ ⟨#[]⟩ t v .nilIface 0 _ HV.out.errType (by first|(simp;done)|(simp;omega)) (by simp) (by simp) (by simp) (by simp) (by simp) (by simp) (by simp) (by simp) (by simp))
 clear henv hgz;go_enter Tryz.func33,Tryz.ntmps33;go_wp2_with(go_at_call 56;refine HC.out.mono ?_);rintro e W1 ⟨rfl,hc,hb⟩;go_wp2;go_ret;exact⟨rfl,((Below.refl _ _).alloc (Nat.le_refl _) _).trans hb⟩
theorem zaa (s:ByteArray) (w:World) (hs:s.size<4294967281) (hpf:Lib.hasPrefix s.data.toList (⟨#[91]⟩:ByteArray).data.toList=false) (henv:Tryz.Env w):Calls Tryz.prog 55 #[.string s,.bool true] w fun e w'=>z4D (z14 (z0t s.data.toList)) e∧Below w.heap.size w w':=by
 obtain⟨m,hm⟩:=henv.maxLen;have hz:=henv.size;have HV:=hI henv;have HM:=hI hm;have HP:=hI hpf;have hul:(z0t s.data.toList).length≤s.size:=by have:=z5o s.data.toList.length s.data.toList (Nat.le_refl _);simpa using this
 clear henv hm hpf;go_enter Tryz.func55,Tryz.ntmps55;go_wp2_with(go_at_call 82;refine(z8d _ _ _ HP).mono ?_;rintro e w' ⟨rfl,rfl⟩);refine(zei s m _ hs HM (by omega)).mono ?_;rintro e W1 ⟨rfl,b1⟩;have HV1:=hI (HV.out.below b1);have HC:=
  hI (z8H ⟨(z0t s.data.toList).toArray⟩ W1 (by rw[z07];omega) HV1)
 cases ho:z14 (z0t s.data.toList) with
 |none=>have HO:=hI ho;clear ho;go_wp2_with fail;refine HC.out.mono ?_;rw[HO.out];rintro e W2 ⟨⟨te,ve,rfl⟩,b2⟩;go_wp2;go_ret2;rw[HO.out];exact⟨⟨_,_,rfl⟩,b1.trans (b2.mono b1.size)⟩
 |some l=>have HO:=hI ho;clear ho;go_wp2_with fail;refine HC.out.mono ?_;rw[HO.out];rintro e W2 ⟨rfl,b2⟩;go_wp2;go_ret2;rw[HO.out];exact⟨rfl,b1.trans (b2.mono b1.size)⟩
def z9y (s:ByteArray) (o:Option (List UInt8)) (e:Ending):Prop:=
 match o with
 |some l=>e=.returned (.tuple #[.string ⟨l.toArray⟩,.nilIface])
 |none=>∃t v,e=.returned (.tuple #[.string ⟨#[]⟩,.iface 96 (.agg #[.int .i64 4,.string ⟨#[104,111,115,116]⟩,.string s,.iface t v])])
theorem z9z (s:ByteArray) (sp:Bool) (o:Option (List UInt8)) (w:World) (ht:Calls Tryz.prog 55 #[.string s,.bool sp] w fun e w'=>z4D o e∧Below w.heap.size w w'):Calls Tryz.prog 32 #[.string s,.bool sp] w fun e w'=>z9y s o e∧Below w.heap.size w w':=by
 have HT:=hI ht;clear ht;cases ho:o with
 |none=>subst ho;go_enter Tryz.func32,Tryz.ntmps32;go_wp2_with fail;refine HT.out.mono ?_;rintro e W2 ⟨⟨te,ve,rfl⟩,b2⟩;go_wp2;go_ret2;exact⟨⟨_,_,rfl⟩,b2⟩
 |some l=>subst ho;go_enter Tryz.func32,Tryz.ntmps32;go_wp2_with fail;refine HT.out.mono ?_;rintro e W2 ⟨rfl,b2⟩;go_wp2;go_ret2;exact⟨rfl,b2⟩
def zgV (o:Option (List UInt8)):Ending:=
 match o with
 |some l=>.returned (.tuple #[.string ⟨l.toArray⟩,.int .i64 0])
 |none=>.returned (.tuple #[.string ⟨#[]⟩,.int .i64 4])
theorem z4c (s:ByteArray) (w:World) (hs:s.size≤2000):Calls Tryz.prog 31 #[.string s] w fun e w'=>e=.returned (.bool false)∧w'=w:=by go_enter Tryz.func31,Tryz.ntmps31;go_wp2;go_ret;refine⟨?_,rfl⟩;simp;omega
theorem z5Q (s:ByteArray) (w:World) (hs:2000<s.size) (hm:s.size≤maxLen):Calls Tryz.prog 31 #[.string s] w fun e w'=>e=.returned (.bool true)∧w'=w:=by unfold maxLen at hm;go_enter Tryz.func31,Tryz.ntmps31;go_wp2;go_ret;refine⟨?_,rfl⟩;simp;omega
theorem zeR (s:ByteArray) (sp:Bool) (o:Option (List UInt8)) (w:World) (henv:Tryz.Env w) (hs:s.size≤2000) (ht:Calls Tryz.prog 55 #[.string s,.bool sp] w fun e w'=>z4D o e∧Below w.heap.size w w'):Calls Tryz.prog 18 #[.string s,.bool sp] w fun e w'=>e=zgV o∧Below w.heap.size w w':=by
 have HT:=hI (z9z s sp o w ht);have HV:=hI henv;clear ht henv;cases ho:o with
 |none=>subst ho;go_enter Tryz.func18,Tryz.ntmps18;go_wp2_with fail;refine(z4c s w hs).mono ?_;rintro e W0 ⟨rfl,hw0⟩;obtain rfl:=hw0.symm;go_wp2_with fail;refine HT.out.mono ?_;rintro e W2 ⟨⟨te,ve,rfl⟩,b2⟩;have HV2:=hI (HV.out.below b2);go_wp2_with fail;refine(z6z 4 _ _ te ve _ HV2).mono ?_;rintro e W3 ⟨rfl,b3⟩;go_wp2;go_ret2;exact⟨rfl,b2.trans (b3.mono b2.size)⟩
 |some l=>subst ho;go_enter Tryz.func18,Tryz.ntmps18;go_wp2_with fail;refine(z4c s w hs).mono ?_;rintro e W0 ⟨rfl,hw0⟩;obtain rfl:=hw0.symm;go_wp2_with fail;refine HT.out.mono ?_;rintro e W2 ⟨rfl,b2⟩;go_wp2_with fail;refine(zaY _).mono ?_;rintro e W3 ⟨rfl,b3⟩;go_wp2;go_ret2;exact⟨rfl,b2.trans (b3.mono b2.size)⟩
theorem zmM (s:ByteArray) (sp:Bool) (w:World) (hs:2000<s.size) (hm:s.size≤maxLen):Calls Tryz.prog 18 #[.string s,.bool sp] w fun e w'=>e=.returned (.tuple #[.string ⟨#[]⟩,.int .i64 1])∧w'=w:=by go_enter Tryz.func18,Tryz.ntmps18;go_wp2_with fail;refine(z5Q s w hs hm).mono ?_;rintro e W0 ⟨rfl,hw0⟩;obtain rfl:=hw0.symm;go_wp2;go_ret2;exact⟨rfl,rfl⟩
end Go.Proofs
namespace Go.Proofs.YtkcnageeamappaaGreatDoor
open Go.Proofs.Tryz Go.ChangeShapes Go.WideShapes Go.ChangeAt Go.RowKit Go.Moor
theorem zp1:prog.globalNamed "moor/escape.sets" =some 13:=by kernel_rfl
theorem zpe:(prog.globals[13]?).map (·.type)=some 218:=by kernel_rfl
theorem zeV:prog.cellsOf 153=4:=by kernel_rfl
theorem zd8:prog.cellsOf 151=1:=by kernel_rfl
theorem zkS:prog.cellsOf 283=20:=by kernel_rfl
theorem zpp:(prog.globals[20]?).map (·.type)=some 283:=by kernel_rfl
def z9Z {H:Type} (i:Nat):DataW H:=Lib.tabData .u64 [z3O (i*4),z3O (i*4+1),z3O (i*4+2),z3O (i*4+3)]
theorem zjc:(Rows.laid_moor_escape_sets:DataW Unit)=.agg ((List.range 7).map z9Z):=by kernel_rfl
theorem zkT:(Rows.laid_internal_strconv_uint64pow10:DataW Unit)=Lib.tabData .u64 Lib.pow10Tab:=by kernel_rfl
theorem zdT {W:World} (h:Lib.VarReads prog W "moor/escape.sets" Rows.laid_moor_escape_sets):zpl W:=by
 obtain⟨g',t',cs,fuel,p,hg',ht',hvar,hd⟩:=h;obtain rfl:=Option.some.inj (zp1.symm.trans hg');obtain rfl:=Option.some.inj (zpe.symm.trans ht');rw[zjc] at hd;obtain⟨xs,m,rfl,hx,hcl,hxl,hall⟩:=DataW.trod_array underlying218 hd;have hxs:xs.map (·.1)=(List.range 7).map (z9Z (H:=Unit)):=by have:=congrArg Prod.fst hx;simpa using this.symm
 intro k hk;have hi:k/4<7:=by omega
 have h1:=hall (k/4) hi;have h2:(xs.map (·.1))[k/4]?=some (z9Z (H:=Unit) (k/4)):=by rw[hxs];simp[hi]
 rw[List.getElem?_map,Option.map_eq_some_iff] at h2;obtain⟨y,hy,hy1⟩:=h2;rw[hy,zeV] at h1;have h3:=Lib.cells_of_tab underlying153 underlying151 zd8 zeV (zs:=[z3O (k/4*4),z3O (k/4*4+1),z3O (k/4*4+2),z3O (k/4*4+3)]) (p:=y.2) (by
  rw[h1];show some y=some (z9Z (k/4),y.2);rw[←hy1])
 rw[World.var?_cell zp1 hvar k];have h4:cs[k]?=((cs.toList.drop (k/4*4)).take 4)[k%4]?:=by rw[List.getElem?_take,if_pos (by omega),List.getElem?_drop,Array.getElem?_toList,show k/4*4+k%4=k by omega]
 rw[h4,h3];have hr:k%4=0∨k%4=1∨k%4=2∨k%4=3:=by omega
 rcases hr with hr|hr|hr|hr
 ·rw[hr,show k/4*4=k by omega];rfl
 ·rw[hr,show k/4*4=k- 1 by omega,show k- 1+1=k by omega];rfl
 ·rw[hr,show k/4*4=k- 2 by omega,show k- 2+2=k by omega];rfl
 ·rw[hr,show k/4*4=k- 3 by omega,show k- 3+3=k by omega];rfl
theorem zeW {W:World} (h:Lib.VarReads prog W "internal/strconv.uint64pow10" Rows.laid_internal_strconv_uint64pow10):Lib.TabIs prog W "internal/strconv.uint64pow10" .u64 Lib.pow10Tab:=by obtain⟨g',t',cs,fuel,p,hg',ht',hvar,hd⟩:=h;obtain rfl:=Option.some.inj (zj3.symm.trans hg');obtain rfl:=Option.some.inj (zpp.symm.trans ht');rw[zkT] at hd;unfold Lib.TabIs;rw[hvar,←Lib.cells_of_tab underlying283 underlying151 zd8 zkS hd]
theorem z1H {W:World} {name:String} {g:Nat} {nm:String} {d:DataW Unit} (hg:prog.globalNamed name=some g) (ht:(prog.globals[g]?).map (·.type)=some 65) (h:Lib.VarReads prog W name (.iface nm d)):Err g W:=by
 obtain⟨g',t',cs,fuel,p,hg',ht',hvar,hd⟩:=h;obtain rfl:=Option.some.inj (hg.symm.trans hg');obtain rfl:=Option.some.inj (ht.symm.trans ht');have hc:=World.var?_cell hg hvar 0;have key:∃u v,cs.toList=[.iface u v]:=by
  cases fuel with
  |zero=>simp[DataW.trod] at hd
  |succ f=>
   rcases hl:cs.toList with _|⟨x,_|⟨y,r⟩⟩
   ·rw[hl] at hd
    simp[DataW.trod,underlying65] at hd
   ·rw[hl] at hd
    cases x<;>first
     |exact⟨_,_,rfl⟩
     |(exfalso;simp[DataW.trod,underlying65] at hd)
   ·rw[hl] at hd
    simp[DataW.trod,underlying65] at hd
 obtain⟨u,v,hk⟩:=key;refine⟨u,v,hc.trans ?_⟩;rw[←Array.getElem?_toList,hk];rfl
theorem rt:(prog.cutTypes.find? (·.1== "internal/reflectlite.rtype")).map (·.2)=some 193:=by kernel_rfl
theorem zjd:prog.types.size=343:=by kernel_rfl
theorem zol:((List.range 343).filter fun t=>prog.rowNamed t [101,114,114,111,114])=[65]:=by kernel_rfl
theorem zp2:prog.globalNamed "errors.errorType" =some 2:=by kernel_rfl
theorem zje:typeHandle prog 65=.pointer (some ⟨29,65,none⟩):=by kernel_rfl
theorem zdU {W:World} (h:handlesMet prog [("errors.errorType",Rows.laid_errors_errorType)] W):W.cell? ⟨2,0,none⟩=some (.iface 193 (.agg #[.pointer (some ⟨29,65,none⟩)])):=by obtain⟨name,u,ty,e1,e2,e3,e4,e5⟩:=h _ (List.mem_singleton.2 rfl);have en:=(Option.some.inj e1).symm;subst en;obtain rfl:=Option.some.inj (rt.symm.trans e2);have hm:ty∈(List.range 343).filter fun t=>prog.rowNamed t [101,114,114,111,114]:=List.mem_filter.2 ⟨List.mem_range.2 (by rw[←zjd];exact e3),e4⟩;rw[zol] at hm;obtain rfl:=List.mem_singleton.1 hm;rw[zje] at e5;simpa using World.var?_cell zp2 e5 0
theorem zbI {W:World} (h:W.ShapedOpen prog):∃m,W.cell? ⟨16,0,none⟩=some (.int .i64 m):=
 cell_of_shapedOpen_int (zero:=#[.int .i64 0]) (t:=3) h (of_decide_eq_true (by kernel_rfl)) (by kernel_rfl) rfl (by kernel_rfl) (by kernel_rfl) underlying3
def z2C:List (String×DataW Unit):=[("math/bits.deBruijn32tab",Rows.laid_math_bits_deBruijn32tab),("math/bits.deBruijn64tab",Rows.laid_math_bits_deBruijn64tab),("internal/strconv.uint64pow10",Rows.laid_internal_strconv_uint64pow10),("unicode/utf8.acceptRanges",Rows.laid_unicode_utf8_acceptRanges),("moor/escape.sets",Rows.laid_moor_escape_sets),("moor/host.errEmpty",Rows.laid_moor_host_errEmpty),("moor/host.errBracket",Rows.laid_moor_host_errBracket),("moor/host.errCount",Rows.laid_moor_host_errCount),("moor/host.errLength",Rows.laid_moor_host_errLength),("moor/host.errNought",Rows.laid_moor_host_errNought),("moor/host.errTooGreat",Rows.laid_moor_host_errTooGreat),("unicode.CaseRanges",Rows.laid_unicode_CaseRanges),("unicode/utf8.first",Rows.laid_unicode_utf8_first)]
theorem zdV {W:World} (h:W.ShapedOpen prog):29≤W.heap.size:=by obtain⟨o,o0,h1,_⟩:=h.2 29 (by rw[show prog.globals.size=29 by kernel_rfl];exact Nat.le_refl _) (of_decide_eq_true (by kernel_rfl));have:=(Array.getElem?_eq_some_iff.1 h1).1;omega
end Go.Proofs.YtkcnageeamappaaGreatDoor
