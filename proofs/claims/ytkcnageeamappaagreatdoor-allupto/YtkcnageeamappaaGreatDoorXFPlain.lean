import Derived.Test.YtkcnageeamappaaGreatDoorProg
import Derived.Below
import Derived.BigCall
import Derived.BigQuiet
import Derived.Carry
import Derived.ChangeSlices
import Derived.Deep.AppendLies
import Derived.Deep.CutBlock
import Derived.Deep.CutRange
import Derived.Deep.DeepCutAuto
import Derived.Deep.DeepHandedRow
import Derived.Deep.Draws
import Derived.Deep.LoopGhost
import Derived.Deep.OwnRows
import Derived.Deep.QuietTactic
import Derived.Deep.RegionHeld3
import Derived.Deep.RegionLaw
import Derived.Deep.RegionWith
import Derived.Deep.Slices
import Derived.Deep.Strs
import Derived.Ground.MpProg
import Derived.Ground.Names2Prog
import Derived.KernelRfl
import Derived.LaidEql
import Derived.LaidHandle
import Derived.Laws.BitsAllLaws
import Derived.Laws.CopyOwn
import Derived.Laws.Entries
import Derived.Laws.OwnMore
import Derived.Laws.RangeAny
import Derived.Laws.ResultCell
import Derived.Laws.Rows
import Derived.Laws.Tables
import Derived.Lay
import Derived.Lib.AppendIntMem
import Derived.Lib.Case
import Derived.Lib.CountLaws
import Derived.Lib.IndexBytes
import Derived.Lib.IndexMore
import Derived.Lib.ItoaMem
import Derived.Lib.ItoaNum
import Derived.Lib.Join
import Derived.Lib.LaidTab
import Derived.Lib.LaidU8
import Derived.Lib.LastIndexByte
import Derived.Lib.Replace
import Derived.Lib.SlTrimSet
import Derived.Lib.SplitLaws
import Derived.Lib.TrimUEq
import Derived.Lib.UnsafeStr
import Derived.OneCell
import Derived.OpenShut
import Derived.OrdersHeld
import Derived.OwnWalk
import Derived.ProofKit
import Derived.RowKitTokens
import Derived.Shelf.GgClosure.StringsIndexFunc
import Derived.Shelf.GgClosure.StringsTrimFunc
import Derived.Shelf.LaysM
import Derived.Shelf.Pu.ErrVarParseUint
import Derived.Shelf.Pu.ParseUintPublic10
import Derived.Shelf.Slices.Clone
import Derived.Shelf.Small.Strs
import Derived.Shelf.Small.Utf8
import Derived.Shelf.Small.Wraps
import Derived.Shelf.Strconv.Itoa0
import Derived.Shelf.Strconv.Itoa1
import Derived.Shelf.Strconv.Itoa2
import Derived.Shelf.Strconv.Itoa3
import Derived.Shelf.Strings.AsciiSet
import Derived.Shelf.Strings.Builder1
import Derived.Shelf.Strings.Builder2
import Derived.Shelf.Strings.BuilderF
import Derived.Shelf.Strings.BuilderK
import Derived.Shelf.Strings.Count
import Derived.Shelf.Strings.Cut
import Derived.Shelf.Strings.LastIndex
import Derived.Shelf.Strings.OnBuilder
import Derived.Shelf.Strings.Prefix
import Derived.Shelf.Strings.Replace
import Derived.Shelf.Strings.Runes
import Derived.Shelf.Strings.Search1
import Derived.Shelf.Strings.Search2
import Derived.Shelf.Strings.Search3
import Derived.Shelf.Strings.Shaped
import Derived.Shelf.Strings.SlTrimAscii
import Derived.Shelf.Strings.Split
import Derived.Shelf.Strings.SplitShaped
import Derived.Shelf.Strings.Trim
import Derived.Shelf.Unicode.CaseConvert
import Derived.Shelf.Unicode.CaseLaid
import Derived.Shelf.Unicode.CaseLookup
import Derived.Shelf.Unicode.CaseTo
import Derived.Shelf.Unicode.DecodeAny
import Derived.Shelf.Unicode.DecodeLast
import Derived.Shelf.Unicode.DecodeSlow
import Derived.Shelf.Unicode.Latin
import Derived.Shelf.Vars
import Derived.Stop.Asserts
import Derived.WalkKit
import Derived.WalkLawsBesides
import Derived.WalkSmall
import Derived.WalkSpells
set_option maxHeartbeats 32000000
set_option maxRecDepth 8000
set_option linter.unusedSimpArgs false
namespace Go
abbrev World.hz (w:World):Nat:=w.heap.size
end Go
namespace ByteArray
abbrev L (s:ByteArray):List UInt8:=s.data.toList
end ByteArray
namespace Go.Moor
open Go.RowKit
abbrev Ad (k i:Nat):Addr:=⟨k,i,none⟩
abbrev Pt (k:Nat):Value:=.pointer (some ⟨k,0,none⟩)
abbrev Pu (k i:Nat):Value:=.pointer (some ⟨k,i,none⟩)
abbrev Bv (l:List UInt8):ByteArray:=⟨l.toArray⟩
abbrev Sv (l:List UInt8):Value:=.string ⟨l.toArray⟩
abbrev Iv (n:Int):Value:=.int .i64 n
abbrev Ce (w:World) (k i:Nat) (v:Value):Prop:=w.cell? ⟨k,i,none⟩=some v
abbrev Bl (w v:World):Prop:=Below w.heap.size w v
theorem hI {p:Prop} (h:p):Hid p:=h
theorem am {α:Type} (a:α):∃x,x=a:=⟨_,rfl⟩
end Go.Moor
set_option linter.defProp false
namespace Go.Moor
abbrev ab:=@if_neg
abbrev ae:=@if_pos
abbrev af:=@Go.Calls.mono
abbrev ai:=@Go.RowKit.Below.refl
abbrev aB:=@congrArg
abbrev aD:=@Go.heap_setCell_same
abbrev aG:=@Nat.le_refl
abbrev aL:=@beq_eq_false_iff_ne
abbrev aO:=@Go.bodyPost_ret
abbrev aR:=@Nat.zero_le
abbrev aT:=@Array.getElem?_eq_some_iff
abbrev aY:=@Go.wpList_store_row
abbrev aZ:=@Go.below_setRow
abbrev bm:=@Go.run_string_add_sum
abbrev bu:=@Nat.le_trans
abbrev bH:=@Go.setRow_heap
abbrev bQ:=@Go.run_loadVar_row
abbrev bR:=@Go.results_cell_tmp
abbrev bS:=@Go.bodyPost_end
abbrev bT:=@Array.length_toList
abbrev bY:=@List.getElem?_eq_getElem
abbrev cb:=@Go.wpList_load_row
abbrev cg:=@List.take_of_length_le
abbrev ch:=@List.drop_eq_getElem_cons
abbrev cm:=@List.length_drop
abbrev cq:=@Nat.lt_of_lt_of_le
abbrev cr:=@Go.below_drewN
abbrev cC:=@List.length_append
abbrev cG:=@Go.Lib.toList_data
abbrev cL:=@List.length_take
abbrev cM:=@List.mem_cons
abbrev cU:=@UInt8.toNat_inj
abbrev dj:=@Go.run_store
abbrev dl:=@List.append_nil
abbrev dC:=@decide_eq_true
abbrev dD:=@Go.cell_of_row
abbrev dL:=@List.length_cons
abbrev dM:=@beq_iff_eq
abbrev dN:=@List.getElem?_eq_some_iff
abbrev dO:=@Go.heap_alloc_new
abbrev ee:=@decide_eq_false
abbrev ef:=@List.mem_of_getElem?
abbrev eh:=@Option.some.inj
abbrev ew:=@Go.World.cell?_alloc_new
abbrev eH:=@Go.Proofs.Tryz.underlying34
abbrev eU:=@List.append_assoc
abbrev eV:=@if_true
abbrev eW:=@List.drop_eq_nil_of_le
abbrev fj:=@Go.heap_setCell_other
abbrev fk:=@Go.World.cell?_alloc_lt
abbrev fm:=@List.mem_append
abbrev fx:=@Bool.and_eq_true
abbrev fy:=@List.getElem?_map
abbrev fA:=@Go.info_parts
abbrev fB:=@Go.World.cell?_setCell_other
abbrev fC:=@Go.run_callFunc_extern
abbrev fO:=@if_false
abbrev fP:=@Nat.zero_add
abbrev fQ:=@List.drop_drop
abbrev ge:=@Bool.false_eq_true
abbrev gn:=@List.nil_append
abbrev gI:=@List.all_eq_true
abbrev gJ:=@Except.ok.injEq
abbrev gK:=@List.length_nil
abbrev gX:=@List.length_map
abbrev gY:=@Go.Proofs.Tryz.func183
abbrev gZ:=@Go.Proofs.Tryz.ntmps183
abbrev ik:=@of_decide_eq_true
abbrev il:=@Bool.eq_false_iff
abbrev im:=@List.drop_of_length_le
abbrev iH:=@Go.World.cell?_of_block
abbrev iI:=@Nat.le_succ
abbrev iJ:=@Go.Lib.size_eq
abbrev iK:=@List.length_pos_iff
abbrev iL:=@List.cons_append
abbrev jf:=@List.take_add_one
abbrev jg:=@Go.Sem.run_bind
abbrev jE:=@Go.Lib.extract_data
abbrev jF:=@Nat.le_of_lt
abbrev jG:=@Go.Lib.byteCells_length
abbrev jH:=@Go.Lib.byteCells_append
abbrev jI:=@Go.Proofs.Tryz.underlying28
abbrev jJ:=@List.mem_map
abbrev jK:=@Array.getElem?_toList
abbrev jL:=@Nat.lt_or_ge
abbrev kd:=@Option.map_some
abbrev ke:=@List.take_left
abbrev kf:=@Go.wpList_append_lies
abbrev kg:=@List.map_append
abbrev kh:=@List.set_append_right
abbrev ki:=@Bool.eq_iff_iff
abbrev kU:=@Option.some.injEq
abbrev kV:=@Int.toNat_natCast
abbrev kW:=@List.getElem?_toArray
abbrev kX:=@decide_eq_true_eq
abbrev kY:=@Go.World.frozen?_alloc_old
abbrev kZ:=@List.mem_singleton
abbrev la:=@List.take_append_drop
abbrev lc:=@Go.IntWalk.i64_left
abbrev ld:=@Go.AllReadyH.cons
abbrev lD:=@Go.results_cell_row
abbrev lE:=@List.length_filter_le
abbrev lF:=@List.length_dropLast
abbrev lG:=@Go.World.cell?_alloc_at
abbrev lH:=@Go.World.var?_cell
abbrev lI:=@Nat.sub_self
abbrev lJ:=@Go.frozen_of_row
abbrev lK:=@Nat.sub_le
abbrev lL:=@Go.wpAnyH_ready
abbrev lM:=@Go.AllReadyH.nil
abbrev mJ:=@List.dropWhile_sublist
abbrev mL:=@Prod.mk.injEq
abbrev mM:=@List.map_cons
abbrev mN:=@Array.getElem?_push
abbrev mO:=@List.head?_eq_getElem?
abbrev mP:=@Go.World.ownsRow_nil
abbrev mQ:=@List.drop_zero
abbrev mS:=@Nat.add_zero
abbrev mT:=@List.not_mem_nil
abbrev mV:=@or_false
abbrev mW:=@List.getElem_mem
abbrev mX:=@List.getElem?_append_right
abbrev mY:=@bne_iff_ne
abbrev mZ:=@Go.World.drewN_drewN
abbrev oa:=@List.getElem_of_mem
abbrev oc:=@List.mem_cons_of_mem
abbrev od:=@List.flatMap_cons
abbrev oe:=@List.dropWhile_append_of_pos
abbrev og:=@List.cons.injEq
abbrev oj:=@ByteArray.size_extract
abbrev ol:=@List.isEmpty_iff
abbrev om:=@Go.World.cell?_setCell_same
abbrev oo:=@Go.run_convert_bytes_back
abbrev oq:=@Int.lt_of_lt_of_le
abbrev ot:=@Int.pow_succ
abbrev ou:=@Go.Lib.join_cons
abbrev ov:=@Bool.or_eq_false_iff
abbrev ow:=@List.getElem?_take
abbrev ox:=@List.getElem?_drop
abbrev oy:=@List.length_eq_zero_iff
abbrev oz:=@List.mem_iff_getElem?
abbrev oA:=@List.take_zero
abbrev oB:=@Nat.eq_zero_or_pos
abbrev oC:=@List.dropWhile_cons
abbrev oD:=@decide_eq_true_iff
abbrev oE:=@Go.Proofs.Tryz.func181
abbrev oF:=@Go.Proofs.Tryz.ntmps181
abbrev qD:=@List.getElem_drop
abbrev qE:=@Go.Lib.index_one
abbrev qF:=@List.getElem?_append_left
abbrev qG:=@List.takeWhile_append_of_pos
abbrev qH:=@Go.Calls.quiet_of_same
abbrev qI:=@Go.RowKit.ownsRow_setCell_below
abbrev qJ:=@List.length_reverse
abbrev qK:=@List.map_map
abbrev qM:=@ByteArray.size_append
abbrev qN:=@List.reverse_append
abbrev qO:=@Bool.or_eq_true
abbrev qP:=@Nat.pow_succ
abbrev qQ:=@List.any_eq_true
abbrev qR:=@List.getLast?_eq_getElem?
abbrev qS:=@Go.Lib.cells_of_tab
abbrev qT:=@Array.ext'
abbrev qU:=@Bool.true_and
abbrev qV:=@Bool.false_and
abbrev qW:=@Nat.zero_mul
abbrev qX:=@List.drop_left
abbrev qY:=@Go.run_underlying
abbrev qZ:=@List.setIfInBounds_toArray
abbrev ra:=@Go.Proofs.Tryz.func175
abbrev rb:=@Go.Proofs.Tryz.ntmps175
abbrev rc:=@Go.Proofs.Tryz.func74
abbrev rd:=@Go.Proofs.Tryz.ntmps74
abbrev uf:=@List.takeWhile_sublist
abbrev ug:=@Nat.add_comm
abbrev uh:=@List.mem_of_mem_take
abbrev ui:=@Go.Lib.add_plain
abbrev uj:=@Array.size_push
abbrev uk:=@List.eq_nil_of_length_eq_zero
abbrev ul:=@Go.Value.slice.injEq
abbrev um:=@Option.map_eq_some_iff
abbrev un:=@List.take_length
abbrev uo:=@Go.Lib.laidMet.reads
abbrev uq:=@List.any_eq_false
abbrev ur:=@Int.mul_nonneg
abbrev ut:=@List.getLast?_map
abbrev uu:=@List.replicate_succ
abbrev uv:=@decide_eq_false_iff_not
abbrev uw:=@Go.ints_oneCell
abbrev ux:=@Go.DataW.trod_string
abbrev uy:=@List.takeWhile_cons
abbrev uz:=@Bool.not_false
abbrev uA:=@Option.map_map
abbrev uB:=@Classical.byContradiction
abbrev uC:=@Go.Proofs.Tryz.ntmps123
abbrev uD:=@Go.RowKit.Below.heap_alloc
abbrev uE:=@Go.Sem.run_pure
abbrev uF:=@Go.Result.andThen_ok
abbrev uG:=@Go.heap_alloc_old
abbrev Bn:=@Go.run_slice_string_to_if
abbrev Bo:=@Go.run_slice_string_from_if
abbrev Bp:=@Go.Lib.replaceK_hit
abbrev Bq:=@List.isPrefixOf_iff_prefix
abbrev Br:=@List.dropWhile_cons_of_pos
abbrev Bt:=@Bool.and_true
abbrev Bu:=@Option.isSome_map
abbrev Bw:=@Array.toList_inj
abbrev Bx:=@of_decide_eq_false
abbrev By:=@Go.Lib.IsBuilderF.of
abbrev Bz:=@Go.Lib.fresh_isBuilder
abbrev BA:=@List.dropLast_concat_getLast
abbrev BB:=@List.dropLast_subset
abbrev BC:=@Option.getD_some
abbrev BD:=@List.isEmpty_eq_false_iff
abbrev BE:=@List.contains_iff_mem
abbrev BF:=@Nat.div_lt_iff_lt_mul
abbrev BG:=@Go.Lib.decDigits_length
abbrev BH:=@List.isSuffixOf_iff_suffix
abbrev BI:=@Int.pow_nonneg
abbrev BJ:=@Int.mul_le_mul_of_nonneg_right
abbrev BK:=@Int.mul_assoc
abbrev BL:=@Int.natCast_pow
abbrev BM:=@Nat.and_two_pow_sub_one_eq_mod
abbrev BN:=@List.getElem?_dropLast
abbrev BO:=@List.mem_range
abbrev BP:=@List.getElem?_range
abbrev BQ:=@Nat.mul_assoc
abbrev BR:=@List.dropLast_eq_take
abbrev BS:=@Go.setCell_eq_setRow
abbrev BT:=@Go.setRow_other
abbrev BU:=@Int.tmod_eq_emod_of_nonneg
abbrev BV:=@ByteArray.ext
abbrev BW:=@Go.run_sliceAt_array_l
abbrev BX:=@Go.wpList_append_own
abbrev BY:=@Nat.min_eq_left
abbrev BZ:=@List.getElem_take
abbrev Ca:=@Array.toList_append
abbrev PH:=@List.count_eq_zero_of_not_mem
abbrev PI:=@List.dropWhile_cons_of_neg
abbrev PJ:=@List.head?_dropWhile_not
abbrev PK:=@List.getLastD_eq_getLast?
abbrev PL:=@Array.getElem?_eq_getElem
abbrev PM:=@List.take_append_of_le_length
abbrev PN:=@List.extract_eq_take_drop
abbrev PO:=@List.takeWhile_append_dropWhile
abbrev PP:=@List.drop_append_of_le_length
abbrev PQ:=@UInt8.toNat_ofNat_of_lt'
end Go.Moor
namespace Go.Proofs
open Go.RowKit Go.Moor Go.Proofs.Tryz Go.Moor Go.RowKit
abbrev C0 (f:Nat) (a:Array Value) (w:World) (v:Value):Prop:=Calls Tryz.prog f a w λe w'=>e=.returned v/\w'=w
abbrev CB (f:Nat) (a:Array Value) (w:World) (v:Value):Prop:=Calls Tryz.prog f a w λe w'=>e=.returned v/\Below w.heap.size w w'
abbrev CN (f:Nat) (a:Array Value) (w:World) (v:Value):Prop:=Calls Tryz.prog f a w λe w'=>e=.returned v/\∃n,w'=w.drewN n
abbrev CQ (f:Nat) (a:Array Value) (w:World) (v:Value) (Q:World->Prop):Prop:=Calls Tryz.prog f a w λe w'=>e=.returned v/\Q w'
abbrev CP (f:Nat) (a:Array Value) (w:World) (Q:Ending->Prop):Prop:=Calls Tryz.prog f a w λe w'=>Q e/\Below w.heap.size w w'
abbrev CE (f:Nat) (a:Array Value) (w:World) (v:Ending):Prop:=Calls Tryz.prog f a w λe w'=>e=v/\Below w.heap.size w w'
theorem mR {P:Program} {f:Nat} {a:Array Value} {w:World} {v:Value} {R:World->Prop} {Q:Ending->World->Prop} (h:Calls P f a w λe w'=>e=.returned v/\R w') (k:∀w',R w'->Q (.returned v) w'):Calls P f a w Q:=by refine h.mono ?_;rintro e w' ⟨rfl,b⟩;exact k _ b
theorem mH {P:Program} {f:Nat} {a:Array Value} {w:World} {v:Value} {R:World->Prop} {Q:Ending->World->Prop} (h:Calls P f a w λe w'=>e=.returned v/\R w') (k:∀w',Hid (R w')->Q (.returned v) w'):Calls P f a w Q:=mR h k
theorem m0 {P:Program} {f:Nat} {a:Array Value} {w:World} {v:Value} {Q:Ending->World->Prop} (h:Calls P f a w λe w'=>e=.returned v/\w'=w) (k:Q (.returned v) w):Calls P f a w Q:=by refine mR h ?_;rintro w' rfl;exact k
end Go.Proofs
namespace Go.Moor
open Go
def Hm:List Int:=[4294967295,9223372036854775808,18446744073709551615,18446744073709551615,5764607548804038655,9223372041149743104,18446744073709551615,18446744073709551615,5764607583163777023,9223372036854775808,18446744073709551615,18446744073709551615,5764608132919590911,9223372036854775808,18446744073709551615,18446744073709551615,14987979620018552831,12105675803740602368,18446744073709551615,18446744073709551615,18158654495175737343,13258597309286973441,18446744073709551615,18446744073709551615,18158681364491141119,13258597309286973441,18446744073709551615,18446744073709551615]
def fG (k:Nat):Int:=Hm.getD k 0
def cI (s b:Int):Bool:=(decide (0<=s)&&decide (s<7))&&(bits .and .u64 (fG (s.toNat*4+(b/64).toNat)/2^(b%64).toNat) 1==1)
def bC (n:Nat):UInt8:=if n<10 then(48+n).toUInt8 else(55+n).toUInt8
def gR (s:Int) (c:UInt8):List UInt8:=if cI s c.toNat then [37,bC (c.toNat/16),bC (c.toNat%16)] else [c]
def ah (s:Int) (l:List UInt8):List UInt8:=l.flatMap (gR s)
def aw (b:Int):Int:=if 48<=b/\b<=57 then b- 48 else if 65<=b/\b<=70 then b- 55 else if 97<=b/\b<=102 then b- 87 else 16
def fX:List UInt8->Bool
 |a::b::_=>decide (aw a.toNat<16)&&decide (aw b.toNat<16)
 |_=>false
def hY (a b:UInt8):UInt8:=(16*(aw a.toNat).toNat+(aw b.toNat).toNat).toUInt8
def aQ:List UInt8->List UInt8
 | []=>[]
 |c::[]=>[c]
 |c::a::[]=>[c,a]
 |c::a::b::r=>if c=37 then(if fX (a::b::r) then hY a b::aQ r else 37::aQ (a::b::r)) else c::aQ (a::b::r)
theorem pD (c:UInt8) (l:List UInt8) (h:c≠37):aQ (c::l)=c::aQ l:=by
 match l with
 | []=>simp[aQ]
 | [a]=>simp[aQ]
 |a::b::r=>simp_all[aQ]
theorem rY (a b:UInt8) (r:List UInt8) (h:fX (a::b::r)=true):aQ (37::a::b::r)=hY a b::aQ r:=by simp_all[aQ]
theorem rZ (l:List UInt8) (h:fX l=false):aQ (37::l)=37::aQ l:=by
 match l with
 | []=>simp[aQ]
 | [a]=>simp[aQ]
 |a::b::r=>simp_all[aQ]
theorem sa (p l:List UInt8) (h:∀c∈p,c≠37):aQ (p++l)=p++aQ l:=by
 induction p with
 |nil=>rfl
 |cons c p a=>grind[pD]
theorem Hn (p:List UInt8) (h:∀c∈p,c≠37):aQ p=p:=by have:=sa p [] h;simpa[aQ] using this
theorem ll (c:UInt8):∀l:List UInt8,(Lib.indexByte l c= -1/\∀x∈l,x≠c)\/∃p r,l=p++c::r/\(∀x∈p,x≠c)/\Lib.indexByte l c=(p.length:Int)
 | []=>Or.inl ⟨rfl,by simp⟩
 |b::l=>by
  by_cases d:b=c
  .subst d
   exact Or.inr ⟨[],l,rfl,by simp,by simp[Lib.indexByte]⟩
  .rcases ll c l with⟨g,e⟩|⟨p,r,rfl,e,f⟩
   .refine Or.inl ⟨?_,?_⟩
    .simp[Lib.indexByte,d,g]
    .intro x a
     rcases cM.1 a with rfl|a
     .exact d
     .exact e x a
   .refine Or.inr ⟨b::p,r,rfl,?_,?_⟩
    .intro x a
     rcases cM.1 a with rfl|a
     .exact d
     .exact e x a
    .have:¬((p.length:Int)= -1):=by omega
     simp[Lib.indexByte,d,f,this]
theorem xF (c:UInt8) (l:List UInt8):(Lib.cut l [c]=(l,[],false)/\∀x∈l,x≠c)\/∃p r,l=p++c::r/\(∀x∈p,x≠c)/\Lib.cut l [c]=(p,r,true):=by
 obtain⟨e,a⟩|⟨p,r,b,a,d⟩:=ll c l
 .grind[Lib.cut,Lib.index_one]
 .refine .inr ⟨p,r,b,a,?_⟩
  unfold Lib.cut;rw[qE,d];subst b;simp
theorem gy (b:Int):0<=aw b/\aw b<=16:=by grind[aw]
theorem Ho (s:Int) (c:UInt8):(gR s c).length=1+2*(cI s c.toNat).toNat:=by
 unfold gR;split<;>rename_i h
 .simp[h]
 .grind
def nH (s:Int) (l:List UInt8):Nat:=(l.map λc=>(cI s c.toNat).toNat).sum
theorem xG (s:Int):∀l:List UInt8,(ah s l).length=l.length+2*nH s l
 | []=>rfl
 |c::l=>by
  show(gR s c++ah s l).length=_;rw[cC,Ho,xG s l];simp[nH];omega
theorem xH (s:Int):∀l:List UInt8,nH s l<=l.length
 | []=>by simp[nH]
 |c::l=>by
  have:=xH s l;have a:(cI s c.toNat).toNat<=1:=by cases cI s c.toNat<;>simp
  simp[nH] at this⊢;omega
theorem Hp (s:ByteArray) (k:Nat) (h:k<s.size):s.data.toList.take (k+1)=s.data.toList.take k++ [s[k]]:=by rw[List.take_succ_eq_append_getElem (by simpa using h)];rfl
theorem al (l:List UInt8):(⟨l.toArray⟩:ByteArray).size=l.length:=by rfl
theorem Hq:∀x y:Fin 16,IntKind.u8.wrap (bits .or .u64 (IntKind.u64.wrap ((x.val:Int)*16)) (y.val:Int))=((16*x.val+y.val).toUInt8.toNat:Int):=by decide+kernel
theorem Hr (a b:UInt8) (l:List UInt8) (h:fX (a::b::l)=true):IntKind.u8.wrap (bits .or .u64 (IntKind.u64.wrap (aw a.toNat*16)) (aw b.toNat))=((hY a b).toNat:Int):=by
 have e:aw a.toNat<16/\aw b.toNat<16:=by simpa[fX] using h
 have d:=gy a.toNat;have c:=gy b.toNat;have:=Hq ⟨(aw a.toNat).toNat,by omega⟩ ⟨(aw b.toNat).toNat,by omega⟩;unfold hY;rw[<-this];simp only[Int.toNat_of_nonneg d.1,Int.toNat_of_nonneg c.1]
theorem mn:∀(n:Nat) (l:List UInt8),l.length<=n->(aQ l).length<=l.length
 |0,l,h=>by
  grind[aQ]
 |n+1,[],_=>by simp[aQ]
 |n+1,c::l,h=>by
  by_cases e:c=37
  .subst e
   by_cases d:fX l=true
   .match l,d,h with
    |a::b::r,d,h=>rw[rY a b r d];have:=mn n r (by simp at h;omega);simp;omega
   .rw[rZ l (il.2 d)]
    have:=mn n l (by simp at h;omega);simp;omega
  .rw[pD c l e]
   have:=mn n l (by simp at h;omega);simp;omega
def fH (ws:List Int) (b:Int):Bool:=bits .and .u64 (ws.getD (b/64).toNat 0/2^(b%64).toNat) 1==1
def dq (ws:List Int) (c:UInt8):List UInt8:=if fH ws c.toNat then [37,bC (c.toNat/16),bC (c.toNat%16)] else [c]
def aJ (ws:List Int) (l:List UInt8):List UInt8:=l.flatMap (dq ws)
def dW (s:Int):List Int:=if 0<=s/\s<7 then [fG (s.toNat*4),fG (s.toNat*4+1),fG (s.toNat*4+2),fG (s.toNat*4+3)] else [0,0,0,0]
theorem xI (s:Int) (c:UInt8):fH (dW s) c.toNat=cI s c.toNat:=by
 have g:=c.toNat_lt;have a:((c.toNat:Int)/64).toNat=0\/((c.toNat:Int)/64).toNat=1\/((c.toNat:Int)/64).toNat=2\/((c.toNat:Int)/64).toNat=3:=by omega
 unfold fH dW cI;by_cases h:0<=s/\s<7
 .have d:=dC h.1
  have b:=dC h.2;rw[ae h,d,b,Bool.and_self,qU];rcases a with a|a|a|a<;>rw[a]<;>rfl
 .rw[ab h]
  have e:(decide (0<=s)&&decide (s<7))=false:=by
   by_cases f:0<=s
   .grind
   .simp[f]
  rw[e,qV];have z:([0,0,0,0]:List Int).getD ((c.toNat:Int)/64).toNat 0=0:=by rcases a with a|a|a|a<;>rw[a]<;>rfl
  rw[z,Int.zero_ediv];decide
theorem Hs (s:Int) (l:List UInt8):aJ (dW s) l=ah s l:=by
 have:dq (dW s)=gR s:=by funext c;unfold dq gR;rw[xI]
 unfold aJ ah;rw[this]
theorem Ht (a:List Int) (l:List UInt8) (c:UInt8):aJ a (l++ [c])=aJ a l++dq a c:=by simp[aJ]
theorem escW_len (a:List Int):∀l:List UInt8,(aJ a l).length<=3*l.length
 | []=>by simp[aJ]
 |c::l=>by
  have:=escW_len a l;have b:(dq a c).length<=3:=by unfold dq;split<;>simp
  show(dq a c++aJ a l).length<=_;rw[cC,dL];omega
def bJ (base most:Int):Int->List UInt8->Option Int
 |n,[]=>some n
 |n,c::l=>if aw c.toNat<base then(if n*base+aw c.toNat<=most then bJ base most (n*base+aw c.toNat) l else none) else none
def cd (most:Int):List UInt8->Option Int
 | []=>none
 |48::120::l=>bJ 16 most 0 l
 |48::c::l=>bJ 8 most 0 (c::l)
 |l=>bJ 10 most 0 l
theorem ma (base a:Int) (b:0<=base):∀(l:List UInt8) (n m:Int),0<=n->n<=a->bJ base a n l=some m->0<=m/\m<=a
 | [],n,m,h0,h1,h=>by grind[bJ]
 |c::l,n,m,h0,h1,h=>by
  simp only[bJ] at h;split at h
  .split at h
   .rename_i d
    have e:=(gy c.toNat).1;have f:=ur h0 b;exact ma base a b l _ m (by omega) d h
   .simp at h
  .simp at h
def ar (c:UInt8):List UInt8->List (List UInt8)
 | []=>[[]]
 |b::l=>if b=c then []::ar c l else(match ar c l with|x::xs=>(b::x)::xs| []=>[[b]])
theorem hO (c:UInt8):∀l:List UInt8,ar c l≠[]
 | []=>by simp[ar]
 |b::l=>by
  grind[ar]
theorem nD (c:UInt8):∀l:List UInt8,(∀x∈l,x≠c)->ar c l=[l]
 | [],_=>rfl
 |b::l,h=>by
  unfold ar;rw[ab (h b (by simp)),nD c l (λx a=>h x (by simp[a]))]
theorem ks (c:UInt8) (r:List UInt8):∀p:List UInt8,(∀x∈p,x≠c)->ar c (p++c::r)=p::ar c r
 | [],_=>by simp[ar]
 |b::p,h=>by
  simp_all[ar,ks]
theorem rL (c:UInt8):∀(k:Nat) (l:List UInt8),l.count c=k->Lib.splitK [c] 0 k l=ar c l
 |0,l,h=>by
  rw[nD c l (λx j e=>by grind)];rfl
 |k+1,l,h=>by
  rcases ll c l with⟨_,a⟩|⟨p,r,rfl,a,g⟩
  .grind
  .rw[ks c r p a]
   unfold Lib.splitK;rw[qE,g];have f:=PH (λd=>a c d rfl);have i:List.count c r=k:=by rw[List.count_append,f,List.count_cons_self] at h;omega
   have b:((p.length:Int)== -1)=false:=aL.2 (by omega);rw[b];simp only[ge,fO,kV,mS,ke,List.length_singleton];rw[show List.drop (p.length+1) (p++c::r)=r by simp,rL c k r i]
def cn (l:List UInt8):List (List UInt8):=
 if 1<(ar 46 l).length/\(ar 46 l).getLast? =some [] then(ar 46 l).dropLast else ar 46 l
theorem pi (l:List UInt8):cn l≠[]:=by
 unfold cn;split
 .rename_i h
  intro e;have:=aB List.length e;simp at this;omega
 .simp[hO]
theorem hR (c:UInt8):∀(l:List UInt8) (x:List UInt8),x∈ar c l->x.length<=l.length
 | [],x,h=>by grind[ar]
 |b::l,x,h=>by
  unfold ar at h;split at h
  .rcases cM.1 h with rfl|h
   .simp
   .have:=hR c l x h;simp;omega
  .split at h
   .rename_i y d a
    rcases cM.1 h with rfl|h
    .have:=hR c l y (by rw[a];simp);simp;omega
    .have:=hR c l x (by grind);simp;omega
   .grind
theorem rM (l x:List UInt8) (h:x∈cn l):x.length<=l.length:=by
 unfold cn at h;split at h
 .exact hR 46 l x (BB _ h)
 .exact hR 46 l x h
def iV (base:Int) (l:List UInt8):Bool:=l.all λc=>decide (aw c.toNat<base)
def gx (l:List UInt8):Bool:=
 if Lib.hasPrefix l [48,120] then iV 16 (l.drop 2) else !l.isEmpty&&iV 10 l
theorem jp (a:Int) (b:0<=a) (l:List UInt8) (m:Int) (h:cd a l=some m):0<=m/\m<=a:=by
 unfold cd at h;split at h
 .simp at h
 .exact ma 16 a (by omega) _ 0 m (by omega) b h
 .exact ma 8 a (by omega) _ 0 m (by omega) b h
 .exact ma 10 a (by omega) _ 0 m (by omega) b h
def fF:Int->List (List UInt8)->Option Int
 |a,[]=>some a
 |a,x::xs=>match cd 255 x with|some n=>fF (a*256+n) xs|none=>none
def dy (ls:List (List UInt8)):Option Int:=
 if 4<ls.length then none else
 match fF 0 ls.dropLast with
 |none=>none
 |some a=>match cd (2^(8*(5- ls.length))- 1) (ls.getLastD []) with
  |none=>none
  |some n=>some (a*2^(8*(5- ls.length))+n)
theorem FO (A M i p:Nat) (e:2^i=p) (b:A<16777216) (a:p<=4294967296) (d:M<p):bits .or .u64 ((A*p:Nat):Int) (M:Int)=((A*p+M:Nat):Int):=by have c:A*p<=16777216*4294967296:=Nat.mul_le_mul (by omega) a;rw[u64_or_nat (A*p) M (by omega) (by omega),nat_join i (A*p) M (by simp_all) (by omega)]
theorem me (a n:Int) (i p:Nat) (f:2^i=p) (b:p<=4294967296) (g:0<=a) (c:a<16777216) (e:0<=n) (d:n<p):bits .or .u64 (a*p) n=a*p+n:=by grind[Int.eq_ofNat_of_zero_le,FO]
theorem wX:∀(b:List (List UInt8)) (a m:Int),0<=a->fF a b=some m->0<=m/\m<(a+1)*256^b.length
 | [],a,m,h0,h=>by grind[fF]
 |x::b,a,m,h0,h=>by
  unfold fF at h;split at h
  .rename_i n c
   have e:=jp 255 (by omega) x n c;have:=wX b (a*256+n) m (by omega) h;refine⟨this.1,oq this.2 ?_⟩;rw[dL,ot];have d:(0:Int)<=256^b.length:=BI (by decide);have:(a*256+n+1)*256^b.length<=((a+1)*256)*256^b.length:=BJ (by omega) d;rw[BK,Int.mul_comm 256 (256^b.length)] at this;exact this
  .simp at h
def gh (a j:Nat):Nat:=a/2^(24- 8*j)%256
theorem wY (a j:Nat):gh a j<256:=Nat.mod_lt _ (by omega)
def gN (a:Nat):List UInt8:=Lib.join [Lib.decDigits (gh a 0),Lib.decDigits (gh a 1),Lib.decDigits (gh a 2),Lib.decDigits (gh a 3)] [46]
theorem FP (a k:Nat) (b:a<4294967296):bits .and .u64 ((a:Int)/2^k) 255=((a/2^k%256:Nat):Int):=by
 have e:(a:Int)/2^k=((a/2^k:Nat):Int):=by rw[Int.natCast_ediv,BL];rfl
 have c:a/2^k<=a:=Nat.div_le_self _ _;rw[e,show(255:Int)=((255:Nat):Int) from rfl,u64_and_nat (a/2^k) 255 (by omega) (by omega),show(255:Nat)=2^8- 1 from rfl,BM]
theorem pj (u:Nat) (h:u<256):(Lib.decDigits u).length<=3:=by grind[Lib.decDigits_length,Lib.nDigits_small,Lib.nDigits_big]
theorem FQ (a:Nat):gN a=Lib.decDigits (gh a 0)++46::(Lib.decDigits (gh a 1)++46::(Lib.decDigits (gh a 2)++46::Lib.decDigits (gh a 3))):=by simp[gN,ou,Lib.joinTail]
theorem wZ (a:Nat):(gN a).length<=15:=by grind[pj,wY,FQ]
theorem FR (e:List (List UInt8)) (n:Int) (p:e≠[]) (h:dy e=some n):0<=n/\n<4294967296:=by
 unfold dy at h;split at h
 .simp at h
 .rename_i o
  split at h
  .simp at h
  .rename_i a j
   split at h
   .simp at h
   .rename_i m d
    simp only[kU] at h;subst h;have l:1<=e.length:=(by cases e with|nil=>grind|cons x k=>simp);have b:=wX _ _ _ (by omega) j;rw[lF] at b;have c:e.length=1\/e.length=2\/e.length=3\/e.length=4:=(by omega);obtain c|c|c|c:=c
    .rw[c] at b d⊢
     have i:=jp _ (by decide) _ _ d;have g:(2:Int)^(8*(5- 1))=4294967296:=(by decide);have f:((0:Int)+1)*256^(1- 1)=1:=(by decide);rw[g] at i⊢;rw[f] at b;omega
    .rw[c] at b d⊢
     have i:=jp _ (by decide) _ _ d;have g:(2:Int)^(8*(5- 2))=16777216:=(by decide);have f:((0:Int)+1)*256^(2- 1)=256:=(by decide);rw[g] at i⊢;rw[f] at b;omega
    .rw[c] at b d⊢
     have i:=jp _ (by decide) _ _ d;have g:(2:Int)^(8*(5- 3))=65536:=(by decide);have f:((0:Int)+1)*256^(3- 1)=65536:=(by decide);rw[g] at i⊢;rw[f] at b;omega
    .rw[c] at b d⊢
     have i:=jp _ (by decide) _ _ d;have g:(2:Int)^(8*(5- 4))=256:=(by decide);have f:((0:Int)+1)*256^(4- 1)=16777216:=(by decide);rw[g] at i⊢;rw[f] at b;omega
def rN:List UInt8:=[0,9,10,13,32,35,47,58,60,62,63,64,91,92,93,94,124,37]
def dp (c:UInt8):Bool:=decide (0<=Lib.indexByte rN c)||cI 0 c.toNat
def fU (l:List UInt8):Option (List UInt8):=
 if l=[] then none else if l.any dp then none else
 if gx ((cn (Lib.toLowerA l)).getLastD []) then(dy (cn (Lib.toLowerA l))).map (λa=>gN a.toNat) else some (Lib.toLowerA l)
theorem FS:∀c:Fin 256,cI 0 c.val=false->c.val<128:=by decide+kernel
theorem FT (c:UInt8) (h:dp c=false):c.toNat<128:=by
 have a:cI 0 c.toNat=false:=by unfold dp at h;exact(ov.1 h).2
 exact FS ⟨c.toNat,c.toNat_lt⟩ a
theorem pq (c:UInt8):∀l:List UInt8,(ar c l).length<=l.length+1
 | []=>by simp[ar]
 |b::l=>by
  have:=pq c l;unfold ar;split
  .simp;omega
  .split
   .rename_i x a h;rw[h] at this;simp at this⊢;omega
   .simp
abbrev Bs:=List UInt8
structure Auth where
 e:Bs
 d:Bs
 has:Bool
 h:Bs
 p:Int
structure Way where
 o:Bool
 text:Bs
 g:List Bs
structure Adr where
 s:Bs
 t:Auth
 w:Way
 q:Option Bs
 f:Option Bs
structure Cuts where
 s:Bs
 i:Bs
 q:Option Bs
 f:Option Bs
def noAuth:Auth:=⟨[],[],false,[], -1⟩
def ct (c:UInt8):Bool:=(decide (65<=c.toNat)&&decide (c.toNat<=90))||(decide (97<=c.toNat)&&decide (c.toNat<=122))
def ex (c:UInt8):Bool:=ct c||(decide (48<=c.toNat)&&decide (c.toNat<=57))||c==43||c==45||c==46
def li:Bs->Bool
 | []=>false
 |c::_=>ct c
def cw (l:Bs):Bool:=li l&&l.all ex
def oS:Bs:=[104,116,116,112]
def oT:Bs:=[104,116,116,112,115]
def oU:Bs:=[119,115]
def oV:Bs:=[119,115,115]
def oW:Bs:=[102,116,112]
def sFile:Bs:=[102,105,108,101]
def cE (s:Bs):Int×Bool:=
 if s=oS\/s=oU then(80,true)
 else if s=oT\/s=oV then(443,true)
 else if s=oW then(21,true)
 else if s=sFile then(-1,true)
 else(-1,false)
def ao (s:Bs):Bool:=(cE s).2
def bE (s:Bs):Int:=if ao s then 3 else 2
def aN (c:UInt8):Bs->Option (Bs×Bs)
 | []=>none
 |b::l=>if b=c then some ([],l) else(aN c l).map λp=>(b::p.1,p.2)
def aU (t:Bs):Bs×Bs:=
 match aN 58 t with
 |some (n,r)=>if cw n then(Lib.toLowerA n,r) else([],t)
 |none=>([],t)
def ay (c:UInt8) (t:Bs):Bs×Option Bs:=
 match aN c t with
 |some (a,b)=>(a,some b)
 |none=>(t,none)
def ej (t:Bs):Cuts:=
 let s:=aU t;let f:=ay 35 s.2;let q:=ay 63 f.1;⟨s.1,q.1,q.2,f.2⟩
def blankB (c:UInt8):Bool:=decide (c.toNat<33)
def it (c:UInt8):Bool:=c==9||c==10||c==13
def fp (p:UInt8->Bool) (l:Bs):Bs:=((l.dropWhile p).reverse.dropWhile p).reverse
def dE (t:Bs):Bs:=(fp blankB t).filter λc=>!it c
def aq (s t:Bs):Bs:=if ao s then t.map λc=>if c=92 then 47 else c else t
def bd (t:Bs):Bs×Bs:=(t.takeWhile (·≠47),t.dropWhile (·≠47))
def bI (t:Bs):Bs:=match t with|47::l=>l|l=>l
def be:Bs->Bs
 |37::50::69::l=>37::50::101::be l
 |c::l=>c::be l
 | []=>[]
def bG (p:Bs):Nat:=
 let l:=be p
 if l=[46]\/l=[37,50,101] then 1
 else if l=[46,46]\/l=[46,37,50,101]\/l=[37,50,101,46]\/l=[37,50,101,37,50,101] then 2
 else 0
def aC:Bs->Bool
 | [a,b]=>ct a&&(b==58||b==124)
 |_=>false
def ek (l:Bs):Bool:=aC l&&l.getD 1 0==58
def aI (s:Bs) (segs:List Bs):List Bs:=
 if segs.length=1/\s=sFile/\ek (segs.headD [])=true then segs else segs.dropLast
def fR (s p:Bs) (first:Bool):Bs:=if first&&decide (s=sFile)&&aC p then p.take 1++ [58] else ah 4 p
def bU (s:Bs):List Bs->List Bs->List Bs
 |segs,[]=>segs
 |segs,p::l=>
  if bG p=0 then bU s (segs++ [fR s p segs.isEmpty]) l
  else bU s ((if bG p=2 then aI s segs else segs)++(if l.isEmpty then [[]] else [])) l
def bO (s:Bs) (begun:List Bs) (t:Bs):List Bs:=
 if t=[]/\ao s=false then begun else bU s begun (ar 47 (bI t))
def aV (s:Bs) (begun:List Bs) (t:Bs):Way:=⟨false,[],bO s begun t⟩
def jn (c:UInt8) (t:Bs):Option (Bs×Bs):=(aN c t.reverse).map λp=>(p.2.reverse,p.1.reverse)
def bB (t:Bs):Bs×Bs:=
 match jn 64 t with
 |some (a,b)=>(a,b)
 |none=>([],t)
def fD (t:Bs):Nat:=if t.head? =some 91 then(match aN 93 t with|some (a,_)=>a.length+1|none=>0) else 0
def cy (t:Bs):Bs×Bs:=
 match aN 58 (t.drop (fD t)) with
 |some (a,b)=>(t.take (fD t)++a,b)
 |none=>(t,[])
def cf:Nat->Bs->Nat
 |n,[]=>n
 |n,c::l=>cf (n*10+(c.toNat- 48)) l
def fS (c:UInt8):Bool:=decide (48<=c.toNat)&&decide (c.toNat<=57)
def cV (t s:Bs):Option Int:=
 if t=[] then some (-1)
 else if t.all fS&&decide (cf 0 t<=65535) then(if(cf 0 t:Int)=(cE s).1 then some (-1) else some (cf 0 t))
 else none
section
variable (H : Bs → Bool → Option Bs)
def eX (t authority s:Bs):Option Bs:=if t=[]/\authority≠[] then none else H t (ao s)
def gq (t s:Bs):Except Int Auth:=
 let lp:=bB t;let up:=ay 58 lp.1;let hp:=cy lp.2;match eX H hp.1 t s with
 |none=>.error 4
 |some h=>match cV hp.2 s with
  |none=>.error 5
  |some p=>.ok ⟨ah 5 up.1,ah 5 (up.2.getD []),true,h,p⟩
def cu (s t:Bs):Except Int (Auth×Way):=
 let c:=bd t;match gq H c.1 s with
 | .error e=>.error e
 | .ok a=>.ok (a,aV s [] c.2)
def dQ (t:Bs):Option Bs:=
 if t=[] then some [] else match H t true with
  |none=>none
  |some h=>if h=[108,111,99,97,108,104,111,115,116] then some [] else some h
def ey (h:Bs):Auth:=⟨[],[],true,h, -1⟩
def dc (s m:Bs) (q:Option Bs) (base:Adr):Way×Option Bs:=
 if m≠[] then(aV s (aI s base.w.g) m,q) else(base.w,if q.isSome then q else base.q)
def cN (segs:List Bs):List Bs:=if segs.length>0/\ek (segs.headD [])=true then segs.take 1 else []
def ez (m:Bs) (q:Option Bs) (base:Option Adr):Except Int (Auth×Way×Option Bs):=
 if [47,47].isPrefixOf m then
  let c:=bd (m.drop 2)
  if aC c.1 then .ok (ey [],aV sFile [] (m.drop 2),q)
  else match dQ H c.1 with
   |none=>.error 4
   |some h=>.ok (ey h,aV sFile [] c.2,q)
 else match base with
  |none=>.ok (ey [],aV sFile [] m,q)
  |some b=>
   if aC (bd (bI m)).1 then .ok (ey b.t.h,aV sFile [] m,q)
   else if m.head? =some 47 then .ok (ey b.t.h,aV sFile (cN b.w.g) m,q)
   else let g:=dc sFile m q b
    .ok (ey b.t.h,g.1,g.2)
def cW (t:Bs):Bs:=t.dropWhile (·=47)
def dd (t:Bs):Bs:=(ah 0 t).flatMap λc=>if c=32 then [37,50,48] else [c]
def eA (s m:Bs) (q:Option Bs) (b:Adr):Except Int (Auth×Way×Option Bs):=
 if [47,47].isPrefixOf m then
  match cu H s (if ao s then cW (m.drop 2) else m.drop 2) with
  | .error e=>.error e
  | .ok (a,w)=>.ok (a,w,q)
 else if m.head? =some 47 then .ok (b.t,aV s [] m,q)
 else let g:=dc s m q b
  .ok (b.t,g.1,g.2)
def dR (s m:Bs):Except Int (Auth×Way):=
 if [47,47].isPrefixOf m then cu H s (m.drop 2)
 else if m.head? =some 47 then .ok (noAuth,aV s [] m)
 else .ok (noAuth,⟨true,dd m,[]⟩)
def dS (s m:Bs) (q:Option Bs) (base:Option Adr):Except Int (Auth×Way×Option Bs):=
 if s=sFile then ez H m q base
 else match base with
  |some b=>eA H s m q b
  |none=>match(if ao s then cu H s (cW m) else dR H s m) with
   | .error e=>.error e
   | .ok (a,w)=>.ok (a,w,q)
def eB (s m:Bs) (q f:Option Bs) (base:Option Adr):Except Int Adr:=
 match dS H s (aq s m) (q.map (ah (bE s))) base with
 | .error e=>.error e
 | .ok (a,w,q2)=>.ok ⟨s,a,w,q2,f.map (ah 1)⟩
def iu (c:Cuts) (base:Option Adr):Except Int Adr:=
 if c.s≠[] then
  eB H c.s c.i c.q c.f (base.bind λb=>if b.s=c.s/\ao c.s=true then some b else none)
 else match base with
  |none=>.error 3
  |some b=>
   if b.w.o then(if c.i=[]/\c.q=none/\c.f.isSome then .ok {b with f:=c.f.map (ah 1)} else .error 3)
   else eB H b.s c.i c.q c.f (some b)
def bL (t:Bs) (base:Option Adr):Except Int Adr:=iu H (ej (dE t)) base
def eC (t base:Bs):Except Int Adr:=
 if base=[] then bL H t none
 else match bL H base none with
  | .error _=>.error 2
  | .ok b=>bL H t (some b)
end
def eY (p:Int):Bs:=Lib.decDigits p.toNat
def dT (a:Auth):Bs:=if a.p= -1 then a.h else a.h++58::eY a.p
def dw (a:Auth):Bs:=if a.d≠[] then a.e++58::(a.d++ [64]) else if a.e≠[] then a.e++ [64] else []
def iQ (a:Auth):Bs:=if a.has then 47::47::(dw a++dT a) else []
def bZ (l:List Bs):Bs:=l.flatMap λp=>47::p
def dU (w:Way):Bs:=if w.o then w.text else bZ w.g
def fT (a:Adr):Bs:=if a.t.has=false/\1<a.w.g.length/\a.w.g.head? =some [] then [47,46] else []
def cv (c:UInt8):Option Bs->Bs
 |none=>[]
 |some t=>c::t
def gf (a:Adr):Bs:=a.s++58::(iQ a.t++(fT a++(dU a.w++(cv 63 a.q++cv 35 a.f))))
def iR (H:Bs->Bool->Option Bs) (t base:Bs):Except Int Bs:=
 if t.length>2000\/base.length>2000 then .error 1
 else match eC H t base with
  | .error e=>.error e
  | .ok a=>.ok (gf a)
def Ey (c:UInt8):Prop:=97<=c.toNat/\c.toNat<=122
def Ez (l:Bs):Prop:=l≠[]/\∀c∈l,Ey c
theorem tellSegs_app (a b:List Bs):bZ (a++b)=bZ a++bZ b:=by simp[bZ]
theorem jo (c:UInt8):∀l:Bs,(∀x∈l,x≠c)->aN c l=none
 | [],_=>rfl
 |b::l,h=>by
  rw[aN,ab (h b (by simp)),jo c l (λx a=>h x (by simp[a]))];rfl
theorem hJ (c:UInt8) (r:Bs):∀p:Bs,(∀x∈p,x≠c)->aN c (p++c::r)=some (p,r)
 | [],_=>by simp[aN]
 |b::p,h=>by
  simp_all[aN,hJ]
def CA (c:UInt8):Prop:=65<=c.toNat/\c.toNat<=90
theorem wg:∀(l r:Bs) (n:Nat),cf n (l++r)=cf (cf n l) r
 | [],_,_=>rfl
 |c::l,r,n=>by
  show cf (n*10+(c.toNat- 48)) (l++r)=_;rw[wg l r];rfl
section
variable (H : Bs → Bool → Option Bs)
theorem EA (s:Int) (a b:Bs):ah s (a++b)=ah s a++ah s b:=by simp[ah]
end
def wO (s p:Bs):Prop:=bG p=0/\∀c∈p,cI 4 c.toNat=false/\c≠47/\(ao s=true->c≠92)
structure Good (H:Bs->Bool->Option Bs) (a:Adr):Prop where
 s:cw a.s=true
 low:Lib.toLowerA a.s=a.s
 e:∀c∈a.t.e,cI 5 c.toNat=false
 d:∀c∈a.t.d,cI 5 c.toNat=false
 bare:a.t.has=false->a.t=noAuth
 h:a.t.has=true->a.s≠sFile->H a.t.h (ao a.s)=some a.t.h
 hostF:a.s=sFile->dQ H a.t.h=some a.t.h
 empty:a.t.h=[]->a.t.e=[]/\a.t.d=[]/\a.t.p= -1
 file:a.s=sFile->a.t.e=[]/\a.t.d=[]/\a.t.p= -1
 p:a.t.p= -1\/(0<=a.t.p/\a.t.p<=65535/\a.t.p≠(cE a.s).1)
 spec:ao a.s=true->a.t.has=true/\a.w.o=false/\a.w.g≠[]
 o:a.w.o=true->a.t.has=false/\a.w.g=[]/\(∀c∈a.w.text,33<=c.toNat/\c.toNat<=126/\c≠35/\c≠63)/\a.w.text.head?≠some 47
 text:a.w.o=false->a.w.text=[]/\(a.t.has=false->a.w.g≠[])
 seg:∀p∈a.w.g,wO a.s p
 drive:a.s=sFile->aC (a.w.g.headD [])=true->ek (a.w.g.headD [])=true
 q:∀q,a.q=some q->∀c∈q,cI (bE a.s) c.toNat=false
 f:∀f,a.f=some f->∀c∈f,cI 1 c.toNat=false
theorem nx (c:UInt8) (k:Nat) (h:c.toNat≠k) (a:k<256):c≠k.toUInt8:=by intro e;apply h;rw[e,show k.toUInt8.toNat=k%256 from rfl];omega
theorem Fy:∀c:Fin 256,ex c.val.toUInt8=true->33<=c.val/\c.val<=126/\c.val≠58:=by decide+kernel
theorem Fz (c:UInt8) (h:ex c=true):33<=c.toNat/\c.toNat<=126/\c≠58:=by have:=Fy ⟨c.toNat,c.toNat_lt⟩ (by simpa using h);exact⟨this.1,this.2.1,nx c 58 this.2.2 (by omega)⟩
theorem FA (s:Bs) (h:cw s=true):s≠[]/\∀c∈s,33<=c.toNat/\c.toNat<=126/\c≠58:=by unfold cw at h;rw[fx] at h;refine⟨?_,λc a=>Fz c (gI.1 h.2 c a)⟩;rintro rfl;cases h.1
section
variable (H : Bs → Bool → Option Bs)
theorem Fq:ao sFile=true:=by decide
theorem Good.ne (a:Adr) (h:Good H a):a.s≠[]:=(FA a.s h.s).1
end
theorem uZ (c:UInt8) (l:Bs):Lib.cut l [c]=match aN c l with|some (a,b)=>(a,b,true)|none=>(l,[],false):=by
 have i:∀l:Bs,(∀x∈l,x≠c)->aN c l=none:=by
  intro l;induction l with
  |nil=>intro _;rfl
  |cons b l e=>simp_all[aN]
 have g:∀p r:Bs,(∀x∈p,x≠c)->aN c (p++c::r)=some (p,r):=by
  intro p r;induction p with
  |nil=>simp[aN]
  |cons b p e=>simp_all[aN]
 obtain⟨h,d⟩|⟨p,r,rfl,d,f⟩:=xF c l
 .grind
 .grind
theorem va (c:UInt8) (l:Bs):Lib.cut l [c]=((ay c l).1,(ay c l).2.getD [],(ay c l).2.isSome):=by grind[uZ,ay]
def ip (c:UInt8) (n:Bs) (b:UInt8):Bs:=if b=c then n else [b]
theorem oI (c:UInt8) (n:Bs):∀l:Bs,(∀x∈l,x≠c)->l.flatMap (ip c n)=l
 | [],_=>rfl
 |b::l,h=>by
  rw[od,oI c n l (λx a=>h x (by simp[a]))];unfold ip;rw[ab (h b (by simp))];rfl
theorem vc (c:UInt8) (n:Bs):∀(k:Nat) (l:Bs),l.count c<=k->Lib.replaceK [c] n k l=l.flatMap (ip c n)
 |0,l,h=>by
  rw[oI c n l (λx i e=>by grind)];rfl
 |k+1,l,h=>by
  rcases ll c l with⟨b,a⟩|⟨p,r,rfl,a,b⟩
  .simp_all[Lib.replaceK,qE,oI]
  .have f:=PH (λd=>a c d rfl)
   have g:List.count c r<=k:=(by rw[List.count_append,f,List.count_cons_self] at h;omega);rw[Bp [c] n k _ p.length (by rw[qE,b]),ke,show List.drop (p.length+ [c].length) (p++c::r)=r by simp,vc c n k r g,List.flatMap_append,od,oI c n p a];unfold ip;rw[ae rfl];simp
theorem oJ (c:UInt8) (n l:Bs):Lib.replaceAll l [c] n=l.flatMap (ip c n):=by
 unfold Lib.replaceAll Lib.replace;split
 .rename_i h
  have h:=dM.1 h;subst h;have:∀l:Bs,l.flatMap (ip c [c])=l:=by
   intro l;induction l with
   |nil=>rfl
   |cons b l a=>
    rw[od,a];unfold ip;by_cases e:b=c
    .grind
    .grind
  rw[this]
 .simp[vc,Lib.replaceNum,Lib.count_one]
theorem Cu (c:UInt8) (l:Bs):l.flatMap (ip c [])=l.filter (·≠c):=by
 induction l with
 |nil=>rfl
 |cons b l a=>
  rw[od,a];unfold ip;by_cases e:b=c
  .grind
  .grind
theorem Cv (c d:UInt8) (l:Bs):l.flatMap (ip c [d])=l.map λb=>if b=c then d else b:=by
 induction l with
 |nil=>rfl
 |cons b l a=>
  rw[od,a,mM];unfold ip;by_cases e:b=c
  .grind
  .grind
theorem Cw (l:Bs):((l.filter (·≠9)).filter (·≠10)).filter (·≠13)=l.filter fun c=>!it c:=by rw[List.filter_filter,List.filter_filter];congr 1;funext c;by_cases d:c=9<;>by_cases a:c=10<;>by_cases b:c=13<;>simp[it,d,a,b]
def pE:Bs:=[37,50,69]
def pe:Bs:=[37,50,101]
theorem rj (b:UInt8) (l:Bs) (h:pE.isPrefixOf (b::l)=false):be (b::l)=b::be l:=by rw[be];intro d a c;subst a;subst c;simp[pE,List.isPrefixOf] at h
theorem vd:∀l:Bs,(Lib.index l pE= -1/\be l=l)\/∃p r,l=p++(pE++r)/\Lib.index l pE=p.length/\be l=p++(pe++be r)
 | []=>Or.inl ⟨rfl,rfl⟩
 |b::l=>by
  cases a:pE.isPrefixOf (b::l) with
  |true=>
   obtain⟨r,e⟩:=Bq.1 a;refine Or.inr ⟨[],r,e.symm,?_,?_⟩
   .rw[Lib.index,a]
    rfl
   .rw[<-e]
    rfl
  |false=>
   rcases vd l with⟨d,c⟩|⟨p,r,d,c,f⟩
   .refine Or.inl ⟨?_,?_⟩
    .rw[Lib.index,a,d]
     rfl
    .rw[rj b l a,c]
   .refine Or.inr ⟨b::p,r,by rw[d];rfl,?_,?_⟩
    .rw[Lib.index,a,c]
     have:((p.length:Int)== -1)=false:=aL.2 (by omega);rw[this];simp
    .rw[rj b l a,f]
     rfl
theorem vf:∀(k:Nat) (l:Bs),Lib.countFrom pE k l<=k->l.length<k->Lib.replaceK pE pe (Lib.countFrom pE k l) l=be l
 |0,l,_,h=>by omega
 |k+1,l,_,h=>by
  rcases vd l with⟨a,b⟩|⟨p,r,a,b,j⟩
  .rw[Lib.countFrom,a,ae (by rfl),b]
   rfl
  .have e:((p.length:Int)== -1)=false:=aL.2 (by omega)
   have d:List.drop (p.length+pE.length) l=r:=(by rw[a,<-eU,List.drop_left' (by simp)]);have m:l.length=p.length+3+r.length:=(by rw[a];simp[pE];omega);rw[Lib.countFrom,b,e];simp only[ge,fO,kV];rw[d,ug 1,Bp pE pe _ l p.length b,d,j];have c:Lib.replaceK pE pe (Lib.countFrom pE k r) r=be r:=by
    have n:=Lib.countFrom_fuel (sub:=pE) (by decide) k r (by omega) (r.length+1) (by omega);by_cases g:Lib.countFrom pE k r<=k
    .exact vf k r g (by omega)
    .have i:∀(f:Nat) (x:Bs),Lib.countFrom pE f x<=f:=by
      intro f;induction f with
      |zero=>intro x;exact aG _
      |succ f c=>grind[Lib.countFrom]
     exact absurd (i k r) g
   rw[c,a];simp
theorem Cx (l:Bs):Lib.replaceAll l pE pe=be l:=by
 have a:∀(f:Nat) (x:Bs),Lib.countFrom pE f x<=f:=by
  intro f;induction f with
  |zero=>intro x;exact .refl
  |succ f b=>grind[Lib.countFrom]
 unfold Lib.replaceAll Lib.replace;rw[ab (by decide)];unfold Lib.replaceNum;rw[ae (.inl (by omega))];exact vf (l.length+1) l (a _ _) (by omega)
theorem Cy (l c:Bs):(Lib.trimS l c).isEmpty=l.all λb=>c.contains b:=by
 unfold Lib.trimS Lib.trimLeftS Lib.trimRightS;cases h:l.all λb=>c.contains b with
 |true=>
  have f:∀b∈l.reverse,c.contains b=true:=λb d=>gI.1 h b (by simpa using d);have e:l.reverse.dropWhile (c.contains ·)=[]:=by have:=oe (p:=λb=>c.contains b) (l₁:=l.reverse) (l₂:=[]) f;simpa using this
  rw[e];rfl
 |false=>
  have g:∀x:Bs,(x.dropWhile (c.contains ·)).isEmpty=true->∀b∈x,c.contains b=true:=by
   intro x;induction x with
   |nil=>simp
   |cons a x k=>grind[List.dropWhile_cons_of_pos,List.dropWhile_cons_of_neg]
  cases j:(((l.reverse.dropWhile (c.contains ·)).reverse).dropWhile (c.contains ·)).isEmpty with
  |false=>rfl
  |true=>
   have n:=g _ j;have f:(l.reverse.dropWhile (c.contains ·)).isEmpty=true:=by
    cases m:l.reverse.dropWhile (c.contains ·) with
    |nil=>rfl
    |cons a x=>grind[List.head?_dropWhile_not]
   have i:=g _ f;have:=gI.2 λb d=>i b (by simpa using d);rw[this] at h;cases h
theorem FB (c:UInt8) (k:Nat) (h:c.toNat=k):c=k.toUInt8:=by subst h;simp
def FC (s:Bs) (l:List Bs):Prop:=(∀p∈l,wO s p)/\(s=sFile->aC (l.headD [])=true->ek (l.headD [])=true)
theorem FD:∀c:Fin 256,ct c.val.toUInt8=true->cI 4 c.val=false/\c.val≠47/\c.val≠92/\c.val≠37/\c.val≠46:=by decide+kernel
theorem FE (c:UInt8) (h:ct c=true):cI 4 c.toNat=false/\c≠47/\c≠92/\c≠37/\c≠46:=by have:=FD ⟨c.toNat,c.toNat_lt⟩ (by simpa using h);exact⟨this.1,nx c 47 this.2.1 (by omega),nx c 92 this.2.2.1 (by omega),nx c 37 this.2.2.2.1 (by omega),nx c 46 this.2.2.2.2 (by omega)⟩
theorem kq (c:UInt8):∀(t:Bs),match aN c t with|some (a,b)=>t=a++c::b/\∀x∈a,x≠c|none=>∀x∈t,x≠c
 | []=>λx e=>by cases e
 |d::t=>by
  have g:=kq c t;by_cases f:d=c
  .simp_all[aN]
  .rw[aN,ab f]
   cases h:aN c t with
   |none=>grind
   |some p=>grind
theorem pd (c:UInt8) (t:Bs):(∀x∈(ay c t).1,x∈t/\x≠c)/\∀q,(ay c t).2=some q->∀x∈q,x∈t:=by grind[kq,ay]
theorem Ft:∀c:Fin 256,(ex c.val.toUInt8=true->ex (Lib.lowerB c.val.toUInt8)=true)/\(ct c.val.toUInt8=true->ct (Lib.lowerB c.val.toUInt8)=true)/\Lib.lowerB (Lib.lowerB c.val.toUInt8)=Lib.lowerB c.val.toUInt8:=by decide+kernel
theorem rG (c:UInt8):(ex c=true->ex (Lib.lowerB c)=true)/\(ct c=true->ct (Lib.lowerB c)=true)/\Lib.lowerB (Lib.lowerB c)=Lib.lowerB c:=by have:=Ft ⟨c.toNat,c.toNat_lt⟩;simpa using this
theorem Fu (l:Bs):Lib.toLowerA (Lib.toLowerA l)=Lib.toLowerA l:=by simp[Lib.toLowerA,rG]
theorem Fv (l:Bs) (h:cw l=true):cw (Lib.toLowerA l)=true:=by
 unfold cw at*;rw[fx] at*;refine⟨?_,?_⟩
 .cases l with
  |nil=>exact h.1
  |cons c l=>exact(rG c).2.1 h.1
 .rw[gI] at*
  intro x b;obtain⟨c,a,rfl⟩:=jJ.1 b;exact(rG c).1 (h.2 c a)
theorem Fw (t:Bs):(aU t).1≠[]->cw (aU t).1=true/\Lib.toLowerA (aU t).1=(aU t).1:=by grind[aU,Fv,Fu]
theorem Fx (t:Bs):((ej t).s≠[]->cw (ej t).s=true/\Lib.toLowerA (ej t).s=(ej t).s)/\∀c∈(ej t).i,c≠35/\c≠63:=by refine⟨Fw t,λc b=>?_⟩;have a:=(pd 63 (ay 35 (aU t).2).1).1 c b;exact⟨((pd 35 (aU t).2).1 c a.1).2,a.2⟩
section
variable (H : Bs → Bool → Option Bs)
theorem Good.g (b:Adr) (a:Good H b):FC b.s b.w.g:=⟨a.seg,a.drive⟩
end
def dm (n:Nat):UInt8:=if n<10 then(48+n).toUInt8 else(87+n).toUInt8
def cH (b:Nat):Nat->Nat->List UInt8
 |0,n=>[dm n]
 |k+1,n=>if n<b then [dm n] else cH b k (n/b)++ [dm (n%b)]
theorem wH (m:Int) (c:UInt8) (l:List UInt8) (h:c≠48\/l=[]):cd m (c::l)=bJ 10 m 0 (c::l):=by
 unfold cd;split
 .grind
 .grind
 .grind
 .rfl
theorem nw:∀(k n:Nat),n<10^(k+1)->cH 10 k n=Lib.decDigits n
 |0,n,h=>by
  grind[Lib.decDigits_one,cH,dm]
 |k+1,n,h=>by
  unfold cH;split
  .grind[Lib.decDigits_one,dm]
  .rename_i a
   have b:n/10<10^(k+1):=(by rw[BF (by omega)];rwa[qP] at h);rw[Lib.decDigits,dif_neg a,nw k (n/10) b];have:n%10<10:=Nat.mod_lt _ (by omega);simp[dm,this]
theorem kp (b:Nat):∀(k n:Nat),(cH b k n).length<=k+1
 |0,n=>by simp[cH]
 |k+1,n=>by
  have:=kp b k (n/b);unfold cH;split
  .simp
  .simp;omega
end Go.Moor
