/-
  errors.As at a target of the type fault.Fault, by its contracts: a nil error: false; an error that is a Fault itself: true, and the target holds its cells.
-/
import Derived.Test.YtkcnageeamappaaGreatDoorJSpecial
import Derived.LaidEql
import Derived.Stop.Asserts
import Derived.RowKitTokens
namespace Go.Proofs
open Go.RowKit Go.Moor Go.Extern.Stop Go.Stop Go.Extern

theorem Tryz.as_nil (t : Value) (w : World) :
    Calls Tryz.prog 56 #[.nilIface, t] w fun e w' => e = .returned (.bool false) ∧ w' = w := by
  go_enter Tryz.func56, Tryz.ntmps56
  go_wp2
  go_ret
  exact ⟨rfl, rfl⟩

theorem Tryz.valueOfP (t : Addr) (w : World) : (ReflectliteValue.unpack (.iface 98 (.pointer (some t)))).run Tryz.prog w
    = .ok (.agg #[.pointer (some ⟨29, 98, none⟩), .pointer (some ⟨w.heap.size, 0, none⟩), .int .u64 150]) (w.alloc (.cells #[.pointer (some t)] 98)) := by kernel_rfl
theorem Tryz.typeP (a : Addr) (w : World) : (ReflectliteValue.methodAny (ReflectliteValue.valueError "reflectlite.Value.Type" 0) (fun t _ _ _ => ReflectliteType.toType t) #[.agg #[.pointer (some ⟨29, 98, none⟩), .pointer (some a), .int .u64 150]]).run Tryz.prog w
    = .ok (.iface 193 (.agg #[.pointer (some ⟨29, 98, none⟩)])) w := by kernel_rfl
theorem Tryz.kindP (w : World) : ((ReflectliteType.abiMethod fun t => (fun a : Nat => Value.int IntKind.u8 (a : Int)) <$> Rtype.kind t) #[.pointer (some ⟨29, 98, none⟩)]).run Tryz.prog w = .ok (.int .u8 22) w := by kernel_rfl
theorem Tryz.kindF (w : World) : ((ReflectliteType.abiMethod fun t => (fun a : Nat => Value.int IntKind.u8 (a : Int)) <$> Rtype.kind t) #[.pointer (some ⟨29, 96, none⟩)]).run Tryz.prog w = .ok (.int .u8 25) w := by kernel_rfl
theorem Tryz.partsP (a : Addr) (w : World) : (ReflectliteValue.parts (.agg #[.pointer (some ⟨29, 98, none⟩), .pointer (some a), .int .u64 150])).run Tryz.prog w = .ok (some (98, a, 150)) w := by kernel_rfl
theorem Tryz.isNilP (a r : Addr) (W : World) (ha : W.cell? a = some (.pointer (some r))) :
    (ReflectliteValue.method (ReflectliteValue.valueError "reflectlite.Value.IsNil" 0) ReflectliteValue.isNil #[.agg #[.pointer (some ⟨29, 98, none⟩), .pointer (some a), .int .u64 150]]).run Tryz.prog W = .ok (.bool false) W := by
  refine Eq.trans (congrArg (fun m => Sem.run Tryz.prog m W) (a₂ := (ReflectliteValue.parts (.agg #[.pointer (some ⟨29, 98, none⟩), .pointer (some a), .int .u64 150]) >>= fun p => _)) rfl) ?_
  simp only [Sem.run_bind, Tryz.partsP, Result.andThen]
  simp [ReflectliteValue.isNil, loadVar, isAgg, underlying, Tryz.underlying98, ha, Result.andThen]
theorem Tryz.elemP (w : World) : (ReflectliteType.method ReflectliteType.elem #[.agg #[.pointer (some ⟨29, 98, none⟩)]]).run Tryz.prog w = .ok (.iface 193 (.agg #[.pointer (some ⟨29, 96, none⟩)])) w := by kernel_rfl
theorem Tryz.implementsF (w : World) : (ReflectliteType.relation "Implements" ReflectliteType.implements_ #[.agg #[.pointer (some ⟨29, 96, none⟩)], .iface 193 (.agg #[.pointer (some ⟨29, 65, none⟩)])]).run Tryz.prog w = .ok (.bool true) w := by kernel_rfl
theorem Tryz.typeOfF (v : Value) (w : World) : (ReflectliteType.typeOf #[.iface 96 v]).run Tryz.prog w = .ok (.iface 193 (.agg #[.pointer (some ⟨29, 96, none⟩)])) w := by kernel_rfl
theorem Tryz.assignableF (w : World) : (ReflectliteType.relation "AssignableTo" ReflectliteType.assignableTo #[.agg #[.pointer (some ⟨29, 96, none⟩)], .iface 193 (.agg #[.pointer (some ⟨29, 96, none⟩)])]).run Tryz.prog w = .ok (.bool true) w := by kernel_rfl
theorem Tryz.valueOfF (n : Int) (a b : ByteArray) (t : TypeId) (v : Value) (w : World) : (ReflectliteValue.unpack (.iface 96 (.agg #[.int .i64 n, .string a, .string b, .iface t v]))).run Tryz.prog w
    = .ok (.agg #[.pointer (some ⟨29, 96, none⟩), .pointer (some ⟨w.heap.size, 0, none⟩), .int .u64 153]) (w.alloc (.cells #[.int .i64 n, .string a, .string b, .iface t v] 96)) := by kernel_rfl
theorem Tryz.elemOfP (w : World) : (Rtype.elem? 98).run Tryz.prog w = .ok (some 96) w := by kernel_rfl
theorem Tryz.mkF (p : Addr) (w : World) : (ReflectliteValue.mk 96 p ReflectliteValue.flagAddr).run Tryz.prog w = .ok (.agg #[.pointer (some ⟨29, 96, none⟩), .pointer (some p), .int .u64 409]) w := by kernel_rfl
theorem Tryz.elemVP (a r : Addr) (W : World) (ha : W.cell? a = some (.pointer (some r))) :
    (ReflectliteValue.method (ReflectliteValue.valueError "reflectlite.Value.Elem" 0) ReflectliteValue.elem #[.agg #[.pointer (some ⟨29, 98, none⟩), .pointer (some a), .int .u64 150]]).run Tryz.prog W
      = .ok (.agg #[.pointer (some ⟨29, 96, none⟩), .pointer (some r), .int .u64 409]) W := by
  refine Eq.trans (congrArg (fun m => Sem.run Tryz.prog m W) (a₂ := (ReflectliteValue.parts (.agg #[.pointer (some ⟨29, 98, none⟩), .pointer (some a), .int .u64 150]) >>= fun p => _)) rfl) ?_
  simp only [Sem.run_bind, Tryz.partsP, Result.andThen]
  simp [ReflectliteValue.elem, loadVar, isAgg, underlying, Tryz.underlying98, ha, Result.andThen, Tryz.elemOfP, Tryz.mkF]
theorem Tryz.partsFa (a : Addr) (w : World) : (ReflectliteValue.parts (.agg #[.pointer (some ⟨29, 96, none⟩), .pointer (some a), .int .u64 409])).run Tryz.prog w = .ok (some (96, a, 409)) w := by kernel_rfl
theorem Tryz.partsF (a : Addr) (w : World) : (ReflectliteValue.parts (.agg #[.pointer (some ⟨29, 96, none⟩), .pointer (some a), .int .u64 153])).run Tryz.prog w = .ok (some (96, a, 153)) w := by kernel_rfl
theorem Tryz.directF (w : World) : (Rtype.directlyAssignable 96 96).run Tryz.prog w = .ok true w := by kernel_rfl
theorem Tryz.loadF (b : Nat) (c0 c1 c2 c3 : Value) (W : World)
    (h0 : W.cell? ⟨b, 0, none⟩ = some c0) (h1 : W.cell? ⟨b, 1, none⟩ = some c1) (h2 : W.cell? ⟨b, 2, none⟩ = some c2) (h3 : W.cell? ⟨b, 3, none⟩ = some c3) :
    (loadVar 96 ⟨b, 0, none⟩).run Tryz.prog W = .ok (.agg #[c0, c1, c2, c3]) W := by
  simp [loadVar, Tryz.isAgg96, Tryz.sizeOf96, loadCells, loadCellsFrom, Lib.add_plain, h0, h1, h2, h3, Result.andThen]

theorem Tryz.storeF (tb : Nat) (n n0 : Int) (x y x0 y0 : ByteArray) (t : TypeId) (v z0 : Value) (W : World)
    (g0 : W.cell? ⟨tb, 0, none⟩ = some (.int .i64 n0)) (g1 : W.cell? ⟨tb, 1, none⟩ = some (.string x0)) (g2 : W.cell? ⟨tb, 2, none⟩ = some (.string y0)) (g3 : W.cell? ⟨tb, 3, none⟩ = some z0)
    (f0 : W.frozen? ⟨tb, 0, none⟩ = false) (f1 : W.frozen? ⟨tb, 1, none⟩ = false) (f2 : W.frozen? ⟨tb, 2, none⟩ = false) (f3 : W.frozen? ⟨tb, 3, none⟩ = false) :
    (storeVar 96 ⟨tb, 0, none⟩ (.agg #[.int .i64 n, .string x, .string y, .iface t v])).run Tryz.prog W
      = .ok () ((((W.setCell ⟨tb, 0, none⟩ (.int .i64 n)).setCell ⟨tb, 1, none⟩ (.string x)).setCell ⟨tb, 2, none⟩ (.string y)).setCell ⟨tb, 3, none⟩ (.iface t v)) := by
  have k1 : ∀ u, (W.setCell ⟨tb, 0, none⟩ u).cell? ⟨tb, 1, none⟩ = some (.string x0) := fun u => by rw [World.cell?_setCell_other _ _ _ _ (by simp)]; exact g1
  have k2 : ∀ u u', ((W.setCell ⟨tb, 0, none⟩ u).setCell ⟨tb, 1, none⟩ u').cell? ⟨tb, 2, none⟩ = some (.string y0) := fun u u' => by rw [World.cell?_setCell_other _ _ _ _ (by simp), World.cell?_setCell_other _ _ _ _ (by simp)]; exact g2
  have k3 : ∀ u u' u'', (((W.setCell ⟨tb, 0, none⟩ u).setCell ⟨tb, 1, none⟩ u').setCell ⟨tb, 2, none⟩ u'').cell? ⟨tb, 3, none⟩ = some z0 := fun u u' u'' => by rw [World.cell?_setCell_other _ _ _ _ (by simp), World.cell?_setCell_other _ _ _ _ (by simp), World.cell?_setCell_other _ _ _ _ (by simp)]; exact g3
  simp only [storeVar, Sem.run_bind, Tryz.sizeOf96, Result.andThen, Value.cells, storeCells, Lib.add_plain]
  rw [if_neg (by simp)]
  have s0 : (store ⟨tb, 0, none⟩ (.int .i64 n)).run Tryz.prog W = .ok () (W.setCell ⟨tb, 0, none⟩ (.int .i64 n)) := by
    rw [run_store Tryz.prog W ⟨tb, 0, none⟩ _ _ (by rfl)]; simp [g0, f0]
  have s1 : (store ⟨tb, 1, none⟩ (.string x)).run Tryz.prog (W.setCell ⟨tb, 0, none⟩ (.int .i64 n)) = .ok () ((W.setCell ⟨tb, 0, none⟩ (.int .i64 n)).setCell ⟨tb, 1, none⟩ (.string x)) := by
    rw [run_store Tryz.prog _ ⟨tb, 1, none⟩ _ _ (by rfl)]; simp [k1, f1]
  have s2 : (store ⟨tb, 2, none⟩ (.string y)).run Tryz.prog ((W.setCell ⟨tb, 0, none⟩ (.int .i64 n)).setCell ⟨tb, 1, none⟩ (.string x)) = .ok () (((W.setCell ⟨tb, 0, none⟩ (.int .i64 n)).setCell ⟨tb, 1, none⟩ (.string x)).setCell ⟨tb, 2, none⟩ (.string y)) := by
    rw [run_store Tryz.prog _ ⟨tb, 2, none⟩ _ _ (by rfl)]; simp [k2, f2]
  have s3 : (store ⟨tb, 3, none⟩ (.iface t v)).run Tryz.prog (((W.setCell ⟨tb, 0, none⟩ (.int .i64 n)).setCell ⟨tb, 1, none⟩ (.string x)).setCell ⟨tb, 2, none⟩ (.string y)) = .ok () ((((W.setCell ⟨tb, 0, none⟩ (.int .i64 n)).setCell ⟨tb, 1, none⟩ (.string x)).setCell ⟨tb, 2, none⟩ (.string y)).setCell ⟨tb, 3, none⟩ (.iface t v)) := by
    rw [run_store Tryz.prog _ ⟨tb, 3, none⟩ _ _ (by rfl)]; simp [k3, f3]
  simp only [Sem.run_bind, Nat.zero_add, Nat.add_zero, s0, Result.andThen]
  simp only [s1, Nat.reduceAdd, s2, s3]
  rfl

theorem Tryz.setF (tb b : Nat) (n n0 : Int) (x y x0 y0 : ByteArray) (t : TypeId) (v z0 : Value) (W : World)
    (h0 : W.cell? ⟨b, 0, none⟩ = some (.int .i64 n)) (h1 : W.cell? ⟨b, 1, none⟩ = some (.string x)) (h2 : W.cell? ⟨b, 2, none⟩ = some (.string y)) (h3 : W.cell? ⟨b, 3, none⟩ = some (.iface t v))
    (g0 : W.cell? ⟨tb, 0, none⟩ = some (.int .i64 n0)) (g1 : W.cell? ⟨tb, 1, none⟩ = some (.string x0)) (g2 : W.cell? ⟨tb, 2, none⟩ = some (.string y0)) (g3 : W.cell? ⟨tb, 3, none⟩ = some z0)
    (f0 : W.frozen? ⟨tb, 0, none⟩ = false) (f1 : W.frozen? ⟨tb, 1, none⟩ = false) (f2 : W.frozen? ⟨tb, 2, none⟩ = false) (f3 : W.frozen? ⟨tb, 3, none⟩ = false) :
    (ReflectliteValue.set #[.agg #[.pointer (some ⟨29, 96, none⟩), .pointer (some ⟨tb, 0, none⟩), .int .u64 409], .agg #[.pointer (some ⟨29, 96, none⟩), .pointer (some ⟨b, 0, none⟩), .int .u64 153]]).run Tryz.prog W
      = .ok (.tuple #[]) ((((W.setCell ⟨tb, 0, none⟩ (.int .i64 n)).setCell ⟨tb, 1, none⟩ (.string x)).setCell ⟨tb, 2, none⟩ (.string y)).setCell ⟨tb, 3, none⟩ (.iface t v)) := by
  refine Eq.trans (congrArg (fun m => Sem.run Tryz.prog m W) (a₂ := (ReflectliteValue.parts (.agg #[.pointer (some ⟨29, 96, none⟩), .pointer (some ⟨tb, 0, none⟩), .int .u64 409]) >>= fun p => ReflectliteValue.parts (.agg #[.pointer (some ⟨29, 96, none⟩), .pointer (some ⟨b, 0, none⟩), .int .u64 153]) >>= fun q => _)) rfl) ?_
  simp only [Sem.run_bind, Tryz.partsFa, Tryz.partsF, Result.andThen]
  rw [if_neg (by decide)]
  simp only [Sem.run_bind, Tryz.loadF b _ _ _ _ W h0 h1 h2 h3, Tryz.directF, Result.andThen, if_true, Tryz.storeF tb n n0 x y x0 y0 t v z0 W g0 g1 g2 g3 f0 f1 f2 f3]
  rfl
end Go.Proofs
/-
  errors.As at a target of the type fault.Fault where the error is a Fault itself: it answers true, and the target holds its first cell.
-/
namespace Go.Proofs
open Go.RowKit Go.Moor Go.Extern.Stop Go.Stop Go.Extern

theorem below4 (tb : Nat) (w : World) (a b c d : Obj) (h : tb ≤ w.heap.size) : Below tb w ((((w.alloc a).alloc b).alloc c).alloc d) := by
  have h1 : (w.alloc a).heap.size = w.heap.size + 1 := by simp
  have h2 : ((w.alloc a).alloc b).heap.size = w.heap.size + 2 := by simp
  have h3 : (((w.alloc a).alloc b).alloc c).heap.size = w.heap.size + 3 := by simp
  exact ((((Below.refl tb w).alloc h a).alloc (by omega) b).alloc (by omega) c).alloc (by omega) d
theorem Tryz.methodKind (h : Value) (w : World) : (Go.method 443 193 (.agg #[h]) "Kind").run Tryz.prog w = .ok (335, h) w := by kernel_rfl
theorem Tryz.methodElem (h : Value) (w : World) : (Go.method 443 193 (.agg #[h]) "Elem").run Tryz.prog w = .ok (353, .agg #[h]) w := by kernel_rfl
theorem Tryz.methodImplements (h : Value) (w : World) : (Go.method 443 193 (.agg #[h]) "Implements").run Tryz.prog w = .ok (354, .agg #[h]) w := by kernel_rfl
theorem Tryz.methodAssignableTo (h : Value) (w : World) : (Go.method 443 193 (.agg #[h]) "AssignableTo").run Tryz.prog w = .ok (351, .agg #[h]) w := by kernel_rfl

set_option maxHeartbeats 4000000 in
set_option maxRecDepth 100000 in
theorem Tryz.as_hit (tb : Nat) (n : Int) (x y x0 y0 : ByteArray) (t : TypeId) (v z0 : Value) (n0 : Int) (w : World) (hg : w.cell? ⟨2, 0, none⟩ = some (.iface 193 (.agg #[.pointer (some ⟨29, 65, none⟩)]))) (hgl : 2 < w.heap.size)
    (htb : tb < w.heap.size)
    (g0 : w.cell? ⟨tb, 0, none⟩ = some (.int .i64 n0)) (g1 : w.cell? ⟨tb, 1, none⟩ = some (.string x0)) (g2 : w.cell? ⟨tb, 2, none⟩ = some (.string y0)) (g3 : w.cell? ⟨tb, 3, none⟩ = some z0)
    (f0 : w.frozen? ⟨tb, 0, none⟩ = false) (f1 : w.frozen? ⟨tb, 1, none⟩ = false) (f2 : w.frozen? ⟨tb, 2, none⟩ = false) (f3 : w.frozen? ⟨tb, 3, none⟩ = false) :
    Calls Tryz.prog 56 #[.iface 96 (.agg #[.int .i64 n, .string x, .string y, .iface t v]), .iface 98 (.pointer (some ⟨tb, 0, none⟩))] w fun ev w' => ev = .returned (.bool true) ∧ w'.cell? ⟨tb, 0, none⟩ = some (.int .i64 n) ∧ Below tb w w' := by
  have h6 := @run_callFunc_extern Tryz.prog 86 _ (fun args => ReflectliteValue.unpack (args.getD 0 (.tuple #[]))) Tryz.func86 (by kernel_rfl) (by kernel_rfl) (by kernel_rfl) (by kernel_rfl)
  have h7 := @run_callFunc_extern Tryz.prog 87 _ (ReflectliteValue.methodAny (ReflectliteValue.valueError "reflectlite.Value.Type" 0) (fun t _ _ _ => ReflectliteType.toType t)) Tryz.func87 (by kernel_rfl) (by kernel_rfl) (by kernel_rfl) (by kernel_rfl)
  have h8 := @run_callFunc_extern Tryz.prog 88 _ (ReflectliteValue.method (ReflectliteValue.valueError "reflectlite.Value.IsNil" 0) ReflectliteValue.isNil) Tryz.func88 (by kernel_rfl) (by kernel_rfl) (by kernel_rfl) (by kernel_rfl)
  have h27 := @run_callFunc_extern Tryz.prog 335 _ (ReflectliteType.abiMethod fun t => do pure (.int .u8 (← Rtype.kind t))) Tryz.func335 (by kernel_rfl) (by kernel_rfl) (by kernel_rfl) (by kernel_rfl)
  have h37 := @run_callFunc_extern Tryz.prog 353 _ (ReflectliteType.method ReflectliteType.elem) Tryz.func353 (by kernel_rfl) (by kernel_rfl) (by kernel_rfl) (by kernel_rfl)
  have h38 := @run_callFunc_extern Tryz.prog 354 _ (ReflectliteType.relation "Implements" ReflectliteType.implements_) Tryz.func354 (by kernel_rfl) (by kernel_rfl) (by kernel_rfl) (by kernel_rfl)
  have h10 := @run_callFunc_extern Tryz.prog 147 _ ReflectliteType.typeOf Tryz.func147 (by kernel_rfl) (by kernel_rfl) (by kernel_rfl) (by kernel_rfl)
  have h35 := @run_callFunc_extern Tryz.prog 351 _ (ReflectliteType.relation "AssignableTo" ReflectliteType.assignableTo) Tryz.func351 (by kernel_rfl) (by kernel_rfl) (by kernel_rfl) (by kernel_rfl)
  have h11 := @run_callFunc_extern Tryz.prog 148 _ (ReflectliteValue.method (ReflectliteValue.valueError "reflectlite.Value.Elem" 0) ReflectliteValue.elem) Tryz.func148 (by kernel_rfl) (by kernel_rfl) (by kernel_rfl) (by kernel_rfl)
  have h12 := @run_callFunc_extern Tryz.prog 149 _ ReflectliteValue.set Tryz.func149 (by kernel_rfl) (by kernel_rfl) (by kernel_rfl) (by kernel_rfl)
  have tO := Tryz.typeOfF
  have aF := Tryz.assignableF
  have vF := Tryz.valueOfF
  have f6 := Tryz.valueOfP
  have f7 := Tryz.typeP
  have kP := Tryz.kindP
  have kF := Tryz.kindF
  have eP := Tryz.elemP
  have iF := Tryz.implementsF
  have mK := Tryz.methodKind
  have mE := Tryz.methodElem
  have mI := Tryz.methodImplements
  have mA := Tryz.methodAssignableTo
  have n8 := Tryz.isNilP ⟨w.heap.size, 0, none⟩ ⟨tb, 0, none⟩ ((w.alloc (.cells #[.pointer (some ⟨tb, 0, none⟩)] 98)).alloc (.cells #[.pointer (some ⟨29, 98, none⟩), .pointer (some ⟨w.heap.size, 0, none⟩), .int .u64 150] 127)) (by simp)
  have hg2 : ((w.alloc (.cells #[.pointer (some ⟨tb, 0, none⟩)] 98)).alloc (.cells #[.pointer (some ⟨29, 98, none⟩), .pointer (some ⟨w.heap.size, 0, none⟩), .int .u64 150] 127)).cell? ⟨2, 0, none⟩ = some (.iface 193 (.agg #[.pointer (some ⟨29, 65, none⟩)])) := by
    rw [World.cell?_alloc_lt _ _ ⟨2, 0, none⟩ (by first | (simp; done) | (simp; omega)), World.cell?_alloc_lt _ _ ⟨2, 0, none⟩ hgl]; exact hg
  have el := Tryz.elemVP ⟨w.heap.size, 0, none⟩ ⟨tb, 0, none⟩ (((w.alloc (.cells #[.pointer (some ⟨tb, 0, none⟩)] 98)).alloc (.cells #[.pointer (some ⟨29, 98, none⟩), .pointer (some ⟨w.heap.size, 0, none⟩), .int .u64 150] 127)).alloc (.cells #[.pointer (some ⟨29, 98, none⟩), .pointer (some ⟨w.heap.size, 0, none⟩), .int .u64 150] 127)) (by rw [World.cell?_alloc_lt _ _ ⟨w.heap.size, 0, none⟩ (by simp; omega)]; simp)
  have old : ∀ i u, w.cell? ⟨tb, i, none⟩ = some u → ((((w.alloc (.cells #[.pointer (some ⟨tb, 0, none⟩)] 98)).alloc (.cells #[.pointer (some ⟨29, 98, none⟩), .pointer (some ⟨w.heap.size, 0, none⟩), .int .u64 150] 127)).alloc (.cells #[.pointer (some ⟨29, 98, none⟩), .pointer (some ⟨w.heap.size, 0, none⟩), .int .u64 150] 127)).alloc (.cells #[.int .i64 n, .string x, .string y, .iface t v] 96)).cell? ⟨tb, i, none⟩ = some u := fun i u hu => by
    rw [World.cell?_alloc_lt _ _ ⟨tb, i, none⟩ (by simp; omega), World.cell?_alloc_lt _ _ ⟨tb, i, none⟩ (by simp; omega), World.cell?_alloc_lt _ _ ⟨tb, i, none⟩ (by simp; omega), World.cell?_alloc_lt _ _ ⟨tb, i, none⟩ htb]; exact hu
  have oldf : ∀ i, w.frozen? ⟨tb, i, none⟩ = false → ((((w.alloc (.cells #[.pointer (some ⟨tb, 0, none⟩)] 98)).alloc (.cells #[.pointer (some ⟨29, 98, none⟩), .pointer (some ⟨w.heap.size, 0, none⟩), .int .u64 150] 127)).alloc (.cells #[.pointer (some ⟨29, 98, none⟩), .pointer (some ⟨w.heap.size, 0, none⟩), .int .u64 150] 127)).alloc (.cells #[.int .i64 n, .string x, .string y, .iface t v] 96)).frozen? ⟨tb, i, none⟩ = false := fun i hu => by
    rw [World.frozen?_alloc_old _ _ ⟨tb, i, none⟩ (by simp; omega), World.frozen?_alloc_old _ _ ⟨tb, i, none⟩ (by simp; omega), World.frozen?_alloc_old _ _ ⟨tb, i, none⟩ (by simp; omega), World.frozen?_alloc_old _ _ ⟨tb, i, none⟩ (Nat.ne_of_lt htb)]; exact hu
  have st := Tryz.setF tb (w.heap.size + 1 + 1 + 1) n n0 x y x0 y0 t v z0 ((((w.alloc (.cells #[.pointer (some ⟨tb, 0, none⟩)] 98)).alloc (.cells #[.pointer (some ⟨29, 98, none⟩), .pointer (some ⟨w.heap.size, 0, none⟩), .int .u64 150] 127)).alloc (.cells #[.pointer (some ⟨29, 98, none⟩), .pointer (some ⟨w.heap.size, 0, none⟩), .int .u64 150] 127)).alloc (.cells #[.int .i64 n, .string x, .string y, .iface t v] 96))
    (by rw [World.cell?_alloc_at _ _ _ _ (by simp)]; rfl) (by rw [World.cell?_alloc_at _ _ _ _ (by simp)]; rfl) (by rw [World.cell?_alloc_at _ _ _ _ (by simp)]; rfl) (by rw [World.cell?_alloc_at _ _ _ _ (by simp)]; rfl)
    (old 0 _ g0) (old 1 _ g1) (old 2 _ g2) (old 3 _ g3) (oldf 0 f0) (oldf 1 f1) (oldf 2 f2) (oldf 3 f3)
  have HO : Hid (∀ i u, w.cell? ⟨tb, i, none⟩ = some u → ((((w.alloc (.cells #[.pointer (some ⟨tb, 0, none⟩)] 98)).alloc (.cells #[.pointer (some ⟨29, 98, none⟩), .pointer (some ⟨w.heap.size, 0, none⟩), .int .u64 150] 127)).alloc (.cells #[.pointer (some ⟨29, 98, none⟩), .pointer (some ⟨w.heap.size, 0, none⟩), .int .u64 150] 127)).alloc (.cells #[.int .i64 n, .string x, .string y, .iface t v] 96)).cell? ⟨tb, i, none⟩ = some u) := old
  have HG0 : Hid (w.cell? ⟨tb, 0, none⟩ = some (.int .i64 n0)) := g0
  clear old oldf g0 g1 g2 g3 f0 f1 f2 f3
  go_enter Tryz.func56, Tryz.ntmps56
  go_wp2
  refine wp_loop_rounds 1 ?_
  rw [rounds_succ]
  go_wp2
  go_ret
  refine ⟨rfl, ?_, ?_⟩
  · rw [World.cell?_setCell_other _ _ _ _ (by simp), World.cell?_setCell_other _ _ _ _ (by simp), World.cell?_setCell_other _ _ _ _ (by simp), World.cell?_setCell_same _ _ _ (HO.out 0 _ HG0.out)]
  · exact ((((below4 tb w _ _ _ _ (Nat.le_of_lt htb)).setCell (Nat.le_refl _) _).setCell (Nat.le_refl _) _).setCell (Nat.le_refl _) _).setCell (Nat.le_refl _) _
end Go.Proofs
