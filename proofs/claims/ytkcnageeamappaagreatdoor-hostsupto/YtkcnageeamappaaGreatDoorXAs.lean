import Derived.Test.YtkcnageeamappaaGreatDoorXSpecial
import Derived.LaidEql
import Derived.Stop.Asserts
import Derived.RowKitTokens
namespace Go.Proofs
open Go.RowKit Go.Moor Go.Extern.Stop Go.Stop Go.Extern
theorem Tryz.as_nil (t : Value) (w : World) :
    Calls Tryz.prog 56 #[.nilIface, t] w fun e w' => e = .returned (.bool false) ∧ w' = w := by
  go_enter Tryz.func56, Tryz.ntmps56
  go_wp2
  go_ret
  exact ⟨rfl, rfl⟩
theorem Tryz.valueOfP (t : Addr) (w : World) : (ReflectliteValue.unpack (.iface 98 (.pointer (some t)))).run Tryz.prog w
    = .ok (.agg #[.pointer (some ⟨29, 98, none⟩), .pointer (some ⟨w.heap.size, 0, none⟩), .int .u64 150]) (w.alloc (.cells #[.pointer (some t)] 98)) := by kernel_rfl
theorem Tryz.typeP (a : Addr) (w : World) : (ReflectliteValue.methodAny (ReflectliteValue.valueError "reflectlite.Value.Type" 0) (fun t _ _ _ => ReflectliteType.toType t) #[.agg #[.pointer (some ⟨29, 98, none⟩), .pointer (some a), .int .u64 150]]).run Tryz.prog w
    = .ok (.iface 193 (.agg #[.pointer (some ⟨29, 98, none⟩)])) w := by kernel_rfl
theorem Tryz.kindP (w : World) : ((ReflectliteType.abiMethod fun t => (fun a : Nat => Value.int IntKind.u8 (a : Int)) <$> Rtype.kind t) #[.pointer (some ⟨29, 98, none⟩)]).run Tryz.prog w = .ok (.int .u8 22) w := by kernel_rfl
theorem Tryz.kindF (w : World) : ((ReflectliteType.abiMethod fun t => (fun a : Nat => Value.int IntKind.u8 (a : Int)) <$> Rtype.kind t) #[.pointer (some ⟨29, 96, none⟩)]).run Tryz.prog w = .ok (.int .u8 25) w := by kernel_rfl
theorem Tryz.partsP (a : Addr) (w : World) : (ReflectliteValue.parts (.agg #[.pointer (some ⟨29, 98, none⟩), .pointer (some a), .int .u64 150])).run Tryz.prog w = .ok (some (98, a, 150)) w := by kernel_rfl
theorem Tryz.isNilP (a r : Addr) (W : World) (ha : W.cell? a = some (.pointer (some r))) :
    (ReflectliteValue.method (ReflectliteValue.valueError "reflectlite.Value.IsNil" 0) ReflectliteValue.isNil #[.agg #[.pointer (some ⟨29, 98, none⟩), .pointer (some a), .int .u64 150]]).run Tryz.prog W = .ok (.bool false) W := by
  refine Eq.trans (congrArg (fun m => Sem.run Tryz.prog m W) (a₂ := (ReflectliteValue.parts (.agg #[.pointer (some ⟨29, 98, none⟩), .pointer (some a), .int .u64 150]) >>= fun p => _)) rfl) ?_
  simp only [Sem.run_bind, Tryz.partsP, Result.andThen]
  simp [ReflectliteValue.isNil, loadVar, isAgg, underlying, Tryz.underlying98, ha, Result.andThen]
theorem Tryz.elemP (w : World) : (ReflectliteType.method ReflectliteType.elem #[.agg #[.pointer (some ⟨29, 98, none⟩)]]).run Tryz.prog w = .ok (.iface 193 (.agg #[.pointer (some ⟨29, 96, none⟩)])) w := by kernel_rfl
theorem Tryz.implementsF (w : World) : (ReflectliteType.relation "Implements" ReflectliteType.implements_ #[.agg #[.pointer (some ⟨29, 96, none⟩)], .iface 193 (.agg #[.pointer (some ⟨29, 65, none⟩)])]).run Tryz.prog w = .ok (.bool true) w := by kernel_rfl
theorem Tryz.typeOfF (v : Value) (w : World) : (ReflectliteType.typeOf #[.iface 96 v]).run Tryz.prog w = .ok (.iface 193 (.agg #[.pointer (some ⟨29, 96, none⟩)])) w := by kernel_rfl
theorem Tryz.assignableF (w : World) : (ReflectliteType.relation "AssignableTo" ReflectliteType.assignableTo #[.agg #[.pointer (some ⟨29, 96, none⟩)], .iface 193 (.agg #[.pointer (some ⟨29, 96, none⟩)])]).run Tryz.prog w = .ok (.bool true) w := by kernel_rfl
theorem Tryz.valueOfF (n : Int) (a b : ByteArray) (t : TypeId) (v : Value) (w : World) : (ReflectliteValue.unpack (.iface 96 (.agg #[.int .i64 n, .string a, .string b, .iface t v]))).run Tryz.prog w
    = .ok (.agg #[.pointer (some ⟨29, 96, none⟩), .pointer (some ⟨w.heap.size, 0, none⟩), .int .u64 153]) (w.alloc (.cells #[.int .i64 n, .string a, .string b, .iface t v] 96)) := by kernel_rfl
theorem Tryz.elemOfP (w : World) : (Rtype.elem? 98).run Tryz.prog w = .ok (some 96) w := by kernel_rfl
theorem Tryz.mkF (p : Addr) (w : World) : (ReflectliteValue.mk 96 p ReflectliteValue.flagAddr).run Tryz.prog w = .ok (.agg #[.pointer (some ⟨29, 96, none⟩), .pointer (some p), .int .u64 409]) w := by kernel_rfl
theorem Tryz.elemVP (a r : Addr) (W : World) (ha : W.cell? a = some (.pointer (some r))) :
    (ReflectliteValue.method (ReflectliteValue.valueError "reflectlite.Value.Elem" 0) ReflectliteValue.elem #[.agg #[.pointer (some ⟨29, 98, none⟩), .pointer (some a), .int .u64 150]]).run Tryz.prog W
      = .ok (.agg #[.pointer (some ⟨29, 96, none⟩), .pointer (some r), .int .u64 409]) W := by
  refine Eq.trans (congrArg (fun m => Sem.run Tryz.prog m W) (a₂ := (ReflectliteValue.parts (.agg #[.pointer (some ⟨29, 98, none⟩), .pointer (some a), .int .u64 150]) >>= fun p => _)) rfl) ?_
  simp only [Sem.run_bind, Tryz.partsP, Result.andThen]
  simp [ReflectliteValue.elem, loadVar, isAgg, underlying, Tryz.underlying98, ha, Result.andThen, Tryz.elemOfP, Tryz.mkF]
theorem Tryz.partsFa (a : Addr) (w : World) : (ReflectliteValue.parts (.agg #[.pointer (some ⟨29, 96, none⟩), .pointer (some a), .int .u64 409])).run Tryz.prog w = .ok (some (96, a, 409)) w := by kernel_rfl
theorem Tryz.partsF (a : Addr) (w : World) : (ReflectliteValue.parts (.agg #[.pointer (some ⟨29, 96, none⟩), .pointer (some a), .int .u64 153])).run Tryz.prog w = .ok (some (96, a, 153)) w := by kernel_rfl
theorem Tryz.directF (w : World) : (Rtype.directlyAssignable 96 96).run Tryz.prog w = .ok true w := by kernel_rfl
theorem Tryz.loadF (b : Nat) (c0 c1 c2 c3 : Value) (W : World)
    (h0 : W.cell? ⟨b, 0, none⟩ = some c0) (h1 : W.cell? ⟨b, 1, none⟩ = some c1) (h2 : W.cell? ⟨b, 2, none⟩ = some c2) (h3 : W.cell? ⟨b, 3, none⟩ = some c3) :
    (loadVar 96 ⟨b, 0, none⟩).run Tryz.prog W = .ok (.agg #[c0, c1, c2, c3]) W := by
  simp [loadVar, Tryz.isAgg96, Tryz.sizeOf96, loadCells, loadCellsFrom, Lib.add_plain, h0, h1, h2, h3, Result.andThen]
theorem Tryz.storeF (tb : Nat) (n n0 : Int) (x y x0 y0 : ByteArray) (t : TypeId) (v z0 : Value) (W : World)
    (g0 : W.cell? ⟨tb, 0, none⟩ = some (.int .i64 n0)) (g1 : W.cell? ⟨tb, 1, none⟩ = some (.string x0)) (g2 : W.cell? ⟨tb, 2, none⟩ = some (.string y0)) (g3 : W.cell? ⟨tb, 3, none⟩ = some z0)
    (f0 : W.frozen? ⟨tb, 0, none⟩ = false) (f1 : W.frozen? ⟨tb, 1, none⟩ = false) (f2 : W.frozen? ⟨tb, 2, none⟩ = false) (f3 : W.frozen? ⟨tb, 3, none⟩ = false) :
    (storeVar 96 ⟨tb, 0, none⟩ (.agg #[.int .i64 n, .string x, .string y, .iface t v])).run Tryz.prog W
      = .ok () ((((W.setCell ⟨tb, 0, none⟩ (.int .i64 n)).setCell ⟨tb, 1, none⟩ (.string x)).setCell ⟨tb, 2, none⟩ (.string y)).setCell ⟨tb, 3, none⟩ (.iface t v)) := by
  have k1 : ∀ u, (W.setCell ⟨tb, 0, none⟩ u).cell? ⟨tb, 1, none⟩ = some (.string x0) := fun u => by rw [World.cell?_setCell_other _ _ _ _ (by simp)]; exact g1
  have k2 : ∀ u u', ((W.setCell ⟨tb, 0, none⟩ u).setCell ⟨tb, 1, none⟩ u').cell? ⟨tb, 2, none⟩ = some (.string y0) := fun u u' => by rw [World.cell?_setCell_other _ _ _ _ (by simp), World.cell?_setCell_other _ _ _ _ (by simp)]; exact g2
  have k3 : ∀ u u' u'', (((W.setCell ⟨tb, 0, none⟩ u).setCell ⟨tb, 1, none⟩ u').setCell ⟨tb, 2, none⟩ u'').cell? ⟨tb, 3, none⟩ = some z0 := fun u u' u'' => by rw [World.cell?_setCell_other _ _ _ _ (by simp), World.cell?_setCell_other _ _ _ _ (by simp), World.cell?_setCell_other _ _ _ _ (by simp)]; exact g3
  simp only [storeVar, Sem.run_bind, Tryz.sizeOf96, Result.andThen, Value.cells, storeCells, Lib.add_plain]
  rw [if_neg (by simp)]
  have s0 : (store ⟨tb, 0, none⟩ (.int .i64 n)).run Tryz.prog W = .ok () (W.setCell ⟨tb, 0, none⟩ (.int .i64 n)) := by
    rw [run_store Tryz.prog W ⟨tb, 0, none⟩ _ _ (by rfl)]; simp [g0, f0]
  have s1 : (store ⟨tb, 1, none⟩ (.string x)).run Tryz.prog (W.setCell ⟨tb, 0, none⟩ (.int .i64 n)) = .ok () ((W.setCell ⟨tb, 0, none⟩ (.int .i64 n)).setCell ⟨tb, 1, none⟩ (.string x)) := by
    rw [run_store Tryz.prog _ ⟨tb, 1, none⟩ _ _ (by rfl)]; simp [k1, f1]
  have s2 : (store ⟨tb, 2, none⟩ (.string y)).run Tryz.prog ((W.setCell ⟨tb, 0, none⟩ (.int .i64 n)).setCell ⟨tb, 1, none⟩ (.string x)) = .ok () (((W.setCell ⟨tb, 0, none⟩ (.int .i64 n)).setCell ⟨tb, 1, none⟩ (.string x)).setCell ⟨tb, 2, none⟩ (.string y)) := by
    rw [run_store Tryz.prog _ ⟨tb, 2, none⟩ _ _ (by rfl)]; simp [k2, f2]
  have s3 : (store ⟨tb, 3, none⟩ (.iface t v)).run Tryz.prog (((W.setCell ⟨tb, 0, none⟩ (.int .i64 n)).setCell ⟨tb, 1, none⟩ (.string x)).setCell ⟨tb, 2, none⟩ (.string y)) = .ok () ((((W.setCell ⟨tb, 0, none⟩ (.int .i64 n)).setCell ⟨tb, 1, none⟩ (.string x)).setCell ⟨tb, 2, none⟩ (.string y)).setCell ⟨tb, 3, none⟩ (.iface t v)) := by
    rw [run_store Tryz.prog _ ⟨tb, 3, none⟩ _ _ (by rfl)]; simp [k3, f3]
  simp only [Sem.run_bind, Nat.zero_add, Nat.add_zero, s0, Result.andThen]
  simp only [s1, Nat.reduceAdd, s2, s3]
  rfl
theorem Tryz.setF (tb b : Nat) (n n0 : Int) (x y x0 y0 : ByteArray) (t : TypeId) (v z0 : Value) (W : World)
    (h0 : W.cell? ⟨b, 0, none⟩ = some (.int .i64 n)) (h1 : W.cell? ⟨b, 1, none⟩ = some (.string x)) (h2 : W.cell? ⟨b, 2, none⟩ = some (.string y)) (h3 : W.cell? ⟨b, 3, none⟩ = some (.iface t v))
    (g0 : W.cell? ⟨tb, 0, none⟩ = some (.int .i64 n0)) (g1 : W.cell? ⟨tb, 1, none⟩ = some (.string x0)) (g2 : W.cell? ⟨tb, 2, none⟩ = some (.string y0)) (g3 : W.cell? ⟨tb, 3, none⟩ = some z0)
    (f0 : W.frozen? ⟨tb, 0, none⟩ = false) (f1 : W.frozen? ⟨tb, 1, none⟩ = false) (f2 : W.frozen? ⟨tb, 2, none⟩ = false) (f3 : W.frozen? ⟨tb, 3, none⟩ = false) :
    (ReflectliteValue.set #[.agg #[.pointer (some ⟨29, 96, none⟩), .pointer (some ⟨tb, 0, none⟩), .int .u64 409], .agg #[.pointer (some ⟨29, 96, none⟩), .pointer (some ⟨b, 0, none⟩), .int .u64 153]]).run Tryz.prog W
      = .ok (.tuple #[]) ((((W.setCell ⟨tb, 0, none⟩ (.int .i64 n)).setCell ⟨tb, 1, none⟩ (.string x)).setCell ⟨tb, 2, none⟩ (.string y)).setCell ⟨tb, 3, none⟩ (.iface t v)) := by
  refine Eq.trans (congrArg (fun m => Sem.run Tryz.prog m W) (a₂ := (ReflectliteValue.parts (.agg #[.pointer (some ⟨29, 96, none⟩), .pointer (some ⟨tb, 0, none⟩), .int .u64 409]) >>= fun p => ReflectliteValue.parts (.agg #[.pointer (some ⟨29, 96, none⟩), .pointer (some ⟨b, 0, none⟩), .int .u64 153]) >>= fun q => _)) rfl) ?_
  simp only [Sem.run_bind, Tryz.partsFa, Tryz.partsF, Result.andThen]
  rw [if_neg (by decide)]
  simp only [Sem.run_bind, Tryz.loadF b _ _ _ _ W h0 h1 h2 h3, Tryz.directF, Result.andThen, if_true, Tryz.storeF tb n n0 x y x0 y0 t v z0 W g0 g1 g2 g3 f0 f1 f2 f3]
  rfl
end Go.Proofs
