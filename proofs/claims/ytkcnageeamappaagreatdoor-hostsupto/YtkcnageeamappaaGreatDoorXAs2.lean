import Derived.Test.YtkcnageeamappaaGreatDoorXAs
namespace Go.Proofs
open Go.RowKit Go.Moor Go.Extern.Stop Go.Stop Go.Extern
theorem below4 (tb : Nat) (w : World) (a b c d : Obj) (h : tb ≤ w.heap.size) : Below tb w ((((w.alloc a).alloc b).alloc c).alloc d) := by
  have h1 : (w.alloc a).heap.size = w.heap.size + 1 := by simp
  have h2 : ((w.alloc a).alloc b).heap.size = w.heap.size + 2 := by simp
  have h3 : (((w.alloc a).alloc b).alloc c).heap.size = w.heap.size + 3 := by simp
  exact ((((Below.refl tb w).alloc h a).alloc (by omega) b).alloc (by omega) c).alloc (by omega) d
theorem Tryz.methodKind (h : Value) (w : World) : (Go.method 443 193 (.agg #[h]) "Kind").run Tryz.prog w = .ok (335, h) w := by kernel_rfl
theorem Tryz.methodElem (h : Value) (w : World) : (Go.method 443 193 (.agg #[h]) "Elem").run Tryz.prog w = .ok (353, .agg #[h]) w := by kernel_rfl
theorem Tryz.methodImplements (h : Value) (w : World) : (Go.method 443 193 (.agg #[h]) "Implements").run Tryz.prog w = .ok (354, .agg #[h]) w := by kernel_rfl
theorem Tryz.methodAssignableTo (h : Value) (w : World) : (Go.method 443 193 (.agg #[h]) "AssignableTo").run Tryz.prog w = .ok (351, .agg #[h]) w := by kernel_rfl
set_option maxHeartbeats 4000000 in
set_option maxRecDepth 100000 in
theorem Tryz.as_hit (tb : Nat) (n : Int) (x y x0 y0 : ByteArray) (t : TypeId) (v z0 : Value) (n0 : Int) (w : World) (hg : w.cell? ⟨2, 0, none⟩ = some (.iface 193 (.agg #[.pointer (some ⟨29, 65, none⟩)]))) (hgl : 2 < w.heap.size)
    (htb : tb < w.heap.size)
    (g0 : w.cell? ⟨tb, 0, none⟩ = some (.int .i64 n0)) (g1 : w.cell? ⟨tb, 1, none⟩ = some (.string x0)) (g2 : w.cell? ⟨tb, 2, none⟩ = some (.string y0)) (g3 : w.cell? ⟨tb, 3, none⟩ = some z0)
    (f0 : w.frozen? ⟨tb, 0, none⟩ = false) (f1 : w.frozen? ⟨tb, 1, none⟩ = false) (f2 : w.frozen? ⟨tb, 2, none⟩ = false) (f3 : w.frozen? ⟨tb, 3, none⟩ = false) :
    Calls Tryz.prog 56 #[.iface 96 (.agg #[.int .i64 n, .string x, .string y, .iface t v]), .iface 98 (.pointer (some ⟨tb, 0, none⟩))] w fun ev w' => ev = .returned (.bool true) ∧ w'.cell? ⟨tb, 0, none⟩ = some (.int .i64 n) ∧ Below tb w w' := by
  have h6 := @run_callFunc_extern Tryz.prog 86 _ (fun args => ReflectliteValue.unpack (args.getD 0 (.tuple #[]))) Tryz.func86 (by kernel_rfl) (by kernel_rfl) (by kernel_rfl) (by kernel_rfl)
  have h7 := @run_callFunc_extern Tryz.prog 87 _ (ReflectliteValue.methodAny (ReflectliteValue.valueError "reflectlite.Value.Type" 0) (fun t _ _ _ => ReflectliteType.toType t)) Tryz.func87 (by kernel_rfl) (by kernel_rfl) (by kernel_rfl) (by kernel_rfl)
  have h8 := @run_callFunc_extern Tryz.prog 88 _ (ReflectliteValue.method (ReflectliteValue.valueError "reflectlite.Value.IsNil" 0) ReflectliteValue.isNil) Tryz.func88 (by kernel_rfl) (by kernel_rfl) (by kernel_rfl) (by kernel_rfl)
  have h27 := @run_callFunc_extern Tryz.prog 335 _ (ReflectliteType.abiMethod fun t => do pure (.int .u8 (← Rtype.kind t))) Tryz.func335 (by kernel_rfl) (by kernel_rfl) (by kernel_rfl) (by kernel_rfl)
  have h37 := @run_callFunc_extern Tryz.prog 353 _ (ReflectliteType.method ReflectliteType.elem) Tryz.func353 (by kernel_rfl) (by kernel_rfl) (by kernel_rfl) (by kernel_rfl)
  have h38 := @run_callFunc_extern Tryz.prog 354 _ (ReflectliteType.relation "Implements" ReflectliteType.implements_) Tryz.func354 (by kernel_rfl) (by kernel_rfl) (by kernel_rfl) (by kernel_rfl)
  have h10 := @run_callFunc_extern Tryz.prog 147 _ ReflectliteType.typeOf Tryz.func147 (by kernel_rfl) (by kernel_rfl) (by kernel_rfl) (by kernel_rfl)
  have h35 := @run_callFunc_extern Tryz.prog 351 _ (ReflectliteType.relation "AssignableTo" ReflectliteType.assignableTo) Tryz.func351 (by kernel_rfl) (by kernel_rfl) (by kernel_rfl) (by kernel_rfl)
  have h11 := @run_callFunc_extern Tryz.prog 148 _ (ReflectliteValue.method (ReflectliteValue.valueError "reflectlite.Value.Elem" 0) ReflectliteValue.elem) Tryz.func148 (by kernel_rfl) (by kernel_rfl) (by kernel_rfl) (by kernel_rfl)
  have h12 := @run_callFunc_extern Tryz.prog 149 _ ReflectliteValue.set Tryz.func149 (by kernel_rfl) (by kernel_rfl) (by kernel_rfl) (by kernel_rfl)
  have tO := Tryz.typeOfF
  have aF := Tryz.assignableF
  have vF := Tryz.valueOfF
  have f6 := Tryz.valueOfP
  have f7 := Tryz.typeP
  have kP := Tryz.kindP
  have kF := Tryz.kindF
  have eP := Tryz.elemP
  have iF := Tryz.implementsF
  have mK := Tryz.methodKind
  have mE := Tryz.methodElem
  have mI := Tryz.methodImplements
  have mA := Tryz.methodAssignableTo
  have n8 := Tryz.isNilP ⟨w.heap.size, 0, none⟩ ⟨tb, 0, none⟩ ((w.alloc (.cells #[.pointer (some ⟨tb, 0, none⟩)] 98)).alloc (.cells #[.pointer (some ⟨29, 98, none⟩), .pointer (some ⟨w.heap.size, 0, none⟩), .int .u64 150] 127)) (by simp)
  have hg2 : ((w.alloc (.cells #[.pointer (some ⟨tb, 0, none⟩)] 98)).alloc (.cells #[.pointer (some ⟨29, 98, none⟩), .pointer (some ⟨w.heap.size, 0, none⟩), .int .u64 150] 127)).cell? ⟨2, 0, none⟩ = some (.iface 193 (.agg #[.pointer (some ⟨29, 65, none⟩)])) := by
    rw [World.cell?_alloc_lt _ _ ⟨2, 0, none⟩ (by first | (simp; done) | (simp; omega)), World.cell?_alloc_lt _ _ ⟨2, 0, none⟩ hgl]; exact hg
  have el := Tryz.elemVP ⟨w.heap.size, 0, none⟩ ⟨tb, 0, none⟩ (((w.alloc (.cells #[.pointer (some ⟨tb, 0, none⟩)] 98)).alloc (.cells #[.pointer (some ⟨29, 98, none⟩), .pointer (some ⟨w.heap.size, 0, none⟩), .int .u64 150] 127)).alloc (.cells #[.pointer (some ⟨29, 98, none⟩), .pointer (some ⟨w.heap.size, 0, none⟩), .int .u64 150] 127)) (by rw [World.cell?_alloc_lt _ _ ⟨w.heap.size, 0, none⟩ (by simp; omega)]; simp)
  have old : ∀ i u, w.cell? ⟨tb, i, none⟩ = some u → ((((w.alloc (.cells #[.pointer (some ⟨tb, 0, none⟩)] 98)).alloc (.cells #[.pointer (some ⟨29, 98, none⟩), .pointer (some ⟨w.heap.size, 0, none⟩), .int .u64 150] 127)).alloc (.cells #[.pointer (some ⟨29, 98, none⟩), .pointer (some ⟨w.heap.size, 0, none⟩), .int .u64 150] 127)).alloc (.cells #[.int .i64 n, .string x, .string y, .iface t v] 96)).cell? ⟨tb, i, none⟩ = some u := fun i u hu => by
    rw [World.cell?_alloc_lt _ _ ⟨tb, i, none⟩ (by simp; omega), World.cell?_alloc_lt _ _ ⟨tb, i, none⟩ (by simp; omega), World.cell?_alloc_lt _ _ ⟨tb, i, none⟩ (by simp; omega), World.cell?_alloc_lt _ _ ⟨tb, i, none⟩ htb]; exact hu
  have oldf : ∀ i, w.frozen? ⟨tb, i, none⟩ = false → ((((w.alloc (.cells #[.pointer (some ⟨tb, 0, none⟩)] 98)).alloc (.cells #[.pointer (some ⟨29, 98, none⟩), .pointer (some ⟨w.heap.size, 0, none⟩), .int .u64 150] 127)).alloc (.cells #[.pointer (some ⟨29, 98, none⟩), .pointer (some ⟨w.heap.size, 0, none⟩), .int .u64 150] 127)).alloc (.cells #[.int .i64 n, .string x, .string y, .iface t v] 96)).frozen? ⟨tb, i, none⟩ = false := fun i hu => by
    rw [World.frozen?_alloc_old _ _ ⟨tb, i, none⟩ (by simp; omega), World.frozen?_alloc_old _ _ ⟨tb, i, none⟩ (by simp; omega), World.frozen?_alloc_old _ _ ⟨tb, i, none⟩ (by simp; omega), World.frozen?_alloc_old _ _ ⟨tb, i, none⟩ (Nat.ne_of_lt htb)]; exact hu
  have st := Tryz.setF tb (w.heap.size + 1 + 1 + 1) n n0 x y x0 y0 t v z0 ((((w.alloc (.cells #[.pointer (some ⟨tb, 0, none⟩)] 98)).alloc (.cells #[.pointer (some ⟨29, 98, none⟩), .pointer (some ⟨w.heap.size, 0, none⟩), .int .u64 150] 127)).alloc (.cells #[.pointer (some ⟨29, 98, none⟩), .pointer (some ⟨w.heap.size, 0, none⟩), .int .u64 150] 127)).alloc (.cells #[.int .i64 n, .string x, .string y, .iface t v] 96))
    (by rw [World.cell?_alloc_at _ _ _ _ (by simp)]; rfl) (by rw [World.cell?_alloc_at _ _ _ _ (by simp)]; rfl) (by rw [World.cell?_alloc_at _ _ _ _ (by simp)]; rfl) (by rw [World.cell?_alloc_at _ _ _ _ (by simp)]; rfl)
    (old 0 _ g0) (old 1 _ g1) (old 2 _ g2) (old 3 _ g3) (oldf 0 f0) (oldf 1 f1) (oldf 2 f2) (oldf 3 f3)
  have HO : Hid (∀ i u, w.cell? ⟨tb, i, none⟩ = some u → ((((w.alloc (.cells #[.pointer (some ⟨tb, 0, none⟩)] 98)).alloc (.cells #[.pointer (some ⟨29, 98, none⟩), .pointer (some ⟨w.heap.size, 0, none⟩), .int .u64 150] 127)).alloc (.cells #[.pointer (some ⟨29, 98, none⟩), .pointer (some ⟨w.heap.size, 0, none⟩), .int .u64 150] 127)).alloc (.cells #[.int .i64 n, .string x, .string y, .iface t v] 96)).cell? ⟨tb, i, none⟩ = some u) := old
  have HG0 : Hid (w.cell? ⟨tb, 0, none⟩ = some (.int .i64 n0)) := g0
  clear old oldf g0 g1 g2 g3 f0 f1 f2 f3
  go_enter Tryz.func56, Tryz.ntmps56
  go_wp2
  refine wp_loop_rounds 1 ?_
  rw [rounds_succ]
  go_wp2
  go_ret
  refine ⟨rfl, ?_, ?_⟩
  · rw [World.cell?_setCell_other _ _ _ _ (by simp), World.cell?_setCell_other _ _ _ _ (by simp), World.cell?_setCell_other _ _ _ _ (by simp), World.cell?_setCell_same _ _ _ (HO.out 0 _ HG0.out)]
  · exact ((((below4 tb w _ _ _ _ (Nat.le_of_lt htb)).setCell (Nat.le_refl _) _).setCell (Nat.le_refl _) _).setCell (Nat.le_refl _) _).setCell (Nat.le_refl _) _
end Go.Proofs
