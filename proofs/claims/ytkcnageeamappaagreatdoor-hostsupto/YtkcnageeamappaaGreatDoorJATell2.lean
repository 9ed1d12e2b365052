/-
  errors.As at a target of the type fault.Fault where the error is an address.Error around a Fault: it answers true, and the target holds the Fault's first cell.
-/
import Derived.Test.YtkcnageeamappaaGreatDoorJAs2
import Derived.Test.YtkcnageeamappaaGreatDoorJARead3
import Derived.Test.YtkcnageeamappaaGreatDoorJAFile2
namespace Go.Proofs
open Go.RowKit Go.Moor Go.Extern.Stop Go.Stop Go.Extern

theorem below5 (tb : Nat) (w : World) (a b c d e : Obj) (h : tb ≤ w.heap.size) : Below tb w (((((w.alloc a).alloc b).alloc c).alloc d).alloc e) :=
  (below4 tb w a b c d h).alloc (Nat.le_trans h (below4 tb w a b c d h).size) e
theorem Tryz.typeOfE (v : Value) (w : World) : (ReflectliteType.typeOf #[.iface 104 v]).run Tryz.prog w = .ok (.iface 193 (.agg #[.pointer (some ⟨29, 104, none⟩)])) w := by kernel_rfl
theorem Tryz.assignableE (w : World) : (ReflectliteType.relation "AssignableTo" ReflectliteType.assignableTo #[.agg #[.pointer (some ⟨29, 104, none⟩)], .iface 193 (.agg #[.pointer (some ⟨29, 96, none⟩)])]).run Tryz.prog w = .ok (.bool false) w := by kernel_rfl
theorem Tryz.methodUnwrapE (h : Value) (w : World) : (Go.method 443 104 h "Unwrap").run Tryz.prog w = .ok (341, h) w := by kernel_rfl

theorem Tryz.noAsE (v : Value) (xT : TypeId) (w : World) : (Instr.typeAssert (.iface 104 v) xT 198 true).run Tryz.prog w = .ok (.tuple #[.nilIface, .bool false]) w := run_typeAssert_lacksB Tryz.underlying198 (by kernel_rfl) (by kernel_rfl) v xT w
theorem Tryz.hasUnwrapE (v : Value) (xT : TypeId) (w : World) : (Instr.typeAssert (.iface 104 v) xT 201 true).run Tryz.prog w = .ok (.tuple #[.iface 104 v, .bool true]) w := run_typeAssert_hasB Tryz.underlying201 (by kernel_rfl) v xT w
set_option maxHeartbeats 4000000 in
set_option maxRecDepth 100000 in
theorem Tryz.as_wrap (tb : Nat) (z : ByteArray) (n : Int) (x y x0 y0 : ByteArray) (t : TypeId) (v z0 : Value) (n0 : Int) (w : World) (hg : w.cell? ⟨2, 0, none⟩ = some (.iface 193 (.agg #[.pointer (some ⟨29, 65, none⟩)]))) (hgl : 2 < w.heap.size)
    (htb : tb < w.heap.size)
    (g0 : w.cell? ⟨tb, 0, none⟩ = some (.int .i64 n0)) (g1 : w.cell? ⟨tb, 1, none⟩ = some (.string x0)) (g2 : w.cell? ⟨tb, 2, none⟩ = some (.string y0)) (g3 : w.cell? ⟨tb, 3, none⟩ = some z0)
    (f0 : w.frozen? ⟨tb, 0, none⟩ = false) (f1 : w.frozen? ⟨tb, 1, none⟩ = false) (f2 : w.frozen? ⟨tb, 2, none⟩ = false) (f3 : w.frozen? ⟨tb, 3, none⟩ = false) :
    Calls Tryz.prog 56 #[.iface 104 (.agg #[.string z, .iface 96 (.agg #[.int .i64 n, .string x, .string y, .iface t v])]), .iface 98 (.pointer (some ⟨tb, 0, none⟩))] w fun ev w' => ev = .returned (.bool true) ∧ w'.cell? ⟨tb, 0, none⟩ = some (.int .i64 n) ∧ Below tb w w' := by
  have h6 := @run_callFunc_extern Tryz.prog 86 _ (fun args => ReflectliteValue.unpack (args.getD 0 (.tuple #[]))) Tryz.func86 (by kernel_rfl) (by kernel_rfl) (by kernel_rfl) (by kernel_rfl)
  have h7 := @run_callFunc_extern Tryz.prog 87 _ (ReflectliteValue.methodAny (ReflectliteValue.valueError "reflectlite.Value.Type" 0) (fun t _ _ _ => ReflectliteType.toType t)) Tryz.func87 (by kernel_rfl) (by kernel_rfl) (by kernel_rfl) (by kernel_rfl)
  have h8 := @run_callFunc_extern Tryz.prog 88 _ (ReflectliteValue.method (ReflectliteValue.valueError "reflectlite.Value.IsNil" 0) ReflectliteValue.isNil) Tryz.func88 (by kernel_rfl) (by kernel_rfl) (by kernel_rfl) (by kernel_rfl)
  have h27 := @run_callFunc_extern Tryz.prog 335 _ (ReflectliteType.abiMethod fun t => do pure (.int .u8 (← Rtype.kind t))) Tryz.func335 (by kernel_rfl) (by kernel_rfl) (by kernel_rfl) (by kernel_rfl)
  have h37 := @run_callFunc_extern Tryz.prog 353 _ (ReflectliteType.method ReflectliteType.elem) Tryz.func353 (by kernel_rfl) (by kernel_rfl) (by kernel_rfl) (by kernel_rfl)
  have h38 := @run_callFunc_extern Tryz.prog 354 _ (ReflectliteType.relation "Implements" ReflectliteType.implements_) Tryz.func354 (by kernel_rfl) (by kernel_rfl) (by kernel_rfl) (by kernel_rfl)
  have h10 := @run_callFunc_extern Tryz.prog 147 _ ReflectliteType.typeOf Tryz.func147 (by kernel_rfl) (by kernel_rfl) (by kernel_rfl) (by kernel_rfl)
  have h35 := @run_callFunc_extern Tryz.prog 351 _ (ReflectliteType.relation "AssignableTo" ReflectliteType.assignableTo) Tryz.func351 (by kernel_rfl) (by kernel_rfl) (by kernel_rfl) (by kernel_rfl)
  have h11 := @run_callFunc_extern Tryz.prog 148 _ (ReflectliteValue.method (ReflectliteValue.valueError "reflectlite.Value.Elem" 0) ReflectliteValue.elem) Tryz.func148 (by kernel_rfl) (by kernel_rfl) (by kernel_rfl) (by kernel_rfl)
  have h12 := @run_callFunc_extern Tryz.prog 149 _ ReflectliteValue.set Tryz.func149 (by kernel_rfl) (by kernel_rfl) (by kernel_rfl) (by kernel_rfl)
  have tO := Tryz.typeOfF
  have tE := Tryz.typeOfE
  have aE := Tryz.assignableE
  have nA := Tryz.noAsE
  have hU := Tryz.hasUnwrapE
  have mU := Tryz.methodUnwrapE
  have aF := Tryz.assignableF
  have vF := Tryz.valueOfF
  have f6 := Tryz.valueOfP
  have f7 := Tryz.typeP
  have kP := Tryz.kindP
  have kF := Tryz.kindF
  have eP := Tryz.elemP
  have iF := Tryz.implementsF
  have mK := Tryz.methodKind
  have mE := Tryz.methodElem
  have mI := Tryz.methodImplements
  have mA := Tryz.methodAssignableTo
  have n8 := Tryz.isNilP ⟨w.heap.size, 0, none⟩ ⟨tb, 0, none⟩ ((w.alloc (.cells #[.pointer (some ⟨tb, 0, none⟩)] 98)).alloc (.cells #[.pointer (some ⟨29, 98, none⟩), .pointer (some ⟨w.heap.size, 0, none⟩), .int .u64 150] 127)) (by simp)
  have hg2 : ((w.alloc (.cells #[.pointer (some ⟨tb, 0, none⟩)] 98)).alloc (.cells #[.pointer (some ⟨29, 98, none⟩), .pointer (some ⟨w.heap.size, 0, none⟩), .int .u64 150] 127)).cell? ⟨2, 0, none⟩ = some (.iface 193 (.agg #[.pointer (some ⟨29, 65, none⟩)])) := by
    rw [World.cell?_alloc_lt _ _ ⟨2, 0, none⟩ (by first | (simp; done) | (simp; omega)), World.cell?_alloc_lt _ _ ⟨2, 0, none⟩ hgl]; exact hg
  have el := Tryz.elemVP ⟨w.heap.size, 0, none⟩ ⟨tb, 0, none⟩ ((((w.alloc (.cells #[.pointer (some ⟨tb, 0, none⟩)] 98)).alloc (.cells #[.pointer (some ⟨29, 98, none⟩), .pointer (some ⟨w.heap.size, 0, none⟩), .int .u64 150] 127)).alloc (.cells #[.pointer (some ⟨29, 98, none⟩), .pointer (some ⟨w.heap.size, 0, none⟩), .int .u64 150] 127)).alloc (.cells #[.string z, .iface 96 (.agg #[.int .i64 n, .string x, .string y, .iface t v])] 104)) (by rw [World.cell?_alloc_lt _ _ ⟨w.heap.size, 0, none⟩ (by simp; omega), World.cell?_alloc_lt _ _ ⟨w.heap.size, 0, none⟩ (by simp; omega)]; simp)
  have old : ∀ i u, w.cell? ⟨tb, i, none⟩ = some u → (((((w.alloc (.cells #[.pointer (some ⟨tb, 0, none⟩)] 98)).alloc (.cells #[.pointer (some ⟨29, 98, none⟩), .pointer (some ⟨w.heap.size, 0, none⟩), .int .u64 150] 127)).alloc (.cells #[.pointer (some ⟨29, 98, none⟩), .pointer (some ⟨w.heap.size, 0, none⟩), .int .u64 150] 127)).alloc (.cells #[.string z, .iface 96 (.agg #[.int .i64 n, .string x, .string y, .iface t v])] 104)).alloc (.cells #[.int .i64 n, .string x, .string y, .iface t v] 96)).cell? ⟨tb, i, none⟩ = some u := fun i u hu => by
    rw [World.cell?_alloc_lt _ _ ⟨tb, i, none⟩ (by simp; omega), World.cell?_alloc_lt _ _ ⟨tb, i, none⟩ (by simp; omega), World.cell?_alloc_lt _ _ ⟨tb, i, none⟩ (by simp; omega), World.cell?_alloc_lt _ _ ⟨tb, i, none⟩ (by simp; omega), World.cell?_alloc_lt _ _ ⟨tb, i, none⟩ htb]; exact hu
  have oldf : ∀ i, w.frozen? ⟨tb, i, none⟩ = false → (((((w.alloc (.cells #[.pointer (some ⟨tb, 0, none⟩)] 98)).alloc (.cells #[.pointer (some ⟨29, 98, none⟩), .pointer (some ⟨w.heap.size, 0, none⟩), .int .u64 150] 127)).alloc (.cells #[.pointer (some ⟨29, 98, none⟩), .pointer (some ⟨w.heap.size, 0, none⟩), .int .u64 150] 127)).alloc (.cells #[.string z, .iface 96 (.agg #[.int .i64 n, .string x, .string y, .iface t v])] 104)).alloc (.cells #[.int .i64 n, .string x, .string y, .iface t v] 96)).frozen? ⟨tb, i, none⟩ = false := fun i hu => by
    rw [World.frozen?_alloc_old _ _ ⟨tb, i, none⟩ (by simp; omega), World.frozen?_alloc_old _ _ ⟨tb, i, none⟩ (by simp; omega), World.frozen?_alloc_old _ _ ⟨tb, i, none⟩ (by simp; omega), World.frozen?_alloc_old _ _ ⟨tb, i, none⟩ (by simp; omega), World.frozen?_alloc_old _ _ ⟨tb, i, none⟩ (Nat.ne_of_lt htb)]; exact hu
  have st := Tryz.setF tb (w.heap.size + 1 + 1 + 1 + 1) n n0 x y x0 y0 t v z0 (((((w.alloc (.cells #[.pointer (some ⟨tb, 0, none⟩)] 98)).alloc (.cells #[.pointer (some ⟨29, 98, none⟩), .pointer (some ⟨w.heap.size, 0, none⟩), .int .u64 150] 127)).alloc (.cells #[.pointer (some ⟨29, 98, none⟩), .pointer (some ⟨w.heap.size, 0, none⟩), .int .u64 150] 127)).alloc (.cells #[.string z, .iface 96 (.agg #[.int .i64 n, .string x, .string y, .iface t v])] 104)).alloc (.cells #[.int .i64 n, .string x, .string y, .iface t v] 96))
    (by rw [World.cell?_alloc_at _ _ _ _ (by simp)]; rfl) (by rw [World.cell?_alloc_at _ _ _ _ (by simp)]; rfl) (by rw [World.cell?_alloc_at _ _ _ _ (by simp)]; rfl) (by rw [World.cell?_alloc_at _ _ _ _ (by simp)]; rfl)
    (old 0 _ g0) (old 1 _ g1) (old 2 _ g2) (old 3 _ g3) (oldf 0 f0) (oldf 1 f1) (oldf 2 f2) (oldf 3 f3)
  have HO : Hid (∀ i u, w.cell? ⟨tb, i, none⟩ = some u → (((((w.alloc (.cells #[.pointer (some ⟨tb, 0, none⟩)] 98)).alloc (.cells #[.pointer (some ⟨29, 98, none⟩), .pointer (some ⟨w.heap.size, 0, none⟩), .int .u64 150] 127)).alloc (.cells #[.pointer (some ⟨29, 98, none⟩), .pointer (some ⟨w.heap.size, 0, none⟩), .int .u64 150] 127)).alloc (.cells #[.string z, .iface 96 (.agg #[.int .i64 n, .string x, .string y, .iface t v])] 104)).alloc (.cells #[.int .i64 n, .string x, .string y, .iface t v] 96)).cell? ⟨tb, i, none⟩ = some u) := old
  have HG0 : Hid (w.cell? ⟨tb, 0, none⟩ = some (.int .i64 n0)) := g0
  clear old oldf g0 g1 g2 g3 f0 f1 f2 f3
  go_enter Tryz.func56, Tryz.ntmps56
  go_wp2
  refine wp_loop_rounds 2 ?_
  rw [rounds_succ]
  go_wp2
  rw [rounds_succ]
  go_wp2
  go_ret
  refine ⟨rfl, ?_, ?_⟩
  · rw [World.cell?_setCell_other _ _ _ _ (by simp), World.cell?_setCell_other _ _ _ _ (by simp), World.cell?_setCell_other _ _ _ _ (by simp), World.cell?_setCell_same _ _ _ (HO.out 0 _ HG0.out)]
  · exact ((((below5 tb w _ _ _ _ _ (Nat.le_of_lt htb)).setCell (Nat.le_refl _) _).setCell (Nat.le_refl _) _).setCell (Nat.le_refl _) _).setCell (Nat.le_refl _) _
end Go.Proofs
/-
  What errnoOf answers of errors around a Fault; what Authority.tell answers.
-/
namespace Go.Proofs
open Go.RowKit Go.Moor

set_option maxHeartbeats 1000000 in
theorem Tryz.errnoOf_wrap (z : ByteArray) (n : Int) (x y : ByteArray) (t : TypeId) (v : Value) (w : World) (henv : Tryz.Env w) : Calls Tryz.prog 33 #[.iface 104 (.agg #[.string z, .iface 96 (.agg #[.int .i64 n, .string x, .string y, .iface t v])])] w fun e w' => e = .returned (.int .i64 n) ∧ Below w.heap.size w w' := by
  have HV : Hid (Tryz.Env (w.alloc (.cells #[.int .i64 0, .string ⟨#[]⟩, .string ⟨#[]⟩, .nilIface] 96))) := henv.below ((Below.refl _ _).alloc (Nat.le_refl _) _)
  have hgz := henv.size
  have HC : Hid (Calls Tryz.prog 56 #[.iface 104 (.agg #[.string z, .iface 96 (.agg #[.int .i64 n, .string x, .string y, .iface t v])]), .iface 98 (.pointer (some ⟨w.heap.size, 0, none⟩))] (w.alloc (.cells #[.int .i64 0, .string ⟨#[]⟩, .string ⟨#[]⟩, .nilIface] 96)) fun ev w' => ev = .returned (.bool true) ∧ w'.cell? ⟨w.heap.size, 0, none⟩ = some (.int .i64 n) ∧ Below w.heap.size (w.alloc (.cells #[.int .i64 0, .string ⟨#[]⟩, .string ⟨#[]⟩, .nilIface] 96)) w') :=
    Tryz.as_wrap w.heap.size z n x y ⟨#[]⟩ ⟨#[]⟩ t v .nilIface 0 _ HV.out.errType (by first | (simp; done) | (simp; omega)) (by simp) (by simp) (by simp) (by simp) (by simp) (by simp) (by simp) (by simp) (by simp)
  clear henv hgz
  go_enter Tryz.func33, Tryz.ntmps33
  go_wp2_with (go_at_call 56; refine HC.out.mono ?_)
  rintro e W1 ⟨rfl, hc, hb⟩
  go_wp2
  go_ret
  exact ⟨rfl, ((Below.refl _ _).alloc (Nat.le_refl _) _).trans hb⟩
theorem Tryz.errnoOf_any (n : Int) (v : Value) (w : World) (h : Tryz.ErrOf n v) (henv : Tryz.Env w) : Calls Tryz.prog 33 #[v] w fun e w' => e = .returned (.int .i64 n) ∧ Below w.heap.size w w' := by
  rcases h with ⟨x, y, te, ve, rfl⟩ | ⟨z, x, y, te, ve, rfl⟩
  · exact Tryz.errnoOf_fault n x y te ve w henv
  · exact Tryz.errnoOf_wrap z n x y te ve w henv

set_option maxHeartbeats 4000000 in
theorem Tryz.authTell_any (a : Auth) (w : World) (hu : a.user.length < 1000000000) (hp : a.pass.length < 1000000000) (hh : a.host.length < 1000000000) (hpo : a.port = -1 ∨ (0 ≤ a.port ∧ a.port ≤ 65535)) (henv : Tryz.Env2 w) :
    Calls Tryz.prog 90 #[.agg (authCells a)] w fun e w' => e = .returned (.string ⟨(tellAuth a).toArray⟩) ∧ Below w.heap.size w w' := by
  obtain ⟨W, hW⟩ : ∃ W, W = w.alloc (.cells (authCells a) 71) := ⟨_, rfl⟩
  have hBW : Below w.heap.size w W := by
    rw [hW]
    exact (Below.refl _ _).alloc (Nat.le_refl _) _
  have hz0 : W.heap[w.heap.size]? = some (.cells (authCells a) 71 (0, 0)) := by rw [hW]; exact alloc_here w _ _
  have hsize : W.heap.size = w.heap.size + 1 := by rw [hW]; simp
  have HBW : Hid (∀ w1, Below W.heap.size W w1 → Below w.heap.size w w1) := fun w1 h1 => hBW.trans (h1.mono (by omega))
  have HL : Hid (∀ w1, Below W.heap.size W w1 → Calls Tryz.prog 150 #[.agg (authCells a)] w1 fun e w' => e = .returned (.string ⟨(tellLogin a).toArray⟩) ∧ Below W.heap.size W w') := by
    intro w1 h1
    refine (Tryz.tellLogin_any a w1 (by omega) (by omega)).mono ?_
    rintro e w' ⟨rfl, hb⟩
    exact ⟨rfl, h1.trans (hb.mono h1.size)⟩
  have HP : Hid (∀ w1, Below W.heap.size W w1 → Calls Tryz.prog 127 #[.agg (authCells a)] w1 fun e w' => e = .returned (.string ⟨(tellPlace a).toArray⟩) ∧ Below W.heap.size W w') := by
    intro w1 h1
    refine (Tryz.tellPlace_any a w1 (by omega) hpo ((henv.below hBW).below h1)).mono ?_
    rintro e w' ⟨rfl, hb⟩
    exact ⟨rfl, h1.trans (hb.mono h1.size)⟩
  have hl1 : (tellLogin a).length ≤ 2000000010 := by
    unfold tellLogin
    split
    · simp; omega
    · split
      · simp; omega
      · simp
  have hl2 : (tellPlace a).length ≤ 1000000020 := by
    unfold tellPlace
    split
    · omega
    · have : (decB a.port).length ≤ 10 := by
        rcases hpo with h | h
        · contradiction
        · unfold decB
          exact dec_len5 _ (by omega)
      simp
      omega
  have HC : Hid (∀ w1, Below W.heap.size W w1 → w1.cell? ⟨w.heap.size, 0, none⟩ = some (.string ⟨a.user.toArray⟩) ∧ w1.cell? ⟨w.heap.size, 1, none⟩ = some (.string ⟨a.pass.toArray⟩) ∧ w1.cell? ⟨w.heap.size, 2, none⟩ = some (.bool a.has) ∧ w1.cell? ⟨w.heap.size, 3, none⟩ = some (.string ⟨a.host.toArray⟩) ∧ w1.cell? ⟨w.heap.size, 4, none⟩ = some (.int .i64 a.port)) := by
    intro w1 h1
    have k0 := (h1.block w.heap.size (by omega)).trans hz0
    exact ⟨cell_heap k0 0, cell_heap k0 1, cell_heap k0 2, cell_heap k0 3, cell_heap k0 4⟩
  have HE : Hid (tellAuth a = if a.has then 47 :: 47 :: (tellLogin a ++ tellPlace a) else []) := rfl
  have HW : Hid (W = w.alloc (.cells (authCells a) 71)) := hW
  obtain ⟨us, pa, ha, ho, po⟩ := a
  simp only at HE HC HW
  unfold authCells at HL HP HW ⊢
  simp only at HL HP HW ⊢
  obtain ⟨d0, d1, d2, d3, d4⟩ := HC.out W (Below.refl _ _)
  clear hW hBW hz0 hsize henv hu hp hh hpo
  cases ha with
  | false =>
    clear HL HP
    go_enter Tryz.func90, Tryz.ntmps90
    go_upto_region 1 with fail
    rw [← HW.out]
    clear HW
    go_wp2_with fail
    go_ret
    rw [HE.out]
    exact ⟨rfl, HBW.out W (Below.refl _ _)⟩
  | true =>
    have HA : Hid (((⟨#[47, 47]⟩ : ByteArray) ++ ⟨(tellLogin ⟨us, pa, true, ho, po⟩).toArray⟩) ++ ⟨(tellPlace ⟨us, pa, true, ho, po⟩).toArray⟩ = ⟨(tellAuth ⟨us, pa, true, ho, po⟩).toArray⟩) := by
      show _ = _
      have h1 : (⟨#[47, 47]⟩ : ByteArray) ++ ⟨(tellLogin ⟨us, pa, true, ho, po⟩).toArray⟩ = ⟨([47, 47] ++ tellLogin ⟨us, pa, true, ho, po⟩).toArray⟩ := app_mk [47, 47] _
      rw [h1, app_mk, HE.out]
      simp
    have z1 : (⟨(tellLogin ⟨us, pa, true, ho, po⟩).toArray⟩ : ByteArray).size = _ := size_mk _
    have z2 : (⟨(tellPlace ⟨us, pa, true, ho, po⟩).toArray⟩ : ByteArray).size = _ := size_mk _
    rw [← z1] at hl1
    rw [← z2] at hl2
    clear z1 z2 HE
    generalize (⟨(tellLogin ⟨us, pa, true, ho, po⟩).toArray⟩ : ByteArray) = t1 at *
    generalize (⟨(tellPlace ⟨us, pa, true, ho, po⟩).toArray⟩ : ByteArray) = t2 at *
    generalize (⟨us.toArray⟩ : ByteArray) = x0 at *
    generalize (⟨pa.toArray⟩ : ByteArray) = x1 at *
    generalize (⟨ho.toArray⟩ : ByteArray) = x3 at *
    generalize (⟨(tellAuth ⟨us, pa, true, ho, po⟩).toArray⟩ : ByteArray) = t3 at *
    have g1 : ∀ W : World, (Op.stringOp .add ⟨#[47, 47]⟩ t1).run Tryz.prog W = .ok (.string (⟨#[47, 47]⟩ ++ t1)) W := fun W => run_string_add_sum W _ _ (by have : (⟨#[47, 47]⟩ : ByteArray).size = 2 := rfl; omega)
    have g2 : ∀ W : World, (Op.stringOp .add (⟨#[47, 47]⟩ ++ t1) t2).run Tryz.prog W = .ok (.string (⟨#[47, 47]⟩ ++ t1 ++ t2)) W := fun W => run_string_add_sum W _ _ (by rw [ByteArray.size_append]; have : (⟨#[47, 47]⟩ : ByteArray).size = 2 := rfl; omega)
    clear hl1 hl2
    go_enter Tryz.func90, Tryz.ntmps90
    go_upto_region 1 with fail
    rw [← HW.out]
    clear HW
    go_upto_region 3 with fail
    go_region_held3 (fun w' => w'.cell? ⟨w.heap.size, 0, none⟩ = some (.string x0) ∧ w'.cell? ⟨w.heap.size, 1, none⟩ = some (.string x1) ∧ w'.cell? ⟨w.heap.size, 2, none⟩ = some (.bool true) ∧ w'.cell? ⟨w.heap.size, 3, none⟩ = some (.string x3) ∧ w'.cell? ⟨w.heap.size, 4, none⟩ = some (.int .i64 po)) (go_keep) (first | (go_at_call 150; refine Calls.mono (HL.out _ (by exact same_heap rfl rfl rfl rfl)) ?_; rintro e w1 ⟨rfl, b1⟩; obtain ⟨y0, y1, y2, y3, y4⟩ := HC.out w1 b1; have HB1 : Hid (Below W.heap.size W w1) := b1; clear b1) | (go_at_call 127; refine Calls.mono (HP.out _ (by first | exact HB1.out | exact HB1.out.trans (same_heap rfl rfl rfl rfl))) ?_; rintro e w2 ⟨rfl, b2⟩; obtain ⟨u0, u1, u2, u3, u4⟩ := HC.out w2 b2; have HB2 : Hid (Below W.heap.size W w2) := b2; clear b2))
    all_goals
      go_wp2_with fail
      go_ret
      rw [HA.out]
      exact ⟨rfl, HBW.out w2 HB2.out⟩
end Go.Proofs
