/-
  What guard and drive of package address answer.
-/
import Derived.Test.YtkcnageeamappaaGreatDoorJAOther
namespace Go.Proofs
open Go.RowKit Go.Moor

/-- The thirteen cells of an address; v: its row of segments. -/
def adrCells (a : Adr) (v : Value) : Array Value := #[.string ⟨a.scheme.toArray⟩, .string ⟨a.auth.user.toArray⟩, .string ⟨a.auth.pass.toArray⟩, .bool a.auth.has, .string ⟨a.auth.host.toArray⟩, .int .i64 a.auth.port, .bool a.way.opaq, .string ⟨a.way.text.toArray⟩, v, .bool a.query.isSome, .string ⟨(a.query.getD []).toArray⟩, .bool a.frag.isSome, .string ⟨(a.frag.getD []).toArray⟩]

theorem cell_lt {w : World} {a : Go.Addr} {v : Value} (h : w.cell? a = some v) : a.block < w.heap.size := by
  first | exact block_lt_of_cell h | exact World.block_lt_of_cell? w a h
set_option maxHeartbeats 2000000 in
theorem Tryz.guard_any (a : Adr) (v : Value) (w : World) (hv : SegRow w v a.way.segs) :
    Calls Tryz.prog 91 #[.agg (adrCells a v)] w fun e w' => e = .returned (.string ⟨(guardB a).toArray⟩) ∧ Below w.heap.size w w' := by
  obtain ⟨sc, ⟨us, pa, ha, ho, po⟩, ⟨op, tx, segs⟩, qu, fr⟩ := a
  unfold adrCells
  simp only at hv ⊢
  have HB : Hid (∀ o : Obj, Below w.heap.size w (w.alloc o)) := fun o => (Below.refl _ _).alloc (Nat.le_refl _) o
  obtain ⟨⟨sp, cap, rfl, hnc, hcm, hf⟩, _⟩ := hv
  unfold maxLen at hcm
  have HE : Hid (guardB ⟨sc, ⟨us, pa, ha, ho, po⟩, ⟨op, tx, segs⟩, qu, fr⟩ = if ha = false ∧ 1 < segs.length ∧ segs.head? = some [] then [47, 46] else []) := rfl
  generalize qu.isSome = q1 at *
  generalize qu.getD [] = q2 at *
  generalize fr.isSome = f1 at *
  generalize fr.getD [] = f2 at *
  cases ha with
  | true =>
    have HE2 : Hid (guardB ⟨sc, ⟨us, pa, true, ho, po⟩, ⟨op, tx, segs⟩, qu, fr⟩ = []) := by show _ = _; rw [HE.out, if_neg (by simp)]
    clear HE hf
    go_enter Tryz.func91, Tryz.ntmps91
    go_wp2
    go_ret
    rw [HE2.out]
    exact ⟨rfl, HB.out _⟩
  | false =>
    by_cases h1 : 1 < segs.length
    · obtain ⟨x, hx⟩ : ∃ x, segs[0]? = some x := ⟨segs[0], List.getElem?_eq_getElem (by omega)⟩
      have hh : segs.head? = some x := by rw [List.head?_eq_getElem?]; exact hx
      obtain ⟨g, rfl, hc⟩ := hf (by intro h; rw [h] at h1; simp at h1)
      have hcx := hc 0 x hx
      have hgz : g < w.heap.size := cell_lt hcx
      clear hf hc
      by_cases hxe : x = []
      · subst hxe
        have HE2 : Hid (guardB ⟨sc, ⟨us, pa, false, ho, po⟩, ⟨op, tx, segs⟩, qu, fr⟩ = [47, 46]) := by show _ = _; rw [HE.out, if_pos ⟨rfl, h1, hh⟩]
        have e1 := empty_yes
        clear HE hh hx
        go_enter Tryz.func91, Tryz.ntmps91
        go_wp2
        go_ret
        rw [HE2.out]
        exact ⟨rfl, HB.out _⟩
      · have HE2 : Hid (guardB ⟨sc, ⟨us, pa, false, ho, po⟩, ⟨op, tx, segs⟩, qu, fr⟩ = []) := by show _ = _; rw [HE.out, hh, if_neg (by simp [hxe])]
        have e1 := empty_no x hxe
        obtain ⟨s, hsd⟩ : ∃ s : ByteArray, s = ⟨x.toArray⟩ := ⟨_, rfl⟩
        rw [← hsd] at e1 hcx
        clear HE hh hx hxe hsd
        go_enter Tryz.func91, Tryz.ntmps91
        go_wp2
        go_ret
        rw [HE2.out]
        exact ⟨rfl, HB.out _⟩
    · have HE2 : Hid (guardB ⟨sc, ⟨us, pa, false, ho, po⟩, ⟨op, tx, segs⟩, qu, fr⟩ = []) := by show _ = _; rw [HE.out, if_neg (fun y => h1 y.2.1)]
      clear HE hf
      go_enter Tryz.func91, Tryz.ntmps91
      go_wp2
      go_ret
      rw [HE2.out]
      exact ⟨rfl, HB.out _⟩
end Go.Proofs
/-
  What Path.tell of package address answers.
-/
namespace Go.Proofs
open Go.RowKit Go.Moor

theorem tellSegs_next (segs : List Bs) (q : Nat) (x : Bs) (h : segs[q]? = some x) : tellSegs (segs.take (q + 1)) = (tellSegs (segs.take q) ++ [47]) ++ x := by
  rw [List.take_add_one, h]
  unfold tellSegs
  rw [List.flatMap_append]
  simp
theorem tellSegs_le (segs : List Bs) (hx : ∀ x ∈ segs, x.length ≤ 1000000) (q : Nat) : (tellSegs (segs.take q)).length ≤ 1000001 * q := by
  have key : ∀ l : List Bs, (∀ x ∈ l, x.length ≤ 1000000) → (tellSegs l).length ≤ 1000001 * l.length := by
    intro l
    induction l with
    | nil => intro _; simp [tellSegs]
    | cons a l ih =>
      intro h
      have h1 := ih (fun x hx => h x (by simp [hx]))
      have h2 := h a (by simp)
      unfold tellSegs at h1 ⊢
      simp only [List.flatMap_cons, List.length_append, List.length_cons]
      omega
  have := key (segs.take q) (fun x h => hx x (List.mem_of_mem_take h))
  rw [List.length_take] at this
  have h2 : 1000001 * min q segs.length ≤ 1000001 * q := Nat.mul_le_mul_left _ (by omega)
  omega

set_option maxHeartbeats 4000000 in
theorem Tryz.pathTell_any (y : Moor.Way) (v : Value) (w : World) (hv : SegRow w v y.segs) (hn : y.segs.length ≤ 10000000) (hx : ∀ x ∈ y.segs, x.length ≤ 1000000) :
    Calls Tryz.prog 59 #[.agg #[.bool y.opaq, .string ⟨y.text.toArray⟩, v]] w fun e w' => e = .returned (.string ⟨(tellWay y).toArray⟩) ∧ Below w.heap.size w w' := by
  obtain ⟨op, tx, segs⟩ := y
  simp only at hv hn hx ⊢
  obtain ⟨⟨sp, cap, rfl, hnc, hcm, hf⟩, _⟩ := hv
  unfold maxLen at hcm
  cases op with
  | true =>
    have HE : Hid (tellWay ⟨true, tx, segs⟩ = tx) := rfl
    clear hf
    go_enter Tryz.func59, Tryz.ntmps59
    go_wp2
    go_ret
    rw [HE.out]
    exact ⟨rfl, (Below.refl _ _).alloc (Nat.le_refl _) _⟩
  | false =>
    have HE : Hid (tellWay ⟨false, tx, segs⟩ = tellSegs segs) := rfl
    have HS : Hid (∀ (j : Nat) x, segs[j]? = some x → ∃ g, sp = some ⟨g, 0, none⟩ ∧ w.cell? ⟨g, j, none⟩ = some (.string ⟨x.toArray⟩)) := by
      intro j x hj
      obtain ⟨g, hg, hc⟩ := hf (by intro h; rw [h] at hj; simp at hj)
      exact ⟨g, hg, hc j x hj⟩
    have HL : Hid (∀ q, (tellSegs (segs.take q)).length ≤ 1000001 * q) := tellSegs_le segs hx
    have HX : Hid (∀ x ∈ segs, x.length ≤ 1000000) := hx
    obtain ⟨W, hW⟩ : ∃ W, W = w.alloc (.cells #[.bool false, .string ⟨tx.toArray⟩, .slice sp segs.length cap] 73) := ⟨_, rfl⟩
    have HBW : Hid (Below w.heap.size w W) := by rw [hW]; exact (Below.refl _ _).alloc (Nat.le_refl _) _
    have hWz : W.heap.size = w.heap.size + 1 := by rw [hW]; simp
    have hc2 : W.cell? ⟨w.heap.size, 2, none⟩ = some (.slice sp segs.length cap) := by
      have : W.heap[w.heap.size]? = some (.cells #[.bool false, .string ⟨tx.toArray⟩, .slice sp segs.length cap] 73 (0, 0)) := by rw [hW]; exact alloc_here w _ _
      exact cell_heap this 2
    clear hf hx
    go_enter Tryz.func59, Tryz.ntmps59
    go_wp2
    rw [← hW]
    have HW0 : Hid (Lib.IsBuilderF 142 5 (w.heap.size + 1) (w.heap.size + 1) (Lib.byteCells []) (W.alloc (.cells #[.pointer none, .slice none 0 0] 142))) := by
      have h := Lib.IsBuilderF.of (Lib.fresh_isBuilder 142 5 W)
      rw [hWz] at h
      exact h
    have HBA : Hid (Below (w.heap.size + 1) W (W.alloc (.cells #[.pointer none, .slice none 0 0] 142))) := (Below.refl _ _).alloc (by omega) _
    clear hW
    go_loopw [13] (fun i wr => ∃ q : Nat, q ≤ segs.length ∧ i = .int .i64 q ∧ Lib.IsBuilderF 142 5 (w.heap.size + 1) (w.heap.size + 1) (Lib.byteCells (tellSegs (segs.take q))) wr ∧ Below (w.heap.size + 1) W wr ∧ w.heap.size + 1 < wr.heap.size) (fun i _ => segs.length - (intOf i).toNat)
    case atStart => exact ⟨0, Nat.zero_le _, rfl, HW0.out, HBA.out, by simp [hWz]⟩
    case round =>
      obtain ⟨q, hq, rfl, hI, hbw, hz⟩ := hrel
      have HBR : Hid (Below (w.heap.size + 1) W wr) := hbw
      have hlq := HL.out q
      clear hbw
      by_cases hlt : q < segs.length
      · obtain ⟨x, hx⟩ : ∃ x, segs[q]? = some x := ⟨segs[q], List.getElem?_eq_getElem hlt⟩
        obtain ⟨g, hsp, hcx⟩ := HS.out q x hx
        subst hsp
        have hgz : g < w.heap.size := cell_lt hcx
        have hcr : wr.cell? ⟨g, q, none⟩ = some (.string ⟨x.toArray⟩) := by
          rw [HBR.out.cell (p := ⟨g, q, none⟩) (show g < w.heap.size + 1 by omega), HBW.out.cell (p := ⟨g, q, none⟩) hgz]
          exact hcx
        have hxl := HX.out x (List.mem_of_getElem? hx)
        have HNX : Hid (tellSegs (segs.take (q + 1)) = (tellSegs (segs.take q) ++ [47]) ++ x) := tellSegs_next segs q x hx
        generalize tellSegs (segs.take q) = acc at *
        clear hx hcx
        go_wp2_with fail
        refine (Tryz.Builder_WriteString_k (w.heap.size + 1) (w.heap.size + 1) _ ⟨#[47]⟩ wr hI (by rw [Lib.byteCells_length]; show _ + 1 ≤ _; omega) (by omega)).mono ?_
        rintro e W1 ⟨rfl, h1, b1, _⟩
        have hI1 : Lib.IsBuilderF 142 5 (w.heap.size + 1) (w.heap.size + 1) (Lib.byteCells (acc ++ [47])) W1 := by rw [Lib.byteCells_append]; exact Or.inr h1
        have hz1 : w.heap.size + 1 < W1.heap.size := Nat.lt_of_lt_of_le hz b1.size
        have HB1 : Hid (Below (w.heap.size + 1) W W1) := HBR.out.trans b1
        clear h1 b1
        go_wp2_with fail
        refine (Tryz.Builder_WriteString_k (w.heap.size + 1) (w.heap.size + 1) _ ⟨x.toArray⟩ W1 hI1 (by rw [Lib.byteCells_length, size_mk]; simp; omega) (by omega)).mono ?_
        rintro e W2 ⟨rfl, h2, b2, _⟩
        have hI2 : Lib.IsBuilderF 142 5 (w.heap.size + 1) (w.heap.size + 1) (Lib.byteCells ((acc ++ [47]) ++ x)) W2 := by rw [Lib.byteCells_append]; exact Or.inr h2
        have hz2 : w.heap.size + 1 < W2.heap.size := Nat.lt_of_lt_of_le hz1 b2.size
        have HB2 : Hid (Below (w.heap.size + 1) W W2) := HB1.out.trans b2
        clear h2 b2
        go_wp2
        go_roundw
        case rel => exact ⟨q + 1, by omega, by go_num, by rw [HNX.out]; exact hI2, HB2.out, hz2⟩
        case measure => (simp [intOf]; try omega)
      · have HQ : Hid (tellSegs (segs.take q) = tellSegs segs) := by show _ = _; rw [List.take_of_length_le (by omega)]
        go_wp2_with (go_at_call 97; refine (Tryz.Builder_String_any_k (w.heap.size + 1) (w.heap.size + 1) _ _ hI (by omega)).mono ?_)
        rintro e W2 ⟨rfl, _, b2, _⟩
        go_wp2
        go_ret
        rw [HE.out, ← HQ.out]
        exact ⟨rfl, HBW.out.trans ((HBR.out.trans b2).mono (by omega))⟩
end Go.Proofs
/-
  What goOn and drive of package address do.
-/
namespace Go.Proofs
open Go.RowKit Go.Moor

/-- The row lies in another block than k. -/
def RowOff (k : Nat) (v : Value) : Prop := ∀ g n c, v = .slice (some ⟨g, 0, none⟩) n c → g ≠ k
theorem tagged_but {k : Nat} {w w' : World} {v : Value} (h : Tagged w v) (hb : But k w w') (ho : RowOff k v) : Tagged w' v := by
  intro g n c hv
  obtain ⟨cur, fr, hh⟩ := h g n c hv
  exact ⟨cur, fr, (hb.block g (Array.getElem?_eq_some_iff.1 hh).1 (ho g n c hv)).trans hh⟩
theorem tagged_below {w w' : World} {v : Value} (h : Tagged w v) (hb : Below w.heap.size w w') : Tagged w' v := by
  intro g n c hv
  obtain ⟨cur, fr, hh⟩ := h g n c hv
  exact ⟨cur, fr, (hb.block g (Array.getElem?_eq_some_iff.1 hh).1).trans hh⟩
/-- A row of texts lies in no block of another kind. -/
theorem tagged_off {k : Nat} {w : World} {v : Value} {cs : Array Value} {t : TypeId} {fr : Nat × Nat} (h : Tagged w v) (hk : w.heap[k]? = some (.cells cs t fr)) (ht : t ≠ 9) : RowOff k v := by
  intro g n c hv e
  subst e
  obtain ⟨cur, fr2, hh⟩ := h g n c hv
  rw [hk] at hh
  simp only [Option.some.injEq, Obj.cells.injEq] at hh
  exact ht hh.2.1
theorem segRow_but {k : Nat} {w w' : World} {v : Value} {segs : List Bs} (h : SegRow w v segs) (hb : But k w w') (ho : RowOff k v) : SegRow w' v segs := by
  obtain ⟨⟨sp, cap, rfl, h1, h2, h3⟩, ht⟩ := h
  refine ⟨⟨sp, cap, rfl, h1, h2, fun hn => ?_⟩, tagged_but ht hb ho⟩
  obtain ⟨g, rfl, hc⟩ := h3 hn
  refine ⟨g, rfl, fun j x hx => ?_⟩
  have := hc j x hx
  have hgz : g < w.heap.size := cell_lt this
  rw [← this]
  exact World.cell?_of_block (a := ⟨g, j, none⟩) (hb.block g hgz (ho g _ _ rfl))
theorem segRow_below {w w' : World} {v : Value} {segs : List Bs} (h : SegRow w v segs) (hb : Below w.heap.size w w') : SegRow w' v segs := by
  obtain ⟨⟨sp, cap, rfl, h1, h2, h3⟩, ht⟩ := h
  refine ⟨⟨sp, cap, rfl, h1, h2, fun hn => ?_⟩, tagged_below ht hb⟩
  obtain ⟨g, rfl, hc⟩ := h3 hn
  refine ⟨g, rfl, fun j x hx => ?_⟩
  have := hc j x hx
  have hgz : g < w.heap.size := cell_lt this
  rw [← this]
  exact World.cell?_of_block (a := ⟨g, j, none⟩) (hb.block g hgz)
theorem withoutLast_pre (s : Bs) (segs : List Bs) : withoutLast s segs <+: segs := by
  unfold withoutLast
  split
  · exact List.prefix_refl _
  · exact List.dropLast_prefix _
theorem pre_get {a b : List Bs} (h : a <+: b) (j : Nat) (x : Bs) (hx : a[j]? = some x) : b[j]? = some x := by
  obtain ⟨t, rfl⟩ := h
  have hj : j < a.length := (List.getElem?_eq_some_iff.1 hx).1
  rw [List.getElem?_append_left hj]
  exact hx

set_option maxHeartbeats 4000000 in
/-- Nothing to go on with: the base's path, and its query where there is none. -/
theorem Tryz.goOn_nil (k : Nat) (qh : Bool) (qt : ByteArray) (c0 c1 c2 c3 c4 c5 c6 c7 c8 c11 c12 b0 b1 b2 b3 b4 b5 b11 b12 : Value) (op bqh : Bool) (tx bqt : ByteArray) (sp : Option Go.Addr) (n cap : Nat) (w : World)
    (hk : w.heap[k]? = some (.cells #[c0, c1, c2, c3, c4, c5, c6, c7, c8, .bool qh, .string qt, c11, c12] 77 (0, 0))) :
    Calls Tryz.prog 280 #[.pointer (some ⟨k, 0, none⟩), .string ⟨#[]⟩, .agg #[b0, b1, b2, b3, b4, b5, .bool op, .string tx, .slice sp n cap, .bool bqh, .string bqt, b11, b12]] w fun e w' => e = .returned (.tuple #[]) ∧ But k w w' ∧ w'.heap[k]? = some (.cells #[c0, c1, c2, c3, c4, c5, .bool op, .string tx, .slice sp n cap, .bool (if qh then qh else bqh), .string (if qh then qt else bqt), c11, c12] 77 (0, 0)) := by
  have hkz : k < w.heap.size := (Array.getElem?_eq_some_iff.1 hk).1
  have HB0 : Hid (But k w w) := But.of_below (Below.refl _ _)
  have j6 : w.cell? ⟨k, 6, none⟩ = some c6 := cell_heap hk 6
  have j7 : w.cell? ⟨k, 7, none⟩ = some c7 := cell_heap hk 7
  have j8 : w.cell? ⟨k, 8, none⟩ = some c8 := cell_heap hk 8
  have j9 : w.cell? ⟨k, 9, none⟩ = some (.bool qh) := cell_heap hk 9
  have j10 : w.cell? ⟨k, 10, none⟩ = some (.string qt) := cell_heap hk 10
  have i6 := frozen_heap hk 6
  have i7 := frozen_heap hk 7
  have i8 := frozen_heap hk 8
  have i9 := frozen_heap hk 9
  have i10 := frozen_heap hk 10
  have g6 := heap_setCell_same _ k 6 _ 77 (.bool op) hk
  have g7 := heap_setCell_same _ k 7 _ 77 (.string tx) g6
  have g8 := heap_setCell_same _ k 8 _ 77 (.slice sp n cap) g7
  have g9 := heap_setCell_same _ k 9 _ 77 (.bool bqh) g8
  have g10 := heap_setCell_same _ k 10 _ 77 (.string bqt) g9
  have HG8 : Hid _ := g8
  have HG10 : Hid _ := g10
  have hne : w.heap.size ≠ k := by omega
  have hne2 : k ≠ w.heap.size := by omega
  clear g6 g7 g8 g9 g10 hk
  cases qh with
  | true =>
    simp only [if_true]
    go_enter Tryz.func280, Tryz.ntmps280
    go_wp2
    exact bodyPost_end (v := .tuple #[]) (results_none rfl _ _ _) rfl ⟨rfl, (((HB0.out.setCell 6 _).setCell 7 _).setCell 8 _).alloc _, (heap_alloc_lt _ _ k (by simpa using hkz)).trans HG8.out⟩
  | false =>
    simp only [Bool.false_eq_true, if_false]
    go_enter Tryz.func280, Tryz.ntmps280
    go_wp2
    exact bodyPost_end (v := .tuple #[]) (results_none rfl _ _ _) rfl ⟨rfl, (((((HB0.out.setCell 6 _).setCell 7 _).setCell 8 _).setCell 9 _).setCell 10 _).alloc _, (heap_alloc_lt _ _ k (by simpa using hkz)).trans HG10.out⟩

set_option maxHeartbeats 4000000 in
theorem Tryz.goOn_any (k : Nat) (sc m : Bs) (q : Option Bs) (b : Adr) (bv : Value) (c1 c2 c3 c4 c5 c6 c7 c8 c11 c12 : Value) (w : World) (hm : m.length ≤ 100000)
    (hk : w.heap[k]? = some (.cells #[.string ⟨sc.toArray⟩, c1, c2, c3, c4, c5, c6, c7, c8, .bool q.isSome, .string ⟨(q.getD []).toArray⟩, c11, c12] 77 (0, 0)))
    (hb : SegRow w bv b.way.segs) (hoff : RowOff k bv) (hbl : b.way.segs.length ≤ 1000000) (hbx : ∀ x ∈ b.way.segs, x.length ≤ 1000000) (henv : Tryz.Env2 w) :
    Calls Tryz.prog 280 #[.pointer (some ⟨k, 0, none⟩), .string ⟨m.toArray⟩, .agg (adrCells b bv)] w fun e w' => e = .returned (.tuple #[]) ∧ But k w w' ∧ ∃ v, w'.heap[k]? = some (.cells #[.string ⟨sc.toArray⟩, c1, c2, c3, c4, c5, .bool (goOn sc m q b).1.opaq, .string ⟨(goOn sc m q b).1.text.toArray⟩, v, .bool (goOn sc m q b).2.isSome, .string ⟨((goOn sc m q b).2.getD []).toArray⟩, c11, c12] 77 (0, 0)) ∧ SegRow w' v (goOn sc m q b).1.segs := by
  have hkz : k < w.heap.size := (Array.getElem?_eq_some_iff.1 hk).1
  have HSR : Hid (SegRow w bv b.way.segs) := hb
  obtain ⟨W, hW⟩ : ∃ W, W = w.alloc (.cells (adrCells b bv) 77) := ⟨_, rfl⟩
  have hBW : Below w.heap.size w W := by rw [hW]; exact (Below.refl _ _).alloc (Nat.le_refl _) _
  have hWz : W.heap.size = w.heap.size + 1 := by rw [hW]; simp
  have hWk : W.heap[k]? = _ := (hBW.block k hkz).trans hk
  have hWb : W.heap[w.heap.size]? = some (.cells (adrCells b bv) 77 (0, 0)) := by rw [hW]; exact alloc_here w _ _
  have HBW : Hid (Below w.heap.size w W) := hBW
  have hV := henv.below hBW
  by_cases h0 : m = []
  · -- the whole path, and perhaps the query
    subst h0
    obtain ⟨⟨sp, cap, rfl, hnc, hcm, _⟩, _⟩ := hb
    refine (Tryz.goOn_nil k q.isSome ⟨(q.getD []).toArray⟩ _ c1 c2 c3 c4 c5 c6 c7 c8 c11 c12 _ _ _ _ _ _ _ _ b.way.opaq b.query.isSome ⟨b.way.text.toArray⟩ ⟨(b.query.getD []).toArray⟩ sp b.way.segs.length cap w hk).mono ?_
    rintro e w' ⟨rfl, hbu, hh⟩
    have hg : goOn sc [] q b = (b.way, if q.isSome then q else b.query) := by unfold goOn; rw [if_neg (by simp)]
    refine ⟨rfl, hbu, _, ?_, by rw [hg]; exact segRow_but HSR.out hbu hoff⟩
    rw [hg, hh]
    cases q <;> rfl
  · have e0 := empty_no m h0
    have HE : Hid (goOn sc m q b = (⟨false, [], readSegs sc (withoutLast sc b.way.segs) m⟩, q)) := by show _ = _; unfold goOn; rw [if_pos h0]; rfl
    obtain ⟨⟨sp, cap, rfl, hnc, hcm, hf⟩, _⟩ := hb
    have k0 : W.cell? ⟨k, 0, none⟩ = some (.string ⟨sc.toArray⟩) := cell_heap hWk 0
    have d8 : W.cell? ⟨w.heap.size, 8, none⟩ = some (.slice sp b.way.segs.length cap) := cell_heap hWb 8
    have HWL : Hid (∀ w1, Below W.heap.size W w1 → Calls Tryz.prog 253 #[.string ⟨sc.toArray⟩, .slice sp b.way.segs.length cap] w1 fun e w' => e = .returned (.slice sp (withoutLast sc b.way.segs).length cap) ∧ w' = w1) := by
      intro w1 h1
      have hs1 := segRow_below (segRow_below HSR.out HBW.out) h1
      obtain ⟨⟨sp2, cap2, he, _, _, hf2⟩, _⟩ := hs1
      injection he with e1 _ e2
      subst e1; subst e2
      refine Tryz.withoutLast_any sc sp cap b.way.segs w1 hnc (by unfold maxLen at hcm; omega) (fun x hx => by have := hbx x hx; omega) ?_
      intro j x hx
      obtain ⟨g, hg, hc⟩ := hf2 (fun e => by rw [e] at hx; simp at hx)
      refine ⟨⟨g, 0, none⟩, hg, ?_⟩
      have := hc j x hx
      rw [Lib.add_plain, Nat.zero_add]; exact this
    have HRP : Hid (∀ w1, Below W.heap.size W w1 → Calls Tryz.prog 163 #[.pointer (some ⟨k, 0, none⟩), .slice sp (withoutLast sc b.way.segs).length cap, .string ⟨m.toArray⟩] w1 fun e w' => e = .returned (.tuple #[]) ∧ But k w w' ∧ ∃ v, w'.heap[k]? = some (.cells #[.string ⟨sc.toArray⟩, c1, c2, c3, c4, c5, .bool false, .string ⟨#[]⟩, v, .bool q.isSome, .string ⟨(q.getD []).toArray⟩, c11, c12] 77 (0, 0)) ∧ SegRow w' v (readSegs sc (withoutLast sc b.way.segs) m)) := by
      intro w1 h1
      have hpre := withoutLast_pre sc b.way.segs
      have hs1 := segRow_below (segRow_below HSR.out HBW.out) h1
      obtain ⟨⟨sp2, cap2, he, _, _, hf2⟩, _⟩ := hs1
      injection he with e1 _ e2
      subst e1; subst e2
      refine (Tryz.readPath_any k sc m c1 c2 c3 c4 c5 c6 c7 c8 _ _ c11 c12 sp cap (withoutLast sc b.way.segs) w1 hm (Nat.le_trans hpre.length_le hbl) (fun x hx => hbx x (hpre.subset hx)) ((h1.block k (by omega)).trans hWk) ?_ (hV.below h1)).mono ?_
      · intro hn
        obtain ⟨g, hg, hc⟩ := hf2 (fun e => by rw [e] at hn; exact hn (List.prefix_nil.1 (withoutLast_pre sc [])))
        exact ⟨g, hg, fun j x hx => hc j x (pre_get hpre j x hx)⟩
      · rintro e w' ⟨rfl, hb', v, h2, h3⟩
        exact ⟨rfl, (But.of_below HBW.out).trans ((But.of_below h1).trans hb'), v, h2, own_seg h3⟩
    clear hk hWk hWb henv hV hoff hbl hbx hf hm hBW
    obtain ⟨s, hsd⟩ : ∃ s : ByteArray, s = ⟨m.toArray⟩ := ⟨_, rfl⟩
    rw [← hsd] at e0 HRP ⊢
    generalize readSegs sc (withoutLast sc b.way.segs) m = rs at *
    generalize withoutLast sc b.way.segs = wl at *
    generalize b.way.segs = segs at *
    unfold maxLen at hcm
    clear hsd h0
    go_enter Tryz.func280, Tryz.ntmps280
    go_wp2_with fail
    rw [← hW]
    clear hW
    go_region_with (first | (go_at_call 253; refine Calls.mono (HWL.out _ (by exact same_heap rfl rfl rfl rfl)) ?_; rintro e w1 ⟨rfl, hw1⟩; have hw1 := hw1.symm; subst hw1) | (go_at_call 163; refine Calls.mono (HRP.out _ (by exact same_heap rfl rfl rfl rfl)) ?_; rintro e w1 ⟨rfl, hbz, v, h2, h3⟩; have HF : Hid _ := And.intro hbz (And.intro h2 h3); clear hbz h2 h3))
    all_goals
      go_wp2
      rw [HE.out]
      exact bodyPost_ret (v := .tuple #[]) (results_none rfl _ _ _) rfl ⟨rfl, HF.out.1, _, HF.out.2.1, HF.out.2.2⟩
end Go.Proofs
