/-
  What readMarked of package address answers.
-/
import Derived.Test.YtkcnageeamappaaGreatDoorJAMid
import Derived.Deep.DeepCutAuto
import Derived.Deep.RegionHeld3
namespace Go.Proofs
open Go.RowKit Go.Moor

def zeroAdr : Array Value := #[.string ⟨#[]⟩, .string ⟨#[]⟩, .string ⟨#[]⟩, .bool false, .string ⟨#[]⟩, .int .i64 0, .bool false, .string ⟨#[]⟩, .slice none 0 0, .bool false, .string ⟨#[]⟩, .bool false, .string ⟨#[]⟩]
/-- An address and no error, or thirteen cells and an error. -/
def Tryz.AdrRes (o : Except Int Adr) (e : Ending) (w' : World) : Prop :=
  match o with
  | .error n => ∃ (cs : Array Value) (x y : ByteArray) (te : TypeId) (ve : Value), e = .returned (.tuple #[.agg cs, .iface 96 (.agg #[.int .i64 n, .string x, .string y, .iface te ve])]) ∧ cs.size = 13 ∧ cs.all (·.oneCell') = true
  | .ok a => ∃ v, e = .returned (.tuple #[.agg (adrCells a v), .nilIface]) ∧ SegRow w' v a.way.segs
/-- The cells of an address that has a scheme, a query and a fragment, and nothing else yet. -/
def newCells (sc : Bs) (q f : Option Bs) : Array Value := #[.string ⟨sc.toArray⟩, .string ⟨#[]⟩, .string ⟨#[]⟩, .bool false, .string ⟨#[]⟩, .int .i64 (-1), .bool false, .string ⟨#[]⟩, .slice none 0 0, .bool q.isSome, .string ⟨(q.getD []).toArray⟩, .bool f.isSome, .string ⟨(f.getD []).toArray⟩]

theorem cells13 {w : World} {g : Nat} {t : TypeId} (h : w.heap[g]? = some (.cells zeroAdr t (0, 0))) :
    (w.cell? ⟨g, 0, none⟩ = some (.string ⟨#[]⟩) ∧ w.cell? ⟨g, 1, none⟩ = some (.string ⟨#[]⟩) ∧ w.cell? ⟨g, 2, none⟩ = some (.string ⟨#[]⟩) ∧ w.cell? ⟨g, 3, none⟩ = some (.bool false) ∧ w.cell? ⟨g, 4, none⟩ = some (.string ⟨#[]⟩) ∧ w.cell? ⟨g, 5, none⟩ = some (.int .i64 0) ∧ w.cell? ⟨g, 6, none⟩ = some (.bool false) ∧ w.cell? ⟨g, 7, none⟩ = some (.string ⟨#[]⟩) ∧ w.cell? ⟨g, 8, none⟩ = some (.slice none 0 0) ∧ w.cell? ⟨g, 9, none⟩ = some (.bool false) ∧ w.cell? ⟨g, 10, none⟩ = some (.string ⟨#[]⟩) ∧ w.cell? ⟨g, 11, none⟩ = some (.bool false) ∧ w.cell? ⟨g, 12, none⟩ = some (.string ⟨#[]⟩)) ∧
    w.frozen? ⟨g, 0, none⟩ = false ∧ w.frozen? ⟨g, 1, none⟩ = false ∧ w.frozen? ⟨g, 2, none⟩ = false ∧ w.frozen? ⟨g, 3, none⟩ = false ∧ w.frozen? ⟨g, 4, none⟩ = false ∧ w.frozen? ⟨g, 5, none⟩ = false ∧ w.frozen? ⟨g, 6, none⟩ = false ∧ w.frozen? ⟨g, 7, none⟩ = false ∧ w.frozen? ⟨g, 8, none⟩ = false ∧ w.frozen? ⟨g, 9, none⟩ = false ∧ w.frozen? ⟨g, 10, none⟩ = false ∧ w.frozen? ⟨g, 11, none⟩ = false ∧ w.frozen? ⟨g, 12, none⟩ = false :=
  ⟨⟨cell_heap h 0, cell_heap h 1, cell_heap h 2, cell_heap h 3, cell_heap h 4, cell_heap h 5, cell_heap h 6, cell_heap h 7, cell_heap h 8, cell_heap h 9, cell_heap h 10, cell_heap h 11, cell_heap h 12⟩, frozen_heap h 0, frozen_heap h 1, frozen_heap h 2, frozen_heap h 3, frozen_heap h 4, frozen_heap h 5, frozen_heap h 6, frozen_heap h 7, frozen_heap h 8, frozen_heap h 9, frozen_heap h 10, frozen_heap h 11, frozen_heap h 12⟩
theorem set13 {w : World} {g : Nat} {t : TypeId} (h : w.heap[g]? = some (.cells zeroAdr t (0, 0))) (a0 a1 a2 a3 a4 a5 a6 a7 a8 a9 a10 a11 a12 : Value) :
    (((((((((((((w.setCell ⟨g, 0, none⟩ a0).setCell ⟨g, 1, none⟩ a1).setCell ⟨g, 2, none⟩ a2).setCell ⟨g, 3, none⟩ a3).setCell ⟨g, 4, none⟩ a4).setCell ⟨g, 5, none⟩ a5).setCell ⟨g, 6, none⟩ a6).setCell ⟨g, 7, none⟩ a7).setCell ⟨g, 8, none⟩ a8).setCell ⟨g, 9, none⟩ a9).setCell ⟨g, 10, none⟩ a10).setCell ⟨g, 11, none⟩ a11).setCell ⟨g, 12, none⟩ a12).heap[g]? = some (.cells #[a0, a1, a2, a3, a4, a5, a6, a7, a8, a9, a10, a11, a12] t (0, 0)) := by
  unfold zeroAdr at h
  have h0 : (w.setCell ⟨g, 0, none⟩ a0).heap[g]? = some (.cells #[a0, .string ⟨#[]⟩, .string ⟨#[]⟩, .bool false, .string ⟨#[]⟩, .int .i64 0, .bool false, .string ⟨#[]⟩, .slice none 0 0, .bool false, .string ⟨#[]⟩, .bool false, .string ⟨#[]⟩] t (0, 0)) := heap_setCell_same w g 0 _ t a0 h
  have h1 : ((w.setCell ⟨g, 0, none⟩ a0).setCell ⟨g, 1, none⟩ a1).heap[g]? = some (.cells #[a0, a1, .string ⟨#[]⟩, .bool false, .string ⟨#[]⟩, .int .i64 0, .bool false, .string ⟨#[]⟩, .slice none 0 0, .bool false, .string ⟨#[]⟩, .bool false, .string ⟨#[]⟩] t (0, 0)) := heap_setCell_same (w.setCell ⟨g, 0, none⟩ a0) g 1 _ t a1 h0
  have h2 : (((w.setCell ⟨g, 0, none⟩ a0).setCell ⟨g, 1, none⟩ a1).setCell ⟨g, 2, none⟩ a2).heap[g]? = some (.cells #[a0, a1, a2, .bool false, .string ⟨#[]⟩, .int .i64 0, .bool false, .string ⟨#[]⟩, .slice none 0 0, .bool false, .string ⟨#[]⟩, .bool false, .string ⟨#[]⟩] t (0, 0)) := heap_setCell_same ((w.setCell ⟨g, 0, none⟩ a0).setCell ⟨g, 1, none⟩ a1) g 2 _ t a2 h1
  have h3 : ((((w.setCell ⟨g, 0, none⟩ a0).setCell ⟨g, 1, none⟩ a1).setCell ⟨g, 2, none⟩ a2).setCell ⟨g, 3, none⟩ a3).heap[g]? = some (.cells #[a0, a1, a2, a3, .string ⟨#[]⟩, .int .i64 0, .bool false, .string ⟨#[]⟩, .slice none 0 0, .bool false, .string ⟨#[]⟩, .bool false, .string ⟨#[]⟩] t (0, 0)) := heap_setCell_same (((w.setCell ⟨g, 0, none⟩ a0).setCell ⟨g, 1, none⟩ a1).setCell ⟨g, 2, none⟩ a2) g 3 _ t a3 h2
  have h4 : (((((w.setCell ⟨g, 0, none⟩ a0).setCell ⟨g, 1, none⟩ a1).setCell ⟨g, 2, none⟩ a2).setCell ⟨g, 3, none⟩ a3).setCell ⟨g, 4, none⟩ a4).heap[g]? = some (.cells #[a0, a1, a2, a3, a4, .int .i64 0, .bool false, .string ⟨#[]⟩, .slice none 0 0, .bool false, .string ⟨#[]⟩, .bool false, .string ⟨#[]⟩] t (0, 0)) := heap_setCell_same ((((w.setCell ⟨g, 0, none⟩ a0).setCell ⟨g, 1, none⟩ a1).setCell ⟨g, 2, none⟩ a2).setCell ⟨g, 3, none⟩ a3) g 4 _ t a4 h3
  have h5 : ((((((w.setCell ⟨g, 0, none⟩ a0).setCell ⟨g, 1, none⟩ a1).setCell ⟨g, 2, none⟩ a2).setCell ⟨g, 3, none⟩ a3).setCell ⟨g, 4, none⟩ a4).setCell ⟨g, 5, none⟩ a5).heap[g]? = some (.cells #[a0, a1, a2, a3, a4, a5, .bool false, .string ⟨#[]⟩, .slice none 0 0, .bool false, .string ⟨#[]⟩, .bool false, .string ⟨#[]⟩] t (0, 0)) := heap_setCell_same (((((w.setCell ⟨g, 0, none⟩ a0).setCell ⟨g, 1, none⟩ a1).setCell ⟨g, 2, none⟩ a2).setCell ⟨g, 3, none⟩ a3).setCell ⟨g, 4, none⟩ a4) g 5 _ t a5 h4
  have h6 : (((((((w.setCell ⟨g, 0, none⟩ a0).setCell ⟨g, 1, none⟩ a1).setCell ⟨g, 2, none⟩ a2).setCell ⟨g, 3, none⟩ a3).setCell ⟨g, 4, none⟩ a4).setCell ⟨g, 5, none⟩ a5).setCell ⟨g, 6, none⟩ a6).heap[g]? = some (.cells #[a0, a1, a2, a3, a4, a5, a6, .string ⟨#[]⟩, .slice none 0 0, .bool false, .string ⟨#[]⟩, .bool false, .string ⟨#[]⟩] t (0, 0)) := heap_setCell_same ((((((w.setCell ⟨g, 0, none⟩ a0).setCell ⟨g, 1, none⟩ a1).setCell ⟨g, 2, none⟩ a2).setCell ⟨g, 3, none⟩ a3).setCell ⟨g, 4, none⟩ a4).setCell ⟨g, 5, none⟩ a5) g 6 _ t a6 h5
  have h7 : ((((((((w.setCell ⟨g, 0, none⟩ a0).setCell ⟨g, 1, none⟩ a1).setCell ⟨g, 2, none⟩ a2).setCell ⟨g, 3, none⟩ a3).setCell ⟨g, 4, none⟩ a4).setCell ⟨g, 5, none⟩ a5).setCell ⟨g, 6, none⟩ a6).setCell ⟨g, 7, none⟩ a7).heap[g]? = some (.cells #[a0, a1, a2, a3, a4, a5, a6, a7, .slice none 0 0, .bool false, .string ⟨#[]⟩, .bool false, .string ⟨#[]⟩] t (0, 0)) := heap_setCell_same (((((((w.setCell ⟨g, 0, none⟩ a0).setCell ⟨g, 1, none⟩ a1).setCell ⟨g, 2, none⟩ a2).setCell ⟨g, 3, none⟩ a3).setCell ⟨g, 4, none⟩ a4).setCell ⟨g, 5, none⟩ a5).setCell ⟨g, 6, none⟩ a6) g 7 _ t a7 h6
  have h8 : (((((((((w.setCell ⟨g, 0, none⟩ a0).setCell ⟨g, 1, none⟩ a1).setCell ⟨g, 2, none⟩ a2).setCell ⟨g, 3, none⟩ a3).setCell ⟨g, 4, none⟩ a4).setCell ⟨g, 5, none⟩ a5).setCell ⟨g, 6, none⟩ a6).setCell ⟨g, 7, none⟩ a7).setCell ⟨g, 8, none⟩ a8).heap[g]? = some (.cells #[a0, a1, a2, a3, a4, a5, a6, a7, a8, .bool false, .string ⟨#[]⟩, .bool false, .string ⟨#[]⟩] t (0, 0)) := heap_setCell_same ((((((((w.setCell ⟨g, 0, none⟩ a0).setCell ⟨g, 1, none⟩ a1).setCell ⟨g, 2, none⟩ a2).setCell ⟨g, 3, none⟩ a3).setCell ⟨g, 4, none⟩ a4).setCell ⟨g, 5, none⟩ a5).setCell ⟨g, 6, none⟩ a6).setCell ⟨g, 7, none⟩ a7) g 8 _ t a8 h7
  have h9 : ((((((((((w.setCell ⟨g, 0, none⟩ a0).setCell ⟨g, 1, none⟩ a1).setCell ⟨g, 2, none⟩ a2).setCell ⟨g, 3, none⟩ a3).setCell ⟨g, 4, none⟩ a4).setCell ⟨g, 5, none⟩ a5).setCell ⟨g, 6, none⟩ a6).setCell ⟨g, 7, none⟩ a7).setCell ⟨g, 8, none⟩ a8).setCell ⟨g, 9, none⟩ a9).heap[g]? = some (.cells #[a0, a1, a2, a3, a4, a5, a6, a7, a8, a9, .string ⟨#[]⟩, .bool false, .string ⟨#[]⟩] t (0, 0)) := heap_setCell_same (((((((((w.setCell ⟨g, 0, none⟩ a0).setCell ⟨g, 1, none⟩ a1).setCell ⟨g, 2, none⟩ a2).setCell ⟨g, 3, none⟩ a3).setCell ⟨g, 4, none⟩ a4).setCell ⟨g, 5, none⟩ a5).setCell ⟨g, 6, none⟩ a6).setCell ⟨g, 7, none⟩ a7).setCell ⟨g, 8, none⟩ a8) g 9 _ t a9 h8
  have h10 : (((((((((((w.setCell ⟨g, 0, none⟩ a0).setCell ⟨g, 1, none⟩ a1).setCell ⟨g, 2, none⟩ a2).setCell ⟨g, 3, none⟩ a3).setCell ⟨g, 4, none⟩ a4).setCell ⟨g, 5, none⟩ a5).setCell ⟨g, 6, none⟩ a6).setCell ⟨g, 7, none⟩ a7).setCell ⟨g, 8, none⟩ a8).setCell ⟨g, 9, none⟩ a9).setCell ⟨g, 10, none⟩ a10).heap[g]? = some (.cells #[a0, a1, a2, a3, a4, a5, a6, a7, a8, a9, a10, .bool false, .string ⟨#[]⟩] t (0, 0)) := heap_setCell_same ((((((((((w.setCell ⟨g, 0, none⟩ a0).setCell ⟨g, 1, none⟩ a1).setCell ⟨g, 2, none⟩ a2).setCell ⟨g, 3, none⟩ a3).setCell ⟨g, 4, none⟩ a4).setCell ⟨g, 5, none⟩ a5).setCell ⟨g, 6, none⟩ a6).setCell ⟨g, 7, none⟩ a7).setCell ⟨g, 8, none⟩ a8).setCell ⟨g, 9, none⟩ a9) g 10 _ t a10 h9
  have h11 : ((((((((((((w.setCell ⟨g, 0, none⟩ a0).setCell ⟨g, 1, none⟩ a1).setCell ⟨g, 2, none⟩ a2).setCell ⟨g, 3, none⟩ a3).setCell ⟨g, 4, none⟩ a4).setCell ⟨g, 5, none⟩ a5).setCell ⟨g, 6, none⟩ a6).setCell ⟨g, 7, none⟩ a7).setCell ⟨g, 8, none⟩ a8).setCell ⟨g, 9, none⟩ a9).setCell ⟨g, 10, none⟩ a10).setCell ⟨g, 11, none⟩ a11).heap[g]? = some (.cells #[a0, a1, a2, a3, a4, a5, a6, a7, a8, a9, a10, a11, .string ⟨#[]⟩] t (0, 0)) := heap_setCell_same (((((((((((w.setCell ⟨g, 0, none⟩ a0).setCell ⟨g, 1, none⟩ a1).setCell ⟨g, 2, none⟩ a2).setCell ⟨g, 3, none⟩ a3).setCell ⟨g, 4, none⟩ a4).setCell ⟨g, 5, none⟩ a5).setCell ⟨g, 6, none⟩ a6).setCell ⟨g, 7, none⟩ a7).setCell ⟨g, 8, none⟩ a8).setCell ⟨g, 9, none⟩ a9).setCell ⟨g, 10, none⟩ a10) g 11 _ t a11 h10
  have h12 : (((((((((((((w.setCell ⟨g, 0, none⟩ a0).setCell ⟨g, 1, none⟩ a1).setCell ⟨g, 2, none⟩ a2).setCell ⟨g, 3, none⟩ a3).setCell ⟨g, 4, none⟩ a4).setCell ⟨g, 5, none⟩ a5).setCell ⟨g, 6, none⟩ a6).setCell ⟨g, 7, none⟩ a7).setCell ⟨g, 8, none⟩ a8).setCell ⟨g, 9, none⟩ a9).setCell ⟨g, 10, none⟩ a10).setCell ⟨g, 11, none⟩ a11).setCell ⟨g, 12, none⟩ a12).heap[g]? = some (.cells #[a0, a1, a2, a3, a4, a5, a6, a7, a8, a9, a10, a11, a12] t (0, 0)) := heap_setCell_same ((((((((((((w.setCell ⟨g, 0, none⟩ a0).setCell ⟨g, 1, none⟩ a1).setCell ⟨g, 2, none⟩ a2).setCell ⟨g, 3, none⟩ a3).setCell ⟨g, 4, none⟩ a4).setCell ⟨g, 5, none⟩ a5).setCell ⟨g, 6, none⟩ a6).setCell ⟨g, 7, none⟩ a7).setCell ⟨g, 8, none⟩ a8).setCell ⟨g, 9, none⟩ a9).setCell ⟨g, 10, none⟩ a10).setCell ⟨g, 11, none⟩ a11) g 12 _ t a12 h11
  exact h12
theorem setRow_other (w : World) (g : Nat) (cs : Array Value) (j : Nat) (h : j ≠ g) : (w.setRow g cs).heap[j]? = w.heap[j]? := by
  unfold World.setRow
  simp [Array.getElem?_modify, Ne.symm h]
theorem below13 {w : World} {W : World} {g : Nat} (h : Below W.heap.size W w) (hg : W.heap.size ≤ g) (a0 a1 a2 a3 a4 a5 a6 a7 a8 a9 a10 a11 a12 : Value) :
    Below W.heap.size W (((((((((((((w.setCell ⟨g, 0, none⟩ a0).setCell ⟨g, 1, none⟩ a1).setCell ⟨g, 2, none⟩ a2).setCell ⟨g, 3, none⟩ a3).setCell ⟨g, 4, none⟩ a4).setCell ⟨g, 5, none⟩ a5).setCell ⟨g, 6, none⟩ a6).setCell ⟨g, 7, none⟩ a7).setCell ⟨g, 8, none⟩ a8).setCell ⟨g, 9, none⟩ a9).setCell ⟨g, 10, none⟩ a10).setCell ⟨g, 11, none⟩ a11).setCell ⟨g, 12, none⟩ a12) :=
  ((((((((((((h.setCell hg a0).setCell hg a1).setCell hg a2).setCell hg a3).setCell hg a4).setCell hg a5).setCell hg a6).setCell hg a7).setCell hg a8).setCell hg a9).setCell hg a10).setCell hg a11).setCell hg a12

set_option maxHeartbeats 8000000 in
theorem Tryz.readMarked_any (c : Cuts) (ob : Option Adr) (bp : Option Go.Addr) (w : World) (hm : c.middle.length ≤ 100000) (hq : (c.query.getD []).length ≤ 100000) (hf : (c.frag.getD []).length ≤ 100000) (hbase : ∀ k, w.heap.size ≤ k → Tryz.BaseOk w k bp ob) (henv : Tryz.Env2 w) :
    Calls Tryz.prog 157 #[.agg (cutsCells c), .pointer bp] w fun e w' => Tryz.AdrRes (readMarked hostTell c.scheme c.middle c.query c.frag ob) e w' ∧ Below w.heap.size w w' := by
  obtain ⟨sc, m, q, f⟩ := c
  simp only at hm hq hf
  unfold cutsCells
  simp only
  obtain ⟨W, hW⟩ : ∃ W, W = (w.alloc (.cells #[.string ⟨sc.toArray⟩, .string ⟨m.toArray⟩, .bool q.isSome, .string ⟨(q.getD []).toArray⟩, .bool f.isSome, .string ⟨(f.getD []).toArray⟩] 137)).alloc (.cells zeroAdr 77) := ⟨_, rfl⟩
  have HBW : Hid (Below w.heap.size w W) := by
    rw [hW]
    exact ((Below.refl _ _).alloc (Nat.le_refl _) _).alloc (by simp) _
  have hsize : W.heap.size = w.heap.size + 2 := by rw [hW]; simp
  have HSZ : Hid (W.heap.size = w.heap.size + 2) := hsize
  have HV : Hid (Tryz.Env2 W) := henv.below HBW.out
  have HQS : Hid (∀ w1, Calls Tryz.prog 104 #[.string ⟨sc.toArray⟩] w1 fun e w' => e = .returned (.int .i64 (querySet sc)) ∧ w' = w1) := fun w1 => Tryz.querySet_any ⟨sc.toArray⟩ w1
  have HT : Hid (∀ (o : Option Bs) (set : Int) w0, (o.getD []).length ≤ 100000 → Below W.heap.size W w0 → Calls Tryz.prog 103 #[.agg #[.bool o.isSome, .string ⟨(o.getD []).toArray⟩], .int .i64 set] w0 fun e w' => e = .returned (.agg #[.bool (o.map (esc set)).isSome, .string ⟨((o.map (esc set)).getD []).toArray⟩]) ∧ Below W.heap.size W w' ∧ Below w0.heap.size w0 w') := by
    intro o set w0 ho h0
    refine (Tryz.escaped_any o set w0 (by omega) (HV.out.below h0).env).mono ?_
    rintro e w' ⟨rfl, hb⟩
    exact ⟨rfl, h0.trans (hb.mono h0.size), hb⟩
  have HC : Hid (∀ w1, Below W.heap.size W w1 → w1.cell? ⟨w.heap.size, 0, none⟩ = some (.string ⟨sc.toArray⟩) ∧ w1.cell? ⟨w.heap.size, 1, none⟩ = some (.string ⟨m.toArray⟩) ∧ w1.cell? ⟨w.heap.size, 2, none⟩ = some (.bool q.isSome) ∧ w1.cell? ⟨w.heap.size, 3, none⟩ = some (.string ⟨(q.getD []).toArray⟩) ∧ w1.cell? ⟨w.heap.size, 4, none⟩ = some (.bool f.isSome) ∧ w1.cell? ⟨w.heap.size, 5, none⟩ = some (.string ⟨(f.getD []).toArray⟩) ∧ w1.heap[w.heap.size + 1]? = some (.cells zeroAdr 77 (0, 0))) := by
    intro w1 h1
    have h2 := two_blocks w (.cells #[.string ⟨sc.toArray⟩, .string ⟨m.toArray⟩, .bool q.isSome, .string ⟨(q.getD []).toArray⟩, .bool f.isSome, .string ⟨(f.getD []).toArray⟩] 137) (.cells zeroAdr 77)
    rw [← hW] at h2
    have k0 := (h1.block w.heap.size (by omega)).trans h2.1
    have k1 := (h1.block (w.heap.size + 1) (by omega)).trans h2.2
    exact ⟨cell_heap k0 0, cell_heap k0 1, cell_heap k0 2, cell_heap k0 3, cell_heap k0 4, cell_heap k0 5, k1⟩
  have HGL : Hid (29 ≤ w.heap.size) := henv.env.size
  have HEV : Hid (∀ w1, Below W.heap.size W w1 → Calls Tryz.prog 164 #[.string ⟨sc.toArray⟩, .string ⟨m.toArray⟩] w1 fun e w' => e = .returned (.string ⟨(evenSlashes sc m).toArray⟩) ∧ Below W.heap.size W w' ∧ Below w1.heap.size w1 w') := by
    intro w1 h1
    refine (Tryz.evenSlashes_any ⟨sc.toArray⟩ ⟨m.toArray⟩ w1 (by rw [size_mk]; omega) (HV.out.below h1).env).mono ?_
    rintro e w' ⟨rfl, hb⟩
    exact ⟨rfl, h1.trans (hb.mono h1.size), hb⟩
  have hel : (evenSlashes sc m).length ≤ 100000 := by
    unfold evenSlashes
    split
    · simpa using hm
    · exact hm
  have HMD : Hid (∀ k w1, w.heap.size + 2 ≤ k → Below W.heap.size W w1 → w1.heap[k]? = some (.cells (newCells sc (q.map (esc (querySet sc))) (f.map (esc 1))) 77 (0, 0)) → Calls Tryz.prog 208 #[.pointer (some ⟨k, 0, none⟩), .string ⟨(evenSlashes sc m).toArray⟩, .pointer bp] w1 fun e w' => Below W.heap.size W w' ∧ Tryz.MidRes k sc (.bool (f.map (esc 1)).isSome) (.string ⟨((f.map (esc 1)).getD []).toArray⟩) (readMiddle hostTell sc (evenSlashes sc m) (q.map (esc (querySet sc))) ob) e w' ∧ (∀ n, readMiddle hostTell sc (evenSlashes sc m) (q.map (esc (querySet sc))) ob = .error n → Tryz.Thirteen k w')) := by
    intro k w1 hk h1 hh
    have hbw : Below w.heap.size w w1 := HBW.out.trans (h1.mono (by omega))
    refine (Tryz.readMiddle_any k sc (evenSlashes sc m) (q.map (esc (querySet sc))) ob bp _ _ _ _ _ w1 hel hh rfl (by have := HGL.out; omega) ((hbase k (by omega)).below hbw) (HV.out.below h1)).mono ?_
    rintro e w' ⟨hb', hr, hx⟩
    exact ⟨h1.trans ((hb'.below (Nat.le_of_lt (Array.getElem?_eq_some_iff.1 hh).1)).mono (by omega)), hr, hx⟩
  have HE : Hid (readMarked hostTell sc m q f ob = match readMiddle hostTell sc (evenSlashes sc m) (q.map (esc (querySet sc))) ob with | .error n => .error n | .ok p => .ok ⟨sc, p.1, p.2.1, p.2.2, f.map (esc 1)⟩) := by
    show _ = _
    unfold readMarked
    cases readMiddle hostTell sc (evenSlashes sc m) (q.map (esc (querySet sc))) ob <;> rfl
  have HNC : Hid (newCells sc (q.map (esc (querySet sc))) (f.map (esc 1)) = #[.string ⟨sc.toArray⟩, .string ⟨#[]⟩, .string ⟨#[]⟩, .bool false, .string ⟨#[]⟩, .int .i64 (-1), .bool false, .string ⟨#[]⟩, .slice none 0 0, .bool q.isSome, .string ⟨((q.map (esc (querySet sc))).getD []).toArray⟩, .bool f.isSome, .string ⟨((f.map (esc 1)).getD []).toArray⟩]) := by
    show _ = _
    unfold newCells
    rw [Option.isSome_map, Option.isSome_map]
  have HLQ : Hid ((q.getD []).length ≤ 100000) := hq
  have HLF : Hid ((f.getD []).length ≤ 100000) := hf
  clear henv hbase hm hq hf hel hsize
  go_enter Tryz.func157, Tryz.ntmps157
  go_upto_region 1 with fail
  unfold zeroAdr at hW
  rw [← hW]
  obtain ⟨d0, d1, d2, d3, d4, d5, _⟩ := HC.out W (Below.refl _ _)
  have m1 : W.heap.size ≠ w.heap.size := by have := HSZ.out; omega
  have m2 : w.heap.size ≠ W.heap.size := by have := HSZ.out; omega
  clear hW
  go_cut [6] (fun s6 wx => ∃ k, s6 = .pointer (some ⟨k, 0, none⟩) ∧ w.heap.size + 2 ≤ k ∧ Below W.heap.size W wx ∧ wx.heap[k]? = some (.cells (newCells sc (q.map (esc (querySet sc))) (f.map (esc 1))) 77 (0, 0)))
  case first =>
    go_region_held3 (fun w' => w'.cell? ⟨w.heap.size, 0, none⟩ = some (.string ⟨sc.toArray⟩) ∧ w'.cell? ⟨w.heap.size, 2, none⟩ = some (.bool q.isSome) ∧ w'.cell? ⟨w.heap.size, 3, none⟩ = some (.string ⟨(q.getD []).toArray⟩) ∧ w'.cell? ⟨w.heap.size, 4, none⟩ = some (.bool f.isSome) ∧ w'.cell? ⟨w.heap.size, 5, none⟩ = some (.string ⟨(f.getD []).toArray⟩)) (go_keep) (first | (go_at_call 104; refine Calls.mono (HQS.out _) ?_; rintro e w1 ⟨rfl, hw1⟩; have hw1 := hw1.symm; subst hw1) | (go_at_call_of 103 (Value.int .i64 (querySet sc)); refine Calls.mono (HT.out q (querySet sc) _ HLQ.out (by first | exact same_heap rfl rfl rfl rfl | exact ((Below.refl _ W).alloc (Nat.le_refl _) _).drew)) ?_; rintro e w1 ⟨rfl, b1, c1⟩; obtain ⟨y0, y1, y2, y3, y4, y5, y6⟩ := HC.out w1 b1; have HB1 : Hid (Below W.heap.size W w1) := b1; have n1 : w1.heap.size ≠ w.heap.size := (by have := HSZ.out; have := b1.size; omega); have n2 : w.heap.size ≠ w1.heap.size := (by have := HSZ.out; have := b1.size; omega); (try (have hz1 : w1.heap[W.heap.size]? = some (.cells zeroAdr 77 (0, 0)) := (c1.block W.heap.size (by simp)).trans (alloc_here W _ _); have HZ1 : Hid (w1.heap[W.heap.size]? = some (.cells zeroAdr 77 (0, 0))) := hz1; clear hz1)); clear b1 c1 y6) | (go_at_call 103; refine Calls.mono (HT.out f 1 _ HLF.out (by first | exact HB1.out | exact HB1.out.alloc HB1.out.size _)) ?_; rintro e w2 ⟨rfl, b2, c2⟩; obtain ⟨z0, z1, z2, z3, z4, z5, z6⟩ := HC.out w2 b2; have HB2 : Hid (Below W.heap.size W w2) := b2; (first | (have hz2 : w2.heap[w1.heap.size]? = some (.cells zeroAdr 77 (0, 0)) := (c2.block w1.heap.size (by simp)).trans (alloc_here w1 _ _); have HZ2 : Hid (w2.heap[w1.heap.size]? = some (.cells zeroAdr 77 (0, 0))) := hz2; obtain ⟨⟨p0, p1, p2, p3, p4, p5, p6, p7, p8, p9, p10, p11, p12⟩, r0, r1, r2, r3, r4, r5, r6, r7, r8, r9, r10, r11, r12⟩ := cells13 hz2; clear hz2) | (have hz2 : w2.heap[W.heap.size]? = some (.cells zeroAdr 77 (0, 0)) := (c2.block W.heap.size (Array.getElem?_eq_some_iff.1 HZ1.out).1).trans HZ1.out; have HZ3 : Hid (w2.heap[W.heap.size]? = some (.cells zeroAdr 77 (0, 0))) := hz2; obtain ⟨⟨p0, p1, p2, p3, p4, p5, p6, p7, p8, p9, p10, p11, p12⟩, r0, r1, r2, r3, r4, r5, r6, r7, r8, r9, r10, r11, r12⟩ := cells13 hz2; clear hz2) | skip); clear b2 c2 z6))
    all_goals (go_wp2_with fail; go_meet)
    case rel => exact ⟨w2.heap.size, rfl, by have := HB2.out.size; have := HSZ.out; omega, HB2.out.alloc HB2.out.size _, by rw [HNC.out]; exact alloc_here w2 _ _⟩
    case rel => exact ⟨w1.heap.size, rfl, by have := HB1.out.size; have := HSZ.out; omega, below13 HB2.out HB1.out.size _ _ _ _ _ _ _ _ _ _ _ _ _, by rw [HNC.out]; exact set13 HZ2.out _ _ _ _ _ _ _ _ _ _ _ _ _⟩
    case rel => exact ⟨W.heap.size, rfl, by have := HSZ.out; omega, below13 HB2.out (Nat.le_refl _) _ _ _ _ _ _ _ _ _ _ _ _ _, by rw [HNC.out]; exact set13 HZ3.out _ _ _ _ _ _ _ _ _ _ _ _ _⟩
    case rel => exact ⟨W.heap.size, rfl, by have := HSZ.out; omega, below13 HB2.out (Nat.le_refl _) _ _ _ _ _ _ _ _ _ _ _ _ _, by rw [HNC.out]; exact set13 HZ3.out _ _ _ _ _ _ _ _ _ _ _ _ _⟩
  case rest =>
    obtain ⟨k, rfl, hk2, hbc, hkc⟩ := hcut
    have HBC : Hid (Below W.heap.size W wc) := hbc
    have HKC : Hid (wc.heap[k]? = some (.cells (newCells sc (q.map (esc (querySet sc))) (f.map (esc 1))) 77 (0, 0))) := hkc
    obtain ⟨y0, y1, y2, y3, y4, y5, y6⟩ := HC.out wc hbc
    have HKZ : Hid (k < wc.heap.size) := (Array.getElem?_eq_some_iff.1 hkc).1
    clear hbc hkc y6 d0 d1 d2 d3 d4 d5 HNC
    go_wp2_with fail
    refine Calls.mono (HEV.out wc HBC.out) ?_
    rintro e w1 ⟨rfl, b1, c1⟩
    have HM2 : Hid _ := HMD.out k w1 hk2 b1 ((c1.block k HKZ.out).trans HKC.out)
    clear b1 c1 y0 y1 y2 y3 y4 y5
    go_wp2_with fail
    refine Calls.mono HM2.out ?_
    rintro e w2 ⟨b2, hr, hx⟩
    have hz := (HC.out w2 b2).2.2.2.2.2.2
    have HN : Hid (w2.heap[w.heap.size + 1]? = some (.cells zeroAdr 77 (0, 0))) := hz
    have HBB : Hid (Below w.heap.size w w2) := HBW.out.trans (b2.mono (by have := HSZ.out; omega))
    cases hmid : readMiddle hostTell sc (evenSlashes sc m) (q.map (esc (querySet sc))) ob with
    | error n =>
      rw [hmid] at hr hx
      have HE2 : Hid (readMarked hostTell sc m q f ob = .error n) := by show _ = _; rw [HE.out, hmid]
      obtain ⟨x, y, te, ve, rfl⟩ := hr
      obtain ⟨cs, h13, hsz, hone⟩ := hx n rfl
      have H13 : Hid (w2.heap[k]? = some (.cells cs 77 (0, 0))) := h13
      have HZS : Hid ((Tryz.prog.info? 77).map (·.size) = some cs.size) := by show _ = _; rw [hsz]; exact Tryz.sizeAdr
      have HZO : Hid (zeroAdr.size = cs.size) := by show _ = _; rw [hsz]; rfl
      have HON : Hid (cs.all (·.oneCell') = true) := hone
      have HSC : Hid (cs.size = 13) := hsz
      clear h13 hsz hone hx hz b2 hmid HM2 HE
      go_wp2_with (first | refine wpList_load_row rfl 77 _ rfl k rfl 77 cs (0, 0) _ H13.out Tryz.underlying77 rfl HZS.out ?_ | refine wpList_store_row rfl 77 _ _ rfl (w.heap.size + 1) cs rfl rfl 77 zeroAdr HN.out HZS.out HZO.out HON.out ?_)
      (try simp only [Exit.inBlock, Exit.then])
      have hld := run_loadVar_row (P := Tryz.prog) (w2.setRow (w.heap.size + 1) cs) (w.heap.size + 1) 77 77 cs (0, 0) _ (setRow_heap w2 (w.heap.size + 1) zeroAdr cs 77 (0, 0) HN.out) Tryz.underlying77 rfl HZS.out
      refine bodyPost_ret (v := .tuple #[.agg cs, .iface 96 (.agg #[.int .i64 n, .string x, .string y, .iface te ve])]) ?_ rfl ⟨?_, below_setRow HBB.out (Nat.le_succ _) _⟩
      · rw [results_cell_tmp rfl]
        simp [asAddr, Result.andThen, hld]
      · rw [HE2.out]
        exact ⟨_, _, _, _, _, rfl, HSC.out, HON.out⟩
    | ok p =>
      obtain ⟨a, y, q2⟩ := p
      rw [hmid] at hr
      have HE2 : Hid (readMarked hostTell sc m q f ob = .ok ⟨sc, a, y, q2, f.map (esc 1)⟩) := by show _ = _; rw [HE.out, hmid]
      obtain ⟨rfl, v, hv, hsr⟩ := hr
      have hv1 : v.oneCell' = true := by obtain ⟨⟨sp, cap, rfl, _⟩, _⟩ := hsr; rfl
      have H13 : Hid (w2.heap[k]? = some (.cells (adrCells ⟨sc, a, y, q2, f.map (esc 1)⟩ v) 77 (0, 0))) := hv
      have HON : Hid ((adrCells ⟨sc, a, y, q2, f.map (esc 1)⟩ v).all (·.oneCell') = true) := adrCells_one _ _ hv1
      have HZS : Hid ((Tryz.prog.info? 77).map (·.size) = some (adrCells ⟨sc, a, y, q2, f.map (esc 1)⟩ v).size) := Tryz.sizeAdr
      have HZO : Hid (zeroAdr.size = (adrCells ⟨sc, a, y, q2, f.map (esc 1)⟩ v).size) := rfl
      have HSR : Hid (∀ cs, SegRow (w2.setRow (w.heap.size + 1) cs) v y.segs) := by
        intro cs
        have hoff := tagged_off hsr.2 hz (by decide)
        have hbut : But (w.heap.size + 1) w2 (w2.setRow (w.heap.size + 1) cs) := ⟨rfl, rfl, rfl, by simp, fun j _ hn => setRow_other w2 (w.heap.size + 1) cs j hn⟩
        exact segRow_but hsr hbut hoff
      clear hx hz b2 hmid HM2 HE hv hsr hv1
      obtain ⟨cs, hcs⟩ : ∃ cs, cs = adrCells ⟨sc, a, y, q2, f.map (esc 1)⟩ v := ⟨_, rfl⟩
      rw [← hcs] at H13 HON HZS HZO
      have HCS : Hid (cs = adrCells ⟨sc, a, y, q2, f.map (esc 1)⟩ v) := hcs
      clear hcs
      go_wp2_with (first | refine wpList_load_row rfl 77 _ rfl k rfl 77 cs (0, 0) _ H13.out Tryz.underlying77 rfl HZS.out ?_ | refine wpList_store_row rfl 77 _ _ rfl (w.heap.size + 1) cs rfl rfl 77 zeroAdr HN.out HZS.out HZO.out HON.out ?_)
      (try simp only [Exit.inBlock, Exit.then])
      have hld := run_loadVar_row (P := Tryz.prog) (w2.setRow (w.heap.size + 1) cs) (w.heap.size + 1) 77 77 cs (0, 0) _ (setRow_heap w2 (w.heap.size + 1) zeroAdr cs 77 (0, 0) HN.out) Tryz.underlying77 rfl HZS.out
      refine bodyPost_ret (v := .tuple #[.agg cs, .nilIface]) ?_ rfl ⟨?_, below_setRow HBB.out (Nat.le_succ _) _⟩
      · rw [results_cell_tmp rfl]
        simp [asAddr, Result.andThen, hld]
      · rw [HE2.out]
        exact ⟨v, by rw [HCS.out], HSR.out cs⟩
end Go.Proofs
