/-
  What Parts of package address, Split of package moor answer.
-/
import Derived.Test.YtkcnageeamappabGreatDoorJAAlone
namespace Go.Proofs
open Go.RowKit Go.Moor

def zeroParts : Array Value := #[.string ⟨#[]⟩, .string ⟨#[]⟩, .string ⟨#[]⟩, .bool false, .string ⟨#[]⟩, .int .i64 0, .bool false, .string ⟨#[]⟩, .bool false, .string ⟨#[]⟩, .bool false, .string ⟨#[]⟩]
/-- The twelve cells of api.Parts. -/
def partCells (a : Adr) : Array Value := #[.string ⟨a.scheme.toArray⟩, .string ⟨a.auth.user.toArray⟩, .string ⟨a.auth.pass.toArray⟩, .bool a.auth.has, .string ⟨a.auth.host.toArray⟩, .int .i64 a.auth.port, .bool a.way.opaq, .string ⟨(tellWay a.way).toArray⟩, .bool a.query.isSome, .string ⟨(a.query.getD []).toArray⟩, .bool a.frag.isSome, .string ⟨(a.frag.getD []).toArray⟩]
theorem Tryz.sizeParts : (Tryz.prog.info? 28).map (·.size) = some 12 := by kernel_rfl
theorem cells12 {w : World} {g : Nat} {t : TypeId} (h : w.heap[g]? = some (.cells zeroParts t (0, 0))) :
    (w.cell? ⟨g, 0, none⟩ = some (.string ⟨#[]⟩) ∧ w.cell? ⟨g, 1, none⟩ = some (.string ⟨#[]⟩) ∧ w.cell? ⟨g, 2, none⟩ = some (.string ⟨#[]⟩) ∧ w.cell? ⟨g, 3, none⟩ = some (.bool false) ∧ w.cell? ⟨g, 4, none⟩ = some (.string ⟨#[]⟩) ∧ w.cell? ⟨g, 5, none⟩ = some (.int .i64 0) ∧ w.cell? ⟨g, 6, none⟩ = some (.bool false) ∧ w.cell? ⟨g, 7, none⟩ = some (.string ⟨#[]⟩) ∧ w.cell? ⟨g, 8, none⟩ = some (.bool false) ∧ w.cell? ⟨g, 9, none⟩ = some (.string ⟨#[]⟩) ∧ w.cell? ⟨g, 10, none⟩ = some (.bool false) ∧ w.cell? ⟨g, 11, none⟩ = some (.string ⟨#[]⟩)) ∧
    w.frozen? ⟨g, 0, none⟩ = false ∧ w.frozen? ⟨g, 1, none⟩ = false ∧ w.frozen? ⟨g, 2, none⟩ = false ∧ w.frozen? ⟨g, 3, none⟩ = false ∧ w.frozen? ⟨g, 4, none⟩ = false ∧ w.frozen? ⟨g, 5, none⟩ = false ∧ w.frozen? ⟨g, 6, none⟩ = false ∧ w.frozen? ⟨g, 7, none⟩ = false ∧ w.frozen? ⟨g, 8, none⟩ = false ∧ w.frozen? ⟨g, 9, none⟩ = false ∧ w.frozen? ⟨g, 10, none⟩ = false ∧ w.frozen? ⟨g, 11, none⟩ = false :=
  ⟨⟨cell_heap h 0, cell_heap h 1, cell_heap h 2, cell_heap h 3, cell_heap h 4, cell_heap h 5, cell_heap h 6, cell_heap h 7, cell_heap h 8, cell_heap h 9, cell_heap h 10, cell_heap h 11⟩, frozen_heap h 0, frozen_heap h 1, frozen_heap h 2, frozen_heap h 3, frozen_heap h 4, frozen_heap h 5, frozen_heap h 6, frozen_heap h 7, frozen_heap h 8, frozen_heap h 9, frozen_heap h 10, frozen_heap h 11⟩
theorem set12 {w : World} {g : Nat} {t : TypeId} (h : w.heap[g]? = some (.cells zeroParts t (0, 0))) (a0 a1 a2 a3 a4 a5 a6 a7 a8 a9 a10 a11 : Value) :
    ((((((((((((w.setCell ⟨g, 0, none⟩ a0).setCell ⟨g, 1, none⟩ a1).setCell ⟨g, 2, none⟩ a2).setCell ⟨g, 3, none⟩ a3).setCell ⟨g, 4, none⟩ a4).setCell ⟨g, 5, none⟩ a5).setCell ⟨g, 6, none⟩ a6).setCell ⟨g, 7, none⟩ a7).setCell ⟨g, 8, none⟩ a8).setCell ⟨g, 9, none⟩ a9).setCell ⟨g, 10, none⟩ a10).setCell ⟨g, 11, none⟩ a11).heap[g]? = some (.cells #[a0, a1, a2, a3, a4, a5, a6, a7, a8, a9, a10, a11] t (0, 0)) := by
  unfold zeroParts at h
  have h0 : (w.setCell ⟨g, 0, none⟩ a0).heap[g]? = some (.cells #[a0, .string ⟨#[]⟩, .string ⟨#[]⟩, .bool false, .string ⟨#[]⟩, .int .i64 0, .bool false, .string ⟨#[]⟩, .bool false, .string ⟨#[]⟩, .bool false, .string ⟨#[]⟩] t (0, 0)) := heap_setCell_same w g 0 _ t a0 h
  have h1 : ((w.setCell ⟨g, 0, none⟩ a0).setCell ⟨g, 1, none⟩ a1).heap[g]? = some (.cells #[a0, a1, .string ⟨#[]⟩, .bool false, .string ⟨#[]⟩, .int .i64 0, .bool false, .string ⟨#[]⟩, .bool false, .string ⟨#[]⟩, .bool false, .string ⟨#[]⟩] t (0, 0)) := heap_setCell_same (w.setCell ⟨g, 0, none⟩ a0) g 1 _ t a1 h0
  have h2 : (((w.setCell ⟨g, 0, none⟩ a0).setCell ⟨g, 1, none⟩ a1).setCell ⟨g, 2, none⟩ a2).heap[g]? = some (.cells #[a0, a1, a2, .bool false, .string ⟨#[]⟩, .int .i64 0, .bool false, .string ⟨#[]⟩, .bool false, .string ⟨#[]⟩, .bool false, .string ⟨#[]⟩] t (0, 0)) := heap_setCell_same ((w.setCell ⟨g, 0, none⟩ a0).setCell ⟨g, 1, none⟩ a1) g 2 _ t a2 h1
  have h3 : ((((w.setCell ⟨g, 0, none⟩ a0).setCell ⟨g, 1, none⟩ a1).setCell ⟨g, 2, none⟩ a2).setCell ⟨g, 3, none⟩ a3).heap[g]? = some (.cells #[a0, a1, a2, a3, .string ⟨#[]⟩, .int .i64 0, .bool false, .string ⟨#[]⟩, .bool false, .string ⟨#[]⟩, .bool false, .string ⟨#[]⟩] t (0, 0)) := heap_setCell_same (((w.setCell ⟨g, 0, none⟩ a0).setCell ⟨g, 1, none⟩ a1).setCell ⟨g, 2, none⟩ a2) g 3 _ t a3 h2
  have h4 : (((((w.setCell ⟨g, 0, none⟩ a0).setCell ⟨g, 1, none⟩ a1).setCell ⟨g, 2, none⟩ a2).setCell ⟨g, 3, none⟩ a3).setCell ⟨g, 4, none⟩ a4).heap[g]? = some (.cells #[a0, a1, a2, a3, a4, .int .i64 0, .bool false, .string ⟨#[]⟩, .bool false, .string ⟨#[]⟩, .bool false, .string ⟨#[]⟩] t (0, 0)) := heap_setCell_same ((((w.setCell ⟨g, 0, none⟩ a0).setCell ⟨g, 1, none⟩ a1).setCell ⟨g, 2, none⟩ a2).setCell ⟨g, 3, none⟩ a3) g 4 _ t a4 h3
  have h5 : ((((((w.setCell ⟨g, 0, none⟩ a0).setCell ⟨g, 1, none⟩ a1).setCell ⟨g, 2, none⟩ a2).setCell ⟨g, 3, none⟩ a3).setCell ⟨g, 4, none⟩ a4).setCell ⟨g, 5, none⟩ a5).heap[g]? = some (.cells #[a0, a1, a2, a3, a4, a5, .bool false, .string ⟨#[]⟩, .bool false, .string ⟨#[]⟩, .bool false, .string ⟨#[]⟩] t (0, 0)) := heap_setCell_same (((((w.setCell ⟨g, 0, none⟩ a0).setCell ⟨g, 1, none⟩ a1).setCell ⟨g, 2, none⟩ a2).setCell ⟨g, 3, none⟩ a3).setCell ⟨g, 4, none⟩ a4) g 5 _ t a5 h4
  have h6 : (((((((w.setCell ⟨g, 0, none⟩ a0).setCell ⟨g, 1, none⟩ a1).setCell ⟨g, 2, none⟩ a2).setCell ⟨g, 3, none⟩ a3).setCell ⟨g, 4, none⟩ a4).setCell ⟨g, 5, none⟩ a5).setCell ⟨g, 6, none⟩ a6).heap[g]? = some (.cells #[a0, a1, a2, a3, a4, a5, a6, .string ⟨#[]⟩, .bool false, .string ⟨#[]⟩, .bool false, .string ⟨#[]⟩] t (0, 0)) := heap_setCell_same ((((((w.setCell ⟨g, 0, none⟩ a0).setCell ⟨g, 1, none⟩ a1).setCell ⟨g, 2, none⟩ a2).setCell ⟨g, 3, none⟩ a3).setCell ⟨g, 4, none⟩ a4).setCell ⟨g, 5, none⟩ a5) g 6 _ t a6 h5
  have h7 : ((((((((w.setCell ⟨g, 0, none⟩ a0).setCell ⟨g, 1, none⟩ a1).setCell ⟨g, 2, none⟩ a2).setCell ⟨g, 3, none⟩ a3).setCell ⟨g, 4, none⟩ a4).setCell ⟨g, 5, none⟩ a5).setCell ⟨g, 6, none⟩ a6).setCell ⟨g, 7, none⟩ a7).heap[g]? = some (.cells #[a0, a1, a2, a3, a4, a5, a6, a7, .bool false, .string ⟨#[]⟩, .bool false, .string ⟨#[]⟩] t (0, 0)) := heap_setCell_same (((((((w.setCell ⟨g, 0, none⟩ a0).setCell ⟨g, 1, none⟩ a1).setCell ⟨g, 2, none⟩ a2).setCell ⟨g, 3, none⟩ a3).setCell ⟨g, 4, none⟩ a4).setCell ⟨g, 5, none⟩ a5).setCell ⟨g, 6, none⟩ a6) g 7 _ t a7 h6
  have h8 : (((((((((w.setCell ⟨g, 0, none⟩ a0).setCell ⟨g, 1, none⟩ a1).setCell ⟨g, 2, none⟩ a2).setCell ⟨g, 3, none⟩ a3).setCell ⟨g, 4, none⟩ a4).setCell ⟨g, 5, none⟩ a5).setCell ⟨g, 6, none⟩ a6).setCell ⟨g, 7, none⟩ a7).setCell ⟨g, 8, none⟩ a8).heap[g]? = some (.cells #[a0, a1, a2, a3, a4, a5, a6, a7, a8, .string ⟨#[]⟩, .bool false, .string ⟨#[]⟩] t (0, 0)) := heap_setCell_same ((((((((w.setCell ⟨g, 0, none⟩ a0).setCell ⟨g, 1, none⟩ a1).setCell ⟨g, 2, none⟩ a2).setCell ⟨g, 3, none⟩ a3).setCell ⟨g, 4, none⟩ a4).setCell ⟨g, 5, none⟩ a5).setCell ⟨g, 6, none⟩ a6).setCell ⟨g, 7, none⟩ a7) g 8 _ t a8 h7
  have h9 : ((((((((((w.setCell ⟨g, 0, none⟩ a0).setCell ⟨g, 1, none⟩ a1).setCell ⟨g, 2, none⟩ a2).setCell ⟨g, 3, none⟩ a3).setCell ⟨g, 4, none⟩ a4).setCell ⟨g, 5, none⟩ a5).setCell ⟨g, 6, none⟩ a6).setCell ⟨g, 7, none⟩ a7).setCell ⟨g, 8, none⟩ a8).setCell ⟨g, 9, none⟩ a9).heap[g]? = some (.cells #[a0, a1, a2, a3, a4, a5, a6, a7, a8, a9, .bool false, .string ⟨#[]⟩] t (0, 0)) := heap_setCell_same (((((((((w.setCell ⟨g, 0, none⟩ a0).setCell ⟨g, 1, none⟩ a1).setCell ⟨g, 2, none⟩ a2).setCell ⟨g, 3, none⟩ a3).setCell ⟨g, 4, none⟩ a4).setCell ⟨g, 5, none⟩ a5).setCell ⟨g, 6, none⟩ a6).setCell ⟨g, 7, none⟩ a7).setCell ⟨g, 8, none⟩ a8) g 9 _ t a9 h8
  have h10 : (((((((((((w.setCell ⟨g, 0, none⟩ a0).setCell ⟨g, 1, none⟩ a1).setCell ⟨g, 2, none⟩ a2).setCell ⟨g, 3, none⟩ a3).setCell ⟨g, 4, none⟩ a4).setCell ⟨g, 5, none⟩ a5).setCell ⟨g, 6, none⟩ a6).setCell ⟨g, 7, none⟩ a7).setCell ⟨g, 8, none⟩ a8).setCell ⟨g, 9, none⟩ a9).setCell ⟨g, 10, none⟩ a10).heap[g]? = some (.cells #[a0, a1, a2, a3, a4, a5, a6, a7, a8, a9, a10, .string ⟨#[]⟩] t (0, 0)) := heap_setCell_same ((((((((((w.setCell ⟨g, 0, none⟩ a0).setCell ⟨g, 1, none⟩ a1).setCell ⟨g, 2, none⟩ a2).setCell ⟨g, 3, none⟩ a3).setCell ⟨g, 4, none⟩ a4).setCell ⟨g, 5, none⟩ a5).setCell ⟨g, 6, none⟩ a6).setCell ⟨g, 7, none⟩ a7).setCell ⟨g, 8, none⟩ a8).setCell ⟨g, 9, none⟩ a9) g 10 _ t a10 h9
  have h11 : ((((((((((((w.setCell ⟨g, 0, none⟩ a0).setCell ⟨g, 1, none⟩ a1).setCell ⟨g, 2, none⟩ a2).setCell ⟨g, 3, none⟩ a3).setCell ⟨g, 4, none⟩ a4).setCell ⟨g, 5, none⟩ a5).setCell ⟨g, 6, none⟩ a6).setCell ⟨g, 7, none⟩ a7).setCell ⟨g, 8, none⟩ a8).setCell ⟨g, 9, none⟩ a9).setCell ⟨g, 10, none⟩ a10).setCell ⟨g, 11, none⟩ a11).heap[g]? = some (.cells #[a0, a1, a2, a3, a4, a5, a6, a7, a8, a9, a10, a11] t (0, 0)) := heap_setCell_same (((((((((((w.setCell ⟨g, 0, none⟩ a0).setCell ⟨g, 1, none⟩ a1).setCell ⟨g, 2, none⟩ a2).setCell ⟨g, 3, none⟩ a3).setCell ⟨g, 4, none⟩ a4).setCell ⟨g, 5, none⟩ a5).setCell ⟨g, 6, none⟩ a6).setCell ⟨g, 7, none⟩ a7).setCell ⟨g, 8, none⟩ a8).setCell ⟨g, 9, none⟩ a9).setCell ⟨g, 10, none⟩ a10) g 11 _ t a11 h10
  exact h11
theorem below12 {w : World} {W : World} {g B : Nat} (h : Below B W w) (hg : B ≤ g) (a0 a1 a2 a3 a4 a5 a6 a7 a8 a9 a10 a11 : Value) :
    Below B W ((((((((((((w.setCell ⟨g, 0, none⟩ a0).setCell ⟨g, 1, none⟩ a1).setCell ⟨g, 2, none⟩ a2).setCell ⟨g, 3, none⟩ a3).setCell ⟨g, 4, none⟩ a4).setCell ⟨g, 5, none⟩ a5).setCell ⟨g, 6, none⟩ a6).setCell ⟨g, 7, none⟩ a7).setCell ⟨g, 8, none⟩ a8).setCell ⟨g, 9, none⟩ a9).setCell ⟨g, 10, none⟩ a10).setCell ⟨g, 11, none⟩ a11) :=
  ((((((((((((h.setCell hg a0).setCell hg a1).setCell hg a2).setCell hg a3).setCell hg a4).setCell hg a5).setCell hg a6).setCell hg a7).setCell hg a8).setCell hg a9).setCell hg a10).setCell hg a11)

set_option maxHeartbeats 8000000 in
set_option maxRecDepth 8000 in
theorem Tryz.Parts_any (a : Adr) (v : Value) (w : World) (hv : SegRow w v a.way.segs) (hs : Small 1000000 1000000 a) :
    Calls Tryz.prog 15 #[.agg (adrCells a v)] w fun e w' => e = .returned (.agg (partCells a)) ∧ Below w.heap.size w w' := by
  obtain ⟨W, hW⟩ : ∃ W, W = (w.alloc (.cells (adrCells a v) 52)).alloc (.cells zeroParts 28) := ⟨_, rfl⟩
  have hBW : Below w.heap.size w W := by
    rw [hW]
    exact ((Below.refl _ _).alloc (Nat.le_refl _) _).alloc (by simp) _
  have h2 := two_blocks w (.cells (adrCells a v) 52) (.cells zeroParts 28)
  rw [← hW] at h2
  have hsize : W.heap.size = w.heap.size + 2 := by rw [hW]; simp
  have HBW : Hid (∀ w1, Below W.heap.size W w1 → Below w.heap.size w w1) := fun w1 h1 => hBW.trans (h1.mono (by omega))
  have HP : Hid (∀ w1, Below W.heap.size W w1 → Calls Tryz.prog 28 #[.agg #[.bool a.way.opaq, .string ⟨a.way.text.toArray⟩, v]] w1 fun e w' => e = .returned (.string ⟨(tellWay a.way).toArray⟩) ∧ Below W.heap.size W w') := by
    intro w1 h1
    refine (Tryz.pathTell_any a.way v w1 (segRow_below (segRow_below hv hBW) h1) (by have := hs.count; omega) hs.segs).mono ?_
    rintro e w' ⟨rfl, hb⟩
    exact ⟨rfl, h1.trans (hb.mono h1.size)⟩
  have HZ : Hid (∀ w1, Below W.heap.size W w1 → w1.heap[w.heap.size + 1]? = some (.cells zeroParts 28 (0, 0))) := fun w1 h1 => (h1.block _ (by omega)).trans h2.2
  have HC : Hid (∀ w1, Below W.heap.size W w1 → w1.heap[w.heap.size]? = some (.cells (adrCells a v) 52 (0, 0))) := fun w1 h1 => (h1.block w.heap.size (by omega)).trans h2.1
  have HW : Hid (W = (w.alloc (.cells (adrCells a v) 52)).alloc (.cells zeroParts 28)) := hW
  clear hW h2 hs hv hBW
  unfold partCells
  generalize (⟨(tellWay a.way).toArray⟩ : ByteArray) = t3 at *
  unfold adrCells at HW HC ⊢
  generalize (⟨a.scheme.toArray⟩ : ByteArray) = x0 at *
  generalize (⟨a.auth.user.toArray⟩ : ByteArray) = x1 at *
  generalize (⟨a.auth.pass.toArray⟩ : ByteArray) = x2 at *
  generalize a.auth.has = x3 at *
  generalize (⟨a.auth.host.toArray⟩ : ByteArray) = x4 at *
  generalize a.auth.port = x5 at *
  generalize a.way.opaq = x6 at *
  generalize (⟨a.way.text.toArray⟩ : ByteArray) = x7 at *
  generalize a.query.isSome = x9 at *
  generalize (⟨(a.query.getD []).toArray⟩ : ByteArray) = x10 at *
  generalize a.frag.isSome = x11 at *
  generalize (⟨(a.frag.getD []).toArray⟩ : ByteArray) = x12 at *
  have HD : Hid (∀ w1, Below W.heap.size W w1 → w1.cell? ⟨w.heap.size, 0, none⟩ = some (.string x0) ∧ w1.cell? ⟨w.heap.size, 1, none⟩ = some (.string x1) ∧ w1.cell? ⟨w.heap.size, 2, none⟩ = some (.string x2) ∧ w1.cell? ⟨w.heap.size, 3, none⟩ = some (.bool x3) ∧ w1.cell? ⟨w.heap.size, 4, none⟩ = some (.string x4) ∧ w1.cell? ⟨w.heap.size, 5, none⟩ = some (.int .i64 x5) ∧ w1.cell? ⟨w.heap.size, 6, none⟩ = some (.bool x6) ∧ w1.cell? ⟨w.heap.size, 7, none⟩ = some (.string x7) ∧ w1.cell? ⟨w.heap.size, 8, none⟩ = some (v) ∧ w1.cell? ⟨w.heap.size, 9, none⟩ = some (.bool x9) ∧ w1.cell? ⟨w.heap.size, 10, none⟩ = some (.string x10) ∧ w1.cell? ⟨w.heap.size, 11, none⟩ = some (.bool x11) ∧ w1.cell? ⟨w.heap.size, 12, none⟩ = some (.string x12)) := by
    intro w1 h1
    have k := HC.out w1 h1
    exact ⟨cell_heap k 0, cell_heap k 1, cell_heap k 2, cell_heap k 3, cell_heap k 4, cell_heap k 5, cell_heap k 6, cell_heap k 7, cell_heap k 8, cell_heap k 9, cell_heap k 10, cell_heap k 11, cell_heap k 12⟩
  obtain ⟨d0, d1, d2, d3, d4, d5, d6, d7, d8, d9, d10, d11, d12⟩ := HD.out W (Below.refl _ _)
  clear HC
  go_enter Tryz.func15, Tryz.ntmps15
  go_upto_region 1 with fail
  have hw := HW.out
  unfold zeroParts at hw
  rw [← hw]
  clear hw HW
  go_region_held3 (fun w' => w'.cell? ⟨w.heap.size, 0, none⟩ = some (.string x0) ∧ w'.cell? ⟨w.heap.size, 1, none⟩ = some (.string x1) ∧ w'.cell? ⟨w.heap.size, 2, none⟩ = some (.string x2) ∧ w'.cell? ⟨w.heap.size, 3, none⟩ = some (.bool x3) ∧ w'.cell? ⟨w.heap.size, 4, none⟩ = some (.string x4) ∧ w'.cell? ⟨w.heap.size, 5, none⟩ = some (.int .i64 x5) ∧ w'.cell? ⟨w.heap.size, 6, none⟩ = some (.bool x6) ∧ w'.cell? ⟨w.heap.size, 7, none⟩ = some (.string x7) ∧ w'.cell? ⟨w.heap.size, 8, none⟩ = some (v) ∧ w'.cell? ⟨w.heap.size, 9, none⟩ = some (.bool x9) ∧ w'.cell? ⟨w.heap.size, 10, none⟩ = some (.string x10) ∧ w'.cell? ⟨w.heap.size, 11, none⟩ = some (.bool x11) ∧ w'.cell? ⟨w.heap.size, 12, none⟩ = some (.string x12)) (go_keep) (first | (go_at_call 28; refine Calls.mono (HP.out _ (by first | exact Below.refl _ _ | exact same_heap rfl rfl rfl rfl)) ?_; rintro e w1 ⟨rfl, b1⟩; have HB1 : Hid (Below W.heap.size W w1) := b1; clear b1; obtain ⟨e0, e1, e2, e3, e4, e5, e6, e7, e8, e9, e10, e11, e12⟩ := HD.out w1 HB1.out; obtain ⟨⟨p0, p1, p2, p3, p4, p5, p6, p7, p8, p9, p10, p11⟩, r0, r1, r2, r3, r4, r5, r6, r7, r8, r9, r10, r11⟩ := cells12 (HZ.out w1 HB1.out)))
  all_goals
    go_wp2
    refine bodyPost_ret (v := .agg #[.string x0, .string x1, .string x2, .bool x3, .string x4, .int .i64 x5, .bool x6, .string t3, .bool x9, .string x10, .bool x11, .string x12]) (results_cell_row rfl _ _ (w.heap.size + 1) 28 _ (0, 0) _ rfl (set12 (HZ.out w1 HB1.out) (.string x0) (.string x1) (.string x2) (.bool x3) (.string x4) (.int .i64 x5) (.bool x6) (.string t3) (.bool x9) (.string x10) (.bool x11) (.string x12)) Tryz.underlying28 rfl Tryz.sizeParts) rfl ⟨rfl, below12 (HBW.out w1 HB1.out) (Nat.le_succ _) (.string x0) (.string x1) (.string x2) (.bool x3) (.string x4) (.int .i64 x5) (.bool x6) (.string t3) (.bool x9) (.string x10) (.bool x11) (.string x12)⟩
end Go.Proofs
