/-
  What the package-level variables hold while a call runs, and that it stays so behind whatever leaves the old blocks alone.
-/
import Derived.Test.YtkcnageeamappaaGreatDoorUndo
import Derived.Test.YtkcnageeamappaaGreatDoorHPlain
import Derived.Lib.LaidTab
namespace Go.Proofs
open Go.RowKit Go.Moor

/-- The variable g holds an interface value that is not nil. -/
def Tryz.Err (g : Nat) (w : World) : Prop := ∃ t v, w.cell? ⟨g, 0, none⟩ = some (.iface t v)

structure Tryz.Env (w : World) : Prop where
  size : 29 ≤ w.heap.size
  sets : Tryz.Sets w
  maxLen : ∃ m, w.cell? ⟨16, 0, none⟩ = some (.int .i64 m)
  eEmpty : Tryz.Err 5 w
  eBracket : Tryz.Err 4 w
  eCount : Tryz.Err 14 w
  eLength : Tryz.Err 18 w
  eNought : Tryz.Err 24 w
  eGreat : Tryz.Err 23 w
  pow10 : Lib.TabIs Tryz.prog w "internal/strconv.uint64pow10" .u64 Lib.pow10Tab
  errType : w.cell? ⟨2, 0, none⟩ = some (.iface 193 (.agg #[.pointer (some ⟨29, 65, none⟩)]))

theorem Tryz.Err.below {g : Nat} {w w' : World} (h : Tryz.Err g w) (hb : Below w.heap.size w w') (hz : g < w.heap.size) : Tryz.Err g w' := by
  obtain ⟨t, v, hc⟩ := h
  exact ⟨t, v, by rw [hb.cell (p := ⟨g, 0, none⟩) hz]; exact hc⟩

theorem Tryz.gPow : Tryz.prog.globalNamed "internal/strconv.uint64pow10" = some 20 := by kernel_rfl

theorem Tryz.Env.below {w w' : World} (h : Tryz.Env w) (hb : Below w.heap.size w w') : Tryz.Env w' := by
  have hz := h.size
  obtain ⟨m, hm⟩ := h.maxLen
  refine ⟨Nat.le_trans hz hb.size, Tryz.sets_below h.sets hb (by omega), ⟨m, Tryz.maxLen_below hm hb (by omega)⟩, h.eEmpty.below hb (by omega), h.eBracket.below hb (by omega), h.eCount.below hb (by omega), h.eLength.below hb (by omega), h.eNought.below hb (by omega), h.eGreat.below hb (by omega), ?_, ?_⟩
  · have := h.pow10
    unfold Lib.TabIs at this ⊢
    rw [← this]
    simp only [World.var?, Tryz.gPow, Option.bind_some, hb.block 20 (by omega)]
  · rw [hb.cell (p := ⟨2, 0, none⟩) (show _ < w.heap.size by show 2 < _; omega)]; exact h.errType

theorem Tryz.Env.drew {w : World} (h : Tryz.Env w) (n : Nat) : Tryz.Env (w.drewN n) := h.below (Go.below_drewN (Below.refl _ w) n)
end Go.Proofs
