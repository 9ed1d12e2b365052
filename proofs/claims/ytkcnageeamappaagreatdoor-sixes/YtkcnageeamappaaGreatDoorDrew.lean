/-
  Draws leave memory as it is.
-/
import Derived.Test.YtkcnageeamappaaGreatDoorHost
namespace Go.Proofs
open Go.RowKit Go.Moor

theorem drew_here (k : Nat) (w : World) (n : Nat) : Below k w (w.drewN n) := ⟨rfl, rfl, rfl, Nat.le_refl _, fun _ _ => rfl⟩
theorem drew_on {k : Nat} {w w' : World} (h : Below k w w') (n : Nat) : Below k w (w'.drewN n) := h.trans (drew_here _ _ _)
end Go.Proofs
