/-
  What a row's list gives of the ports.
-/
import Derived.Test.YtkcnageeamappaaGreatDoorJLaidK
import Derived.Test.YtkcnageeamappaaGreatDoorJKWrittenP
namespace Go.Proofs.YtkcnageeamappaaGreatDoor
open Go.ChangeShapes Go.WideShapes Go.ChangeAt Go.RowKit Go.Moor

theorem laid_ports : (Rows.laid_moor_moorkeep_ports : DataW Unit) = .slice (fivePorts.map fun x => .lit (.string x)) [] := by kernel_rfl
theorem ports_of_reads {W : World} (h : Lib.VarReads Tryz.prog W "moor/moorkeep.ports" Rows.laid_moor_moorkeep_ports) : TxtRow 1 fivePorts W := by
  rw [laid_ports] at h
  exact txt_of_reads (by kernel_rfl) (by kernel_rfl) h (by decide)
end Go.Proofs.YtkcnageeamappaaGreatDoor
