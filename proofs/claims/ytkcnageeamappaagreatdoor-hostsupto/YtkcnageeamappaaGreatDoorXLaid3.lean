import Derived.Test.YtkcnageeamappaaGreatDoorXAEnv3
namespace Go.Proofs.YtkcnageeamappaaGreatDoor
open Go.ChangeShapes Go.WideShapes Go.ChangeAt Go.RowKit Go.Moor
def partLaid : List (String × DataW Unit) := [("moor/address.errNoPart", Rows.laid_moor_address_errNoPart), ("moor/address.errNoScheme", Rows.laid_moor_address_errNoScheme), ("moor/address.errOtherKind", Rows.laid_moor_address_errOtherKind), ("moor/address.errBareHost", Rows.laid_moor_address_errBareHost), ("moor/address.errBeside", Rows.laid_moor_address_errBeside), ("moor/address.errOpaque", Rows.laid_moor_address_errOpaque)]
theorem env3_of_reads {W : World} (hp : ∀ x ∈ plainLaid, Lib.VarReads Tryz.prog W x.1 x.2) (hq : ∀ x ∈ needLaid, Lib.VarReads Tryz.prog W x.1 x.2) (hr : ∀ x ∈ partLaid, Lib.VarReads Tryz.prog W x.1 x.2) (hh : handlesMet Tryz.prog [("errors.errorType", Rows.laid_errors_errorType)] W) (hsh : W.ShapedOpen Tryz.prog) : Tryz.Env3 W :=
  ⟨env2_of_reads hp hq hh hsh,
    err_of_reads (by kernel_rfl) (by kernel_rfl) (hr ("moor/address.errNoPart", _) (by simp [partLaid]; rfl)), err_of_reads (by kernel_rfl) (by kernel_rfl) (hr ("moor/address.errNoScheme", _) (by simp [partLaid]; rfl)),
    err_of_reads (by kernel_rfl) (by kernel_rfl) (hr ("moor/address.errOtherKind", _) (by simp [partLaid]; rfl)), err_of_reads (by kernel_rfl) (by kernel_rfl) (hr ("moor/address.errBareHost", _) (by simp [partLaid]; rfl)),
    err_of_reads (by kernel_rfl) (by kernel_rfl) (hr ("moor/address.errBeside", _) (by simp [partLaid]; rfl)), err_of_reads (by kernel_rfl) (by kernel_rfl) (hr ("moor/address.errOpaque", _) (by simp [partLaid]; rfl))⟩
end Go.Proofs.YtkcnageeamappaaGreatDoor
