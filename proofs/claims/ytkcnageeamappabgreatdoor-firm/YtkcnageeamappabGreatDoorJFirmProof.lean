/-
  For every two numbers the law moorkeep.Firm answers true and leaves its arguments as they were; the card ties the listed package-level variables to the program's text.
-/
import Derived.Test.YtkcnageeamappabGreatDoorCards
import Derived.Test.YtkcnageeamappabGreatDoorTie
import Derived.Test.YtkcnageeamappabGreatDoorJFirmFacts
import Derived.Test.YtkcnageeamappabGreatDoorJKFirm
namespace Go.Proofs.YtkcnageeamappabGreatDoor
open Go.ChangeShapes Go.WideShapes Go.ChangeAt Go.RowKit Go.Moor
open Go.ChangeMaps (open_string shut_string)

set_option maxRecDepth 100000 in
theorem contractFirm (H : Type) (enc : TypeId × Value → H) (W : World) (base : Nat) (args : Array Value) (ds gs : List (DataW H)) (before : List MemPlace)
    (hval : ∀ (j : Nat) t v, Tryz.f3.params[j]? = some t → args[j]? = some v → Value.okWide Tryz.prog W .any base t v)
    (hW : DataW.Whole enc Tryz.prog Tryz.f3.params.toList Rows.firmSpec.vars false W args.toList ds gs before) (hL : laidMetH Tryz.prog Rows.firmRow.laid W) (hsh : W.ShapedOpen Tryz.prog) :
    Calls Tryz.prog 3 args W fun e W' => ∃ v, e = .returned v ∧ Rows.firmSpec.post enc Tryz.prog Tryz.f3 false true false false W args v W' := by
  have hW' := hW
  obtain ⟨p, q, hA0, hV, rfl, hfz, hnd⟩ := hW
  have hA : DataW.TrodAll enc Tryz.prog W 0 (fun _ => true) true Tryz.f3.params.toList args.toList ds p := hA0
  rw [Tryz.params3] at hA hval
  obtain ⟨v0, vs0, d0, ds0, p0, q0, hargs, rfl, rfl, h0, r0⟩ := trodAll_cons hA
  obtain ⟨v1, vs1, d1, ds1, p1, q1, rfl, rfl, rfl, h1, r1⟩ := trodAll_cons r0
  obtain ⟨rfl, rfl, rfl⟩ := trodAll_nil r1
  obtain rfl : args = #[v0, v1] := Array.toList_inj.1 hargs
  obtain ⟨rfl, rfl⟩ := trodVars_none hV
  obtain ⟨a0, rfl, rfl, rfl, w0⟩ := open_int Tryz.underlying3 (hval 0 3 v0 rfl rfl) h0
  obtain ⟨a1, rfl, rfl, rfl, w1⟩ := open_int Tryz.underlying3 (hval 1 3 v1 rfl rfl) h1
  clear hA0
  simp only [List.append_nil] at hW'
  have HEnv := envFirm hL hsh
  refine (Tryz.Firm_any a0 a1 W (int_in w0).1 (int_in w0).2 (int_in w1).1 (int_in w1).2 HEnv).mono fun e W' ⟨he, hb⟩ => ?_
  subst he
  refine ⟨_, rfl, _, _, _, [], [], [], hW', ?_, ?_, ?_, hb.frame _, fun h => by cases h⟩
  · exact trodAll_cons_mk (shut_bool Tryz.underlying4 _) trodAll_mk0
  · exact trodAll_cons_mk (shut_int Tryz.underlying3 w0) (trodAll_cons_mk (shut_int Tryz.underlying3 w1) (trodAll_mk0))
  · rfl

set_option maxRecDepth 1000000 in
theorem liftedFirm (os : Os) (started : os.Started) (H : Type) (enc : TypeId × Value → H) (F : Stop.Interp) :
    ReturnsInHanded {} Tryz.checked os 3 .any ((OpenSpec.ofChange Rows.firmSpec).preRow enc Tryz.prog Tryz.f3 Rows.firmRow.domain false Rows.firmRow.laid) (((OpenSpec.ofChange Rows.firmSpec).at F).post enc Tryz.prog Tryz.f3 false true false false) := by
  refine returnsInHanded_of_row (C := Tryz.checked) (s := OpenSpec.ofChange Rows.firmSpec) ownFirm started (by kernel_rfl) Tryz.func3
    (ChangeSpec.witness_shaped (enc := enc) (C := Tryz.checked) (os := os) (X := fun w _ => laidMetH Tryz.prog Rows.firmRow.laid w) false (({ World.holding Tryz.prog os ⟨#[], #[], []⟩ with heap := (World.holding Tryz.prog os ⟨#[], #[], []⟩).heap.modify 1 fun | .cells _ t frozen => .cells #[.iface 156 (.agg #[.pointer (some ⟨27, 60, none⟩)])] t frozen | o => o } : World).layVars Tryz.prog laidFirm) #[.int .i64 0, .int .i64 0] 8 (World.layVars_os _ _ _)
      (World.shaped_of_ZipB (wit1Firm os) (wit2Firm os)) (wit3Firm os) (wit4Firm os H enc) (wit5Firm os H enc) (metFirm os _)) ?_
  intro W base args ds gs before hval hW _ _ _ hL hsh _
  exact contractFirm H enc W base args ds gs before hval hW hL hsh

theorem saidFirm : Rows.FirmSaid :=
  OpenClaim.holds_of_cond 3 Tryz.f3 rfl rfl rfl rfl rfl rfl rfl ⟨rfl, rfl, rfl, rfl, rfl⟩ rfl rfl rfl rfl rfl sfaFirm Tryz.func3 sfbFirm sfcFirm sfdFirm
    (fun os started H enc _ F => by rw [OpenClaim.pre_eq_preRow]; exact liftedFirm os started H enc F)

/-- The card. -/
theorem firm_card : Rows.FirmCardSaid :=
  Claim7.holds_tied_plain_at .later [] _ _ _ _ saidFirm (fun _ h => by cases h) (by kernel_rfl) (fun _ h => by cases h) firm_row_tie rfl ⟨rfl, rfl⟩ (by kernel_rfl) rfl plainFirm (by kernel_rfl)
#print axioms firm_card
end Go.Proofs.YtkcnageeamappabGreatDoor
