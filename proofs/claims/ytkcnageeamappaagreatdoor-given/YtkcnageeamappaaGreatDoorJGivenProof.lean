/-
  For every text, number and value the law moorkeep.Given answers true and leaves its arguments as they were; the card ties the listed package-level variables to the program's text.
-/
import Derived.Test.YtkcnageeamappaaGreatDoorCards
import Derived.Test.YtkcnageeamappaaGreatDoorTie
import Derived.Test.YtkcnageeamappaaGreatDoorJGivenFacts
import Derived.Test.YtkcnageeamappaaGreatDoorJKGiven3
namespace Go.Proofs.YtkcnageeamappaaGreatDoor
open Go.ChangeShapes Go.WideShapes Go.ChangeAt Go.RowKit Go.Moor
open Go.ChangeMaps (open_string shut_string)

set_option maxRecDepth 100000 in
theorem contractGiven (H : Type) (enc : TypeId × Value → H) (W : World) (base : Nat) (args : Array Value) (ds gs : List (DataW H)) (before : List MemPlace)
    (hval : ∀ (j : Nat) t v, Tryz.f12.params[j]? = some t → args[j]? = some v → Value.okWide Tryz.prog W .any base t v)
    (hW : DataW.Whole enc Tryz.prog Tryz.f12.params.toList Rows.givenSpec.vars false W args.toList ds gs before) (hL : laidMetH Tryz.prog Rows.givenRow.laid W) (hsh : W.ShapedOpen Tryz.prog) :
    Calls Tryz.prog 12 args W fun e W' => ∃ v, e = .returned v ∧ Rows.givenSpec.post enc Tryz.prog Tryz.f12 false true false false W args v W' := by
  have hW' := hW
  obtain ⟨p, q, hA0, hV, rfl, hfz, hnd⟩ := hW
  have hA : DataW.TrodAll enc Tryz.prog W 0 (fun _ => true) true Tryz.f12.params.toList args.toList ds p := hA0
  rw [Tryz.params12] at hA hval
  obtain ⟨v0, vs0, d0, ds0, p0, q0, hargs, rfl, rfl, h0, r0⟩ := trodAll_cons hA
  obtain ⟨v1, vs1, d1, ds1, p1, q1, rfl, rfl, rfl, h1, r1⟩ := trodAll_cons r0
  obtain ⟨v2, vs2, d2, ds2, p2, q2, rfl, rfl, rfl, h2, r2⟩ := trodAll_cons r1
  obtain ⟨rfl, rfl, rfl⟩ := trodAll_nil r2
  obtain rfl : args = #[v0, v1, v2] := Array.toList_inj.1 hargs
  obtain ⟨rfl, rfl⟩ := trodVars_none hV
  obtain ⟨s0, rfl, rfl, rfl, w0⟩ := open_string Tryz.underlying9 (hval 0 9 v0 rfl rfl) h0
  obtain ⟨a1, rfl, rfl, rfl, w1⟩ := open_int Tryz.underlying3 (hval 1 3 v1 rfl rfl) h1
  obtain ⟨s2, rfl, rfl, rfl, w2⟩ := open_string Tryz.underlying9 (hval 2 9 v2 rfl rfl) h2
  clear hA0
  simp only [List.append_nil] at hW'
  have HEnv := envGiven hL hsh
  refine (Tryz.Given_any s0 a1 s2 W (int_in w1).1 (int_in w1).2 w0 w2 HEnv).mono fun e W' ⟨he, hb⟩ => ?_
  subst he
  refine ⟨_, rfl, _, _, _, [], [], [], hW', ?_, ?_, ?_, hb.frame _, fun h => by cases h⟩
  · exact trodAll_cons_mk (shut_bool Tryz.underlying4 _) trodAll_mk0
  · exact trodAll_cons_mk (shut_string Tryz.underlying9 w0) (trodAll_cons_mk (shut_int Tryz.underlying3 w1) (trodAll_cons_mk (shut_string Tryz.underlying9 w2) (trodAll_mk0)))
  · rfl

set_option maxRecDepth 1000000 in
theorem liftedGiven (os : Os) (started : os.Started) (H : Type) (enc : TypeId × Value → H) (F : Stop.Interp) :
    ReturnsInHanded {} Tryz.checked os 12 .any ((OpenSpec.ofChange Rows.givenSpec).preRow enc Tryz.prog Tryz.f12 Rows.givenRow.domain false Rows.givenRow.laid) (((OpenSpec.ofChange Rows.givenSpec).at F).post enc Tryz.prog Tryz.f12 false true false false) := by
  refine returnsInHanded_of_row (C := Tryz.checked) (s := OpenSpec.ofChange Rows.givenSpec) ownGiven started (by kernel_rfl) Tryz.func12
    (ChangeSpec.witness_shaped (enc := enc) (C := Tryz.checked) (os := os) (X := fun w _ => laidMetH Tryz.prog Rows.givenRow.laid w) false (({ World.holding Tryz.prog os ⟨#[], #[], []⟩ with heap := (World.holding Tryz.prog os ⟨#[], #[], []⟩).heap.modify 2 fun | .cells _ t frozen => .cells #[.iface 193 (.agg #[.pointer (some ⟨29, 65, none⟩)])] t frozen | o => o } : World).layVars Tryz.prog laidGiven) #[.string ⟨#[]⟩, .int .i64 0, .string ⟨#[]⟩] 8 (World.layVars_os _ _ _)
      (World.shaped_of_ZipB (wit1Given os) (wit2Given os)) (wit3Given os) (wit4Given os H enc) (wit5Given os H enc) (metGiven os _)) ?_
  intro W base args ds gs before hval hW _ _ _ hL hsh _
  exact contractGiven H enc W base args ds gs before hval hW hL hsh

theorem saidGiven : Rows.GivenSaid :=
  OpenClaim.holds_of_cond 12 Tryz.f12 rfl rfl rfl rfl rfl rfl rfl ⟨rfl, rfl, rfl, rfl, rfl⟩ rfl rfl rfl rfl rfl sfaGiven Tryz.func12 sfbGiven sfcGiven sfdGiven
    (fun os started H enc _ F => by rw [OpenClaim.pre_eq_preRow]; exact liftedGiven os started H enc F)

/-- The card. -/
theorem given_card : Rows.GivenCardSaid :=
  Claim7.holds_tied_plain_at .later [] _ _ _ _ saidGiven (fun _ h => by cases h) (by kernel_rfl) (fun _ h => by cases h) given_row_tie rfl ⟨rfl, rfl⟩ (by kernel_rfl) rfl plainGiven (by kernel_rfl)
#print axioms given_card
end Go.Proofs.YtkcnageeamappaaGreatDoor
