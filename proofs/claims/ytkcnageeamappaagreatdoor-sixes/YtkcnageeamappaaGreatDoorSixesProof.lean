/-
  For every row of numbers and every two numbers the law moorkeep.Sixes answers true and leaves its arguments as they were; the card ties the listed package-level variables to the program's text.
-/
import Derived.Test.YtkcnageeamappaaGreatDoorCards
import Derived.Test.YtkcnageeamappaaGreatDoorTie
import Derived.Test.YtkcnageeamappaaGreatDoorLaidTz
import Derived.Test.YtkcnageeamappaaGreatDoorSixes
import Derived.Deep.DeepHandedRow
import Derived.ChangeSlices
namespace Go.Proofs.YtkcnageeamappaaGreatDoor
open Go.ChangeShapes Go.WideShapes Go.ChangeAt Go.RowKit Go.Moor

theorem own6 : ownKnob Tryz.prog.godebug = none := by kernel_rfl
theorem i64_in {n : Int} (wn : (Lit.int .i64 n).wf = true) : -(2 ^ 63) ≤ n ∧ n < 2 ^ 63 := by
  have := bounds_i64 wn
  omega
theorem _root_.Go.Proofs.cell_block_lt {w : World} {a : Go.Addr} {v : Value} (h : w.cell? a = some v) : a.block < w.heap.size := by
  first | exact block_lt_of_cell h | exact World.block_lt_of_cell? w a h | exact World.block_lt_of_cell? w h
theorem cellsInt : Tryz.prog.cellsOf 3 = 1 := by kernel_rfl

set_option maxRecDepth 100000 in
theorem contract6 (H : Type) (enc : TypeId × Value → H) (W : World) (base : Nat) (args : Array Value) (ds gs : List (DataW H)) (before : List MemPlace)
    (hval : ∀ (j : Nat) t v, Tryz.f5.params[j]? = some t → args[j]? = some v → Value.okWide Tryz.prog W .any base t v)
    (hW : DataW.Whole enc Tryz.prog Tryz.f5.params.toList Rows.sixesSpec.vars false W args.toList ds gs before) (hL : laidMetH Tryz.prog Rows.sixesRow.laid W) (hsh : W.ShapedOpen Tryz.prog) :
    Calls Tryz.prog 5 args W fun e W' => ∃ v, e = .returned v ∧ Rows.sixesSpec.post enc Tryz.prog Tryz.f5 false true false false W args v W' := by
  have hW' := hW
  obtain ⟨p, q, hA0, hV, rfl, hfz, hnd⟩ := hW
  have hA : DataW.TrodAll enc Tryz.prog W 0 (fun _ => true) true Tryz.f5.params.toList args.toList ds p := hA0
  rw [Tryz.params5] at hA hval
  obtain ⟨v0, vs0, d0, ds0, p0, q0, hargs, rfl, rfl, h0, r0⟩ := trodAll_cons hA
  obtain ⟨v1, vs1, d1, ds1, p1, q1, rfl, rfl, rfl, h1, r1⟩ := trodAll_cons r0
  obtain ⟨v2, vs2, d2, ds2, p2, q2, rfl, rfl, rfl, h2, r2⟩ := trodAll_cons r1
  obtain ⟨rfl, rfl, rfl⟩ := trodAll_nil r2
  obtain rfl : args = #[v0, v1, v2] := Array.toList_inj.1 hargs
  obtain ⟨rfl, rfl⟩ := trodVars_none hV
  obtain ⟨a0, len, cap, rfl⟩ := okWide_slice Tryz.underlying33 (hval 0 33 v0 rfl rfl)
  obtain ⟨a1, rfl, rfl, rfl, w1⟩ := open_int Tryz.underlying3 (hval 1 3 v1 rfl rfl) h1
  obtain ⟨a2, rfl, rfl, rfl, w2⟩ := open_int Tryz.underlying3 (hval 2 3 v2 rfl rfl) h2
  obtain ⟨fuel, hf⟩ := h0
  clear hA0
  have HEnv := env_of_laid hL hsh
  have HTz := tz_of_laid hL
  rcases open_ints Tryz.underlying33 Tryz.underlying3 cellsInt hf with ⟨hcs, hx⟩ | ⟨a, len', cap', zs, hcs, _, hl, hm, hz, hx, hcell, hwz⟩
  · simp [Value.cells] at hcs
    obtain ⟨rfl, rfl, rfl⟩ := hcs
    simp only [Prod.mk.injEq] at hx
    obtain ⟨rfl, rfl⟩ := hx
    simp only [List.append_nil] at hW'
    refine (Tryz.Sixes_any none 0 [] a1 a2 W (by simp) (by simp) (i64_in w1).1 (i64_in w1).2 (i64_in w2).1 (i64_in w2).2 HEnv HTz).mono fun e W' ⟨he, hb⟩ => ?_
    subst he
    refine ⟨_, rfl, _, _, _, [], [], [], hW', ?_, ?_, ?_, hb.frame _, fun h => by cases h⟩
    · exact trodAll_cons_mk (shut_bool Tryz.underlying4 _) trodAll_mk0
    · exact trodAll_cons_mk (shut_slice_nil Tryz.underlying33) (trodAll_cons_mk (shut_int Tryz.underlying3 w1) (trodAll_cons_mk (shut_int Tryz.underlying3 w2) trodAll_mk0))
    · rfl
  · simp [Value.cells] at hcs
    obtain ⟨rfl, rfl, rfl⟩ := hcs
    simp only [Prod.mk.injEq] at hx
    obtain ⟨rfl, rfl⟩ := hx
    simp only [if_true] at hz
    have hblk : 0 < zs.length → a.block < W.heap.size := fun h => by
      have h2 := Go.Proofs.cell_block_lt (hcell 0 h)
      rwa [block_add] at h2
    simp only [List.append_nil] at hW'
    have hlz : len ≤ zs.length := by rw [hz]; exact hl
    have htl : (zs.take len).length = len := by rw [List.length_take]; omega
    have hSix := Tryz.Sixes_any (some a) cap (zs.take len) a1 a2 W (fun x hx => bounds_i64 (hwz x (List.mem_of_mem_take hx))) (by
      intro j x hj
      have hjl : j < len := by
        have := (List.getElem?_eq_some_iff.1 hj).1
        omega
      have hz2 : zs[j]? = some x := by rw [List.getElem?_take, if_pos hjl] at hj; exact hj
      refine ⟨a, rfl, hblk (by omega), ?_⟩
      rw [hcell j (by omega)]
      simp [List.getD, hz2]) (i64_in w1).1 (i64_in w1).2 (i64_in w2).1 (i64_in w2).2 HEnv HTz
    rw [htl] at hSix
    refine hSix.mono fun e W' ⟨he, hb⟩ => ?_
    subst he
    refine ⟨_, rfl, _, _, _, [], MemPlace.row a zs.length, [], hW', ?_, ?_, ?_, hb.frame _, fun h => by cases h⟩
    · exact trodAll_cons_mk (shut_bool Tryz.underlying4 _) trodAll_mk0
    · have hs : DataW.Trod enc Tryz.prog W' 0 (fun b => decide (b < W.heap.size)) true 33 (.slice (some a) len cap) (.slice (lits .i64 (zs.take len)) (lits .i64 (zs.drop len))) (MemPlace.row a zs.length) := by
        refine ⟨0 + 2, shut_ints 0 Tryz.underlying33 Tryz.underlying3 cellsInt (Nat.zero_le _) hl hm ?_ ?_ hwz⟩
        · by_cases h0 : 0 < zs.length
          · rw [if_pos (decide_eq_true (hblk h0))]
            exact hz
          · split
            · exact hz
            · omega
        · intro i hi
          have hbl := hblk (by omega)
          rw [hb.cell (p := a.add i) (by rw [block_add]; exact hbl)]
          exact hcell i hi
      have := trodAll_cons_mk hs (trodAll_cons_mk (shut_int Tryz.underlying3 w1) (trodAll_cons_mk (shut_int Tryz.underlying3 w2) trodAll_mk0))
      simp only [List.append_nil] at this
      exact this
    · rfl

set_option maxRecDepth 1000000 in
theorem met6 (os : Os) (args : Array Value) : laidMetH Tryz.prog Rows.sixesRow.laid ((({ World.holding Tryz.prog os ⟨#[], #[], []⟩ with heap := (World.holding Tryz.prog os ⟨#[], #[], []⟩).heap.modify 2 fun | .cells _ t frozen => .cells #[.iface 193 (.agg #[.pointer (some ⟨29, 65, none⟩)])] t frozen | o => o } : World).layVars Tryz.prog plainLaid).forCall (fun _ _ => 0) ⟨#[], args, []⟩).memory := by
  have h : laidMet Tryz.prog plainLaid (({ World.holding Tryz.prog os ⟨#[], #[], []⟩ with heap := (World.holding Tryz.prog os ⟨#[], #[], []⟩).heap.modify 2 fun | .cells _ t frozen => .cells #[.iface 193 (.agg #[.pointer (some ⟨29, 65, none⟩)])] t frozen | o => o } : World).layVars Tryz.prog plainLaid) := by
    have e1 : (plainLaid.filter fun x => (plainLaid.map (·.1)).contains x.1) = plainLaid := List.filter_eq_self.2 fun x hx => List.contains_iff_mem.2 (List.mem_map.2 ⟨x, hx, rfl⟩)
    have e2 : (plainLaid.filter fun x => !(plainLaid.map (·.1)).contains x.1) = [] := List.filter_eq_nil_iff.2 fun x hx => by rw [List.contains_iff_mem.2 (List.mem_map.2 ⟨x, hx, rfl⟩)]; simp
    exact laidMet_layVars (w0 := ({ World.holding Tryz.prog os ⟨#[], #[], []⟩ with heap := (World.holding Tryz.prog os ⟨#[], #[], []⟩).heap.modify 2 fun | .cells _ t frozen => .cells #[.iface 193 (.agg #[.pointer (some ⟨29, 65, none⟩)])] t frozen | o => o } : World)) (plainLaid.map (·.1)) [] (by rw [e1]) (by rw [e1]; kernel_rfl) (by rw [e1]; kernel_rfl) (by rw [e2]; exact LaidIn.none)
  exact laidMetH_of_parts (h.of_heap (by simp [World.memory, World.forCall, Input.heap])) (by kernel_rfl)

set_option maxRecDepth 1000000 in
theorem wit1x6 (os : Os) : ((({ World.holding Tryz.prog os ⟨#[], #[], []⟩ with heap := (World.holding Tryz.prog os ⟨#[], #[], []⟩).heap.modify 2 fun | .cells _ t frozen => .cells #[.iface 193 (.agg #[.pointer (some ⟨29, 65, none⟩)])] t frozen | o => o } : World).layVars Tryz.prog plainLaid).forCall (fun _ _ => 0) ⟨#[], #[.slice none 0 0, .int .i64 0, .int .i64 0], []⟩).variablesZipB Tryz.prog = true := by kernel_rfl
set_option maxRecDepth 1000000 in
theorem wit2x6 (os : Os) : (((({ World.holding Tryz.prog os ⟨#[], #[], []⟩ with heap := (World.holding Tryz.prog os ⟨#[], #[], []⟩).heap.modify 2 fun | .cells _ t frozen => .cells #[.iface 193 (.agg #[.pointer (some ⟨29, 65, none⟩)])] t frozen | o => o } : World).layVars Tryz.prog plainLaid).forCall (fun _ _ => 0) ⟨#[], #[.slice none 0 0, .int .i64 0, .int .i64 0], []⟩).heap.toList.drop Tryz.prog.globals.size).take ((begin Tryz.prog (fun _ _ => 0) default).world.heap.size - Tryz.prog.globals.size) = (begin Tryz.prog (fun _ _ => 0) default).world.heap.toList.drop Tryz.prog.globals.size := by kernel_rfl
set_option maxRecDepth 1000000 in
theorem wit3x6 (os : Os) : Input.okWideB Tryz.prog ((({ World.holding Tryz.prog os ⟨#[], #[], []⟩ with heap := (World.holding Tryz.prog os ⟨#[], #[], []⟩).heap.modify 2 fun | .cells _ t frozen => .cells #[.iface 193 (.agg #[.pointer (some ⟨29, 65, none⟩)])] t frozen | o => o } : World).layVars Tryz.prog plainLaid).forCall (fun _ _ => 0) ⟨#[], #[.slice none 0 0, .int .i64 0, .int .i64 0], []⟩) 5 ⟨#[], #[.slice none 0 0, .int .i64 0, .int .i64 0], []⟩ = true := by kernel_rfl
set_option maxRecDepth 1000000 in
theorem wit4x6 (os : Os) (H : Type) (enc : TypeId × Value → H) : Rows.sixesSpec.preB enc Tryz.prog Tryz.f5 Rows.sixesRow.domain false ((({ World.holding Tryz.prog os ⟨#[], #[], []⟩ with heap := (World.holding Tryz.prog os ⟨#[], #[], []⟩).heap.modify 2 fun | .cells _ t frozen => .cells #[.iface 193 (.agg #[.pointer (some ⟨29, 65, none⟩)])] t frozen | o => o } : World).layVars Tryz.prog plainLaid).forCall (fun _ _ => 0) ⟨#[], #[.slice none 0 0, .int .i64 0, .int .i64 0], []⟩).memory #[.slice none 0 0, .int .i64 0, .int .i64 0] 8 = true := by kernel_rfl
set_option maxRecDepth 1000000 in
theorem wit5x6 (os : Os) (H : Type) (enc : TypeId × Value → H) : Rows.sixesSpec.sizedB enc Tryz.prog Tryz.f5 false ((({ World.holding Tryz.prog os ⟨#[], #[], []⟩ with heap := (World.holding Tryz.prog os ⟨#[], #[], []⟩).heap.modify 2 fun | .cells _ t frozen => .cells #[.iface 193 (.agg #[.pointer (some ⟨29, 65, none⟩)])] t frozen | o => o } : World).layVars Tryz.prog plainLaid).forCall (fun _ _ => 0) ⟨#[], #[.slice none 0 0, .int .i64 0, .int .i64 0], []⟩).memory #[.slice none 0 0, .int .i64 0, .int .i64 0] 8 = true := by kernel_rfl

set_option maxRecDepth 1000000 in
theorem lifted6 (os : Os) (started : os.Started) (H : Type) (enc : TypeId × Value → H) (F : Stop.Interp) :
    ReturnsInHanded {} Tryz.checked os 5 .any ((OpenSpec.ofChange Rows.sixesSpec).preRow enc Tryz.prog Tryz.f5 Rows.sixesRow.domain false Rows.sixesRow.laid) (((OpenSpec.ofChange Rows.sixesSpec).at F).post enc Tryz.prog Tryz.f5 false true false false) := by
  refine returnsInHanded_of_row (C := Tryz.checked) (s := OpenSpec.ofChange Rows.sixesSpec) own6 started (by kernel_rfl) Tryz.func5
    (ChangeSpec.witness_shaped (enc := enc) (C := Tryz.checked) (os := os) (X := fun w _ => laidMetH Tryz.prog Rows.sixesRow.laid w) false (({ World.holding Tryz.prog os ⟨#[], #[], []⟩ with heap := (World.holding Tryz.prog os ⟨#[], #[], []⟩).heap.modify 2 fun | .cells _ t frozen => .cells #[.iface 193 (.agg #[.pointer (some ⟨29, 65, none⟩)])] t frozen | o => o } : World).layVars Tryz.prog plainLaid) #[.slice none 0 0, .int .i64 0, .int .i64 0] 8 (World.layVars_os _ _ _)
      (World.shaped_of_ZipB (wit1x6 os) (wit2x6 os)) (wit3x6 os) (wit4x6 os H enc) (wit5x6 os H enc) (met6 os _)) ?_
  intro W base args ds gs before hval hW _ _ _ hL hsh _
  exact contract6 H enc W base args ds gs before hval hW hL hsh

set_option maxRecDepth 1000000 in
theorem sfa6 : Tryz.pinned.checked.prog.funcNamed Rows.sixesRow.func = some 5 := by kernel_rfl
set_option maxRecDepth 1000000 in
theorem sfb6 : joinedFacts Tryz.pinned.checked.prog 5 Tryz.f5 (OpenSpec.ofChange Rows.sixesSpec).bare Rows.sixesRow = true := by kernel_rfl
set_option maxRecDepth 1000000 in
theorem sfc6 : Tryz.f5.isInstance Tryz.pinned.checked.prog Rows.sixesRow.origin Rows.sixesRow.targs := of_decide_eq_true (by kernel_rfl)
set_option maxRecDepth 1000000 in
theorem sfd6 : Tryz.f5.isWrapper Tryz.pinned.checked.prog Rows.sixesRow.wrapper Rows.sixesRow.mainSum := by unfold Func.isWrapper; first | (rw [if_pos (by decide +kernel)]; kernel_rfl) | (rw [if_neg (by decide +kernel)]; exact ⟨rfl, rfl⟩)
theorem said6 : Rows.SixesSaid :=
  OpenClaim.holds_of_cond 5 Tryz.f5 rfl rfl rfl rfl rfl rfl rfl ⟨rfl, rfl, rfl, rfl, rfl⟩ rfl rfl rfl rfl rfl sfa6 Tryz.func5 sfb6 sfc6 sfd6
    (fun os started H enc _ F => by rw [OpenClaim.pre_eq_preRow]; exact lifted6 os started H enc F)

theorem plain6 (f : FuncId) (fn : Func) (hf : Tryz.pinned.checked.prog.funcNamed Tryz.f5.name = some f) (hfn : Tryz.pinned.checked.prog.funcs[f]? = some fn) :
    true = Tryz.pinned.checked.prog.looks [] ∧ ∀ (j : Nat) t, fn.params[j]? = some t → Tryz.pinned.checked.prog.wantsStandIn t = false := by
  obtain rfl : f = 5 := Option.some.inj ((show Tryz.prog.funcNamed Tryz.f5.name = some 5 by kernel_rfl).symm.trans hf) |>.symm
  obtain rfl : fn = Tryz.f5 := (Option.some.inj (Tryz.func5.symm.trans hfn)).symm
  refine ⟨by kernel_rfl, fun j t ht => ?_⟩
  rw [Tryz.params5] at ht
  have hm : t ∈ [33, 3] := by simpa using Array.mem_of_getElem? ht
  have hall : ([33, 3].all fun u => !Tryz.prog.wantsStandIn u) = true := by kernel_rfl
  exact (show Tryz.prog.wantsStandIn t = false by simpa using List.all_eq_true.1 hall t hm)

/-- The card. -/
theorem sixes_card : Rows.SixesCardSaid :=
  Claim7.holds_tied_plain_at .later [] _ _ _ _ said6 (fun _ h => by cases h) (by kernel_rfl) (fun _ h => by cases h) sixes_row_tie rfl ⟨rfl, rfl⟩ (by kernel_rfl) rfl plain6 (by kernel_rfl)
#print axioms sixes_card
end Go.Proofs.YtkcnageeamappaaGreatDoor
