/-
  What fields.readText, readPair, tellText and escape.Pair answer.
-/
import Derived.Test.YtkcnageeamappaaDoorPRow
import Derived.Test.YtkcnageeamappaaDoorPPlain
import Derived.Test.YtkcnageeamappaaDoorShelfC
import Derived.Test.YtkcnageeamappaaDoorABridge
import Derived.Deep.AppendLies
namespace Go.Proofs
open Go.RowKit Go.Moor

/-- What the variables hold that pairs are read and told by. -/
structure Tryd.EnvP (w : World) : Prop where
  sets : Tryd.Sets w
  pair : ∀ k, k < 4 → w.cell? ⟨1, k, none⟩ = some (.int .u64 (pairWs.getD k 0))
  maxLen : ∃ m, w.cell? ⟨2, 0, none⟩ = some (.int .i64 m)
  size : 5 ≤ w.heap.size
theorem Tryd.EnvP.below {w w' : World} (h : Tryd.EnvP w) (hb : Below w.heap.size w w') : Tryd.EnvP w' := by
  have hz := h.size
  refine ⟨fun k hk => ?_, fun k hk => ?_, ?_, Nat.le_trans hz hb.size⟩
  · exact (hb.cell (p := ⟨0, k, none⟩) (show 0 < w.heap.size by omega)).trans (h.sets k hk)
  · exact (hb.cell (p := ⟨1, k, none⟩) (show 1 < w.heap.size by omega)).trans (h.pair k hk)
  · obtain ⟨m, hm⟩ := h.maxLen
    exact ⟨m, (hb.cell (p := ⟨2, 0, none⟩) (show 2 < w.heap.size by omega)).trans hm⟩

theorem countP_le (s old : ByteArray) : Lib.countB s old ≤ s.size + 1 := by
  unfold Lib.countB Lib.count
  rw [Lib.size_eq]
  exact countFrom_le _ _ _

theorem plus_swap (l : Bs) : Lib.replaceAll l [43] [32] = plusBlank l := by
  rw [replaceAll_one]
  unfold plusBlank
  induction l with
  | nil => rfl
  | cons b l ih =>
    rw [List.flatMap_cons, ih, List.map_cons]
    unfold swapB
    by_cases h : b = 43
    · rw [if_pos h, if_pos h]; rfl
    · rw [if_neg h, if_neg h]; rfl
theorem plusBlank_len (l : Bs) : (plusBlank l).length = l.length := by unfold plusBlank; simp

set_option maxHeartbeats 1000000 in
theorem Tryd.readText_any (t : Bs) (w : World) (ht : t.length ≤ 100000) (henv : Tryd.EnvP w) :
    Calls Tryd.prog 37 #[.string ⟨t.toArray⟩] w fun e w' => e = .returned (.string ⟨(readText t).toArray⟩) ∧ Below w.heap.size w w' := by
  obtain ⟨m, hm⟩ := henv.maxLen
  have hz : (⟨t.toArray⟩ : ByteArray).size = t.length := size_mk t
  have hcn := countP_le ⟨t.toArray⟩ ⟨#[43]⟩
  have HR : Hid (Calls Tryd.prog 33 #[.string ⟨t.toArray⟩, .string ⟨#[43]⟩, .string ⟨#[32]⟩] w fun e w' => e = .returned (.string ⟨(plusBlank t).toArray⟩) ∧ Below w.heap.size w w') := by
    have h := Tryd.strings_ReplaceAll ⟨t.toArray⟩ ⟨#[43]⟩ ⟨#[32]⟩ m w (by omega) hm (by decide) (by show _ + _ * 1 ≤ _; omega)
    have e1 : Lib.replaceAll (⟨t.toArray⟩ : ByteArray).data.toList (⟨#[43]⟩ : ByteArray).data.toList (⟨#[32]⟩ : ByteArray).data.toList = plusBlank t := plus_swap t
    rw [e1] at h
    exact h
  have HU : Hid (∀ w1, Below w.heap.size w w1 → Calls Tryd.prog 12 #[.string ⟨(plusBlank t).toArray⟩] w1 fun e w' => e = .returned (.string ⟨(readText t).toArray⟩) ∧ Below w.heap.size w w') := by
    intro w1 h1
    obtain ⟨m1, hm1⟩ := (henv.below h1).maxLen
    refine (Tryd.undo_any ⟨(plusBlank t).toArray⟩ m1 w1 (by rw [size_mk, plusBlank_len]; omega) hm1 (by have := (henv.below h1).size; omega)).mono ?_
    rintro e w' ⟨rfl, hb⟩
    exact ⟨rfl, h1.trans (hb.mono h1.size)⟩
  generalize (⟨(readText t).toArray⟩ : ByteArray) = r at *
  generalize (⟨(plusBlank t).toArray⟩ : ByteArray) = p at *
  generalize (⟨t.toArray⟩ : ByteArray) = tb at *
  clear ht henv hm hcn hz
  go_enter Tryd.func37, Tryd.ntmps37
  go_wp2_with fail
  refine HR.out.mono ?_
  rintro e w1 ⟨rfl, b1⟩
  go_wp2_with fail
  refine (HU.out w1 b1).mono ?_
  rintro e w2 ⟨rfl, b2⟩
  go_wp2
  go_ret
  exact ⟨rfl, b2⟩

theorem cutOpt_short (c : UInt8) (l : Bs) : (cutOpt c l).1.length ≤ l.length ∧ ((cutOpt c l).2.getD []).length ≤ l.length := by
  have hb : ∀ (l a b : Bs), cutB c l = some (a, b) → a.length ≤ l.length ∧ b.length ≤ l.length := by
    intro l
    induction l with
    | nil => intro a b h; simp [cutB] at h
    | cons x l ih =>
      intro a b h
      unfold cutB at h
      split at h
      · simp only [Option.some.injEq, Prod.mk.injEq] at h
        obtain ⟨rfl, rfl⟩ := h
        simp
      · cases hc : cutB c l with
        | none => rw [hc] at h; simp at h
        | some p =>
          rw [hc] at h
          simp only [Option.map_some, Option.some.injEq, Prod.mk.injEq] at h
          have := ih p.1 p.2 hc
          obtain ⟨rfl, rfl⟩ := h
          simp only [List.length_cons]
          omega
  unfold cutOpt
  cases h : cutB c l with
  | none => simp
  | some p =>
    have := hb l p.1 p.2 h
    exact this
theorem Tryd.sizePair : (Tryd.prog.info? 30).map (·.size) = some 2 := by kernel_rfl
set_option maxHeartbeats 1000000 in
theorem Tryd.readPair_any (p : Bs) (w : World) (hp : p.length ≤ 100000) (henv : Tryd.EnvP w) :
    Calls Tryd.prog 28 #[.string ⟨p.toArray⟩] w fun e w' => e = .returned (.agg #[.string ⟨(readPair p).1.toArray⟩, .string ⟨(readPair p).2.toArray⟩]) ∧ Below w.heap.size w w' := by
  obtain ⟨W, hW⟩ : ∃ W, W = w.alloc (.cells #[.string ⟨#[]⟩, .string ⟨#[]⟩] 30) := ⟨_, rfl⟩
  have hBW : Below w.heap.size w W := by
    rw [hW]
    exact (Below.refl _ _).alloc (Nat.le_refl _) _
  have hsize : W.heap.size = w.heap.size + 1 := by rw [hW]; simp
  have hz0 : W.heap[w.heap.size]? = some (.cells #[.string ⟨#[]⟩, .string ⟨#[]⟩] 30 (0, 0)) := by
    rw [hW]
    exact heap_alloc_new w _
  have HZ : Hid (∀ w1, Below W.heap.size W w1 → w1.heap[w.heap.size]? = some (.cells #[.string ⟨#[]⟩, .string ⟨#[]⟩] 30 (0, 0))) := fun w1 h1 => (h1.block w.heap.size (by omega)).trans hz0
  have HBW : Hid (∀ w1, Below W.heap.size W w1 → Below w.heap.size w w1) := fun w1 h1 => hBW.trans (h1.mono (by omega))
  have hcl := cutOpt_short 61 p
  have HC : Hid (Calls Tryd.prog 19 #[.string ⟨p.toArray⟩, .string ⟨#[61]⟩] W fun e w' => e = .returned (.tuple #[.string ⟨(cutOpt 61 p).1.toArray⟩, .string ⟨((cutOpt 61 p).2.getD []).toArray⟩, .bool (cutOpt 61 p).2.isSome]) ∧ Below W.heap.size W w') := by
    obtain ⟨m, hm⟩ := (henv.below hBW).maxLen
    refine (Tryd.strings_Cut ⟨p.toArray⟩ ⟨#[61]⟩ m W (by rw [size_mk]; omega) hm).mono ?_
    rintro e w' ⟨rfl, n, rfl⟩
    refine ⟨?_, Go.below_drewN (Below.refl _ _) n⟩
    have e1 : Lib.cut (⟨p.toArray⟩ : ByteArray).data.toList (⟨#[61]⟩ : ByteArray).data.toList = ((cutOpt 61 p).1, (cutOpt 61 p).2.getD [], (cutOpt 61 p).2.isSome) := cutOpt_cut 61 p
    rw [e1]
  have HR : Hid (∀ (t : Bs) w1, t.length ≤ 100000 → Below W.heap.size W w1 → Calls Tryd.prog 37 #[.string ⟨t.toArray⟩] w1 fun e w' => e = .returned (.string ⟨(readText t).toArray⟩) ∧ Below W.heap.size W w') := by
    intro t w1 ht h1
    refine (Tryd.readText_any t w1 ht ((henv.below hBW).below h1)).mono ?_
    rintro e w' ⟨rfl, hb⟩
    exact ⟨rfl, h1.trans (hb.mono h1.size)⟩
  have HR1 : Hid (∀ w1, Below W.heap.size W w1 → Calls Tryd.prog 37 #[.string ⟨(cutOpt 61 p).1.toArray⟩] w1 fun e w' => e = .returned (.string ⟨(readPair p).1.toArray⟩) ∧ Below W.heap.size W w') := fun w1 h1 => HR.out _ w1 (by omega) h1
  have HR2 : Hid (∀ w1, Below W.heap.size W w1 → Calls Tryd.prog 37 #[.string ⟨((cutOpt 61 p).2.getD []).toArray⟩] w1 fun e w' => e = .returned (.string ⟨(readPair p).2.toArray⟩) ∧ Below W.heap.size W w') := fun w1 h1 => HR.out _ w1 (by omega) h1
  generalize (⟨(readPair p).1.toArray⟩ : ByteArray) = r1 at *
  generalize (⟨(readPair p).2.toArray⟩ : ByteArray) = r2 at *
  generalize (⟨(cutOpt 61 p).1.toArray⟩ : ByteArray) = x1 at *
  generalize (⟨((cutOpt 61 p).2.getD []).toArray⟩ : ByteArray) = x2 at *
  generalize (cutOpt 61 p).2.isSome = x3 at *
  generalize (⟨p.toArray⟩ : ByteArray) = pb at *
  clear hp henv hcl HR hz0 hBW hsize
  go_enter Tryd.func28, Tryd.ntmps28
  go_upto_region 1 with fail
  rw [← hW]
  clear hW
  go_wp2_with fail
  refine HC.out.mono ?_
  rintro e w1 ⟨rfl, b1⟩
  go_wp2_with fail
  refine (HR1.out w1 b1).mono ?_
  rintro e w2 ⟨rfl, b2⟩
  go_wp2_with fail
  refine (HR2.out w2 b2).mono ?_
  rintro e w3 ⟨rfl, b3⟩
  have HB3 : Hid (Below W.heap.size W w3) := b3
  have hz := HZ.out w3 b3
  have HZ3 : Hid (w3.heap[w.heap.size]? = some (.cells #[.string ⟨#[]⟩, .string ⟨#[]⟩] 30 (0, 0))) := hz
  have d0 : w3.cell? ⟨w.heap.size, 0, none⟩ = some (.string ⟨#[]⟩) := by rw [World.cell?]; simp [hz]
  have d1 : w3.cell? ⟨w.heap.size, 1, none⟩ = some (.string ⟨#[]⟩) := by rw [World.cell?]; simp [hz]
  have f0 : w3.frozen? ⟨w.heap.size, 0, none⟩ = false := by unfold World.frozen?; simp [hz]
  have f1 : w3.frozen? ⟨w.heap.size, 1, none⟩ = false := by unfold World.frozen?; simp [hz]
  clear b1 b2 b3 hz
  go_wp2
  have h2 := heap_setCell_same _ w.heap.size 1 _ 30 (.string r2) (heap_setCell_same w3 w.heap.size 0 _ 30 (.string r1) HZ3.out)
  refine bodyPost_ret (v := .agg #[.string r1, .string r2]) (results_cell_row rfl _ _ w.heap.size 30 _ (0, 0) _ rfl h2 Tryd.underlying30 rfl Tryd.sizePair) rfl ⟨rfl, ((HBW.out w3 HB3.out).setCell (Nat.le_refl _) _).setCell (Nat.le_refl _) _⟩

theorem escW_len (ws : List Int) (l : Bs) : (escW ws l).length ≤ 3 * l.length := by
  induction l with
  | nil => simp [escW]
  | cons c l ih =>
    have h1 : (escW1 ws c).length ≤ 3 := by unfold escW1; split <;> simp
    have h2 : escW ws (c :: l) = escW1 ws c ++ escW ws l := by simp [escW]
    rw [h2, List.length_append, List.length_cons]
    omega
set_option maxHeartbeats 1000000 in
theorem Tryd.pair_any (t : Bs) (w : World) (ht : t.length ≤ 100000) (henv : Tryd.EnvP w) :
    Calls Tryd.prog 34 #[.string ⟨t.toArray⟩] w fun e w' => e = .returned (.string ⟨(escW pairWs t).toArray⟩) ∧ Below w.heap.size w w' := by
  have HE : Hid (Calls Tryd.prog 18 #[.agg #[.int .u64 18158685221371772927, .int .u64 17870283327714361345, .int .u64 18446744073709551615, .int .u64 18446744073709551615], .string ⟨t.toArray⟩] w fun e w' => e = .returned (.string ⟨(escW pairWs t).toArray⟩) ∧ Below w.heap.size w w') := Tryd.setEscape_any ⟨t.toArray⟩ pairWs ⟨_, _, _, _, rfl⟩ w (by rw [size_mk]; omega)
  have c0 : w.cell? ⟨1, 0, none⟩ = some (.int .u64 18158685221371772927) := henv.pair 0 (by omega)
  have c1 : w.cell? ⟨1, 1, none⟩ = some (.int .u64 17870283327714361345) := henv.pair 1 (by omega)
  have c2 : w.cell? ⟨1, 2, none⟩ = some (.int .u64 18446744073709551615) := henv.pair 2 (by omega)
  have c3 : w.cell? ⟨1, 3, none⟩ = some (.int .u64 18446744073709551615) := henv.pair 3 (by omega)
  generalize (⟨(escW pairWs t).toArray⟩ : ByteArray) = r at *
  generalize (⟨t.toArray⟩ : ByteArray) = tb at *
  clear ht henv
  go_enter Tryd.func34, Tryd.ntmps34
  go_wp2_with fail
  refine HE.out.mono ?_
  rintro e w1 ⟨rfl, b1⟩
  go_wp2
  go_ret
  exact ⟨rfl, b1⟩

set_option maxHeartbeats 1000000 in
theorem Tryd.tellText_any (t : Bs) (w : World) (ht : t.length ≤ 10000) (henv : Tryd.EnvP w) :
    Calls Tryd.prog 25 #[.string ⟨t.toArray⟩] w fun e w' => e = .returned (.string ⟨(pairTell t).toArray⟩) ∧ Below w.heap.size w w' := by
  have HP : Hid (Calls Tryd.prog 34 #[.string ⟨t.toArray⟩] w fun e w' => e = .returned (.string ⟨(escW pairWs t).toArray⟩) ∧ Below w.heap.size w w') := Tryd.pair_any t w (by omega) henv
  have hl := escW_len pairWs t
  have HR : Hid (∀ w1, Below w.heap.size w w1 → Calls Tryd.prog 33 #[.string ⟨(escW pairWs t).toArray⟩, .string ⟨#[37, 50, 48]⟩, .string ⟨#[43]⟩] w1 fun e w' => e = .returned (.string ⟨(pairTell t).toArray⟩) ∧ Below w.heap.size w w') := by
    intro w1 h1
    obtain ⟨m, hm⟩ := (henv.below h1).maxLen
    have hz : (⟨(escW pairWs t).toArray⟩ : ByteArray).size = (escW pairWs t).length := size_mk _
    have hcn := countP_le ⟨(escW pairWs t).toArray⟩ ⟨#[37, 50, 48]⟩
    have h := Tryd.strings_ReplaceAll ⟨(escW pairWs t).toArray⟩ ⟨#[37, 50, 48]⟩ ⟨#[43]⟩ m w1 (by omega) hm (by decide) (by show _ + _ * 1 ≤ _; omega)
    have e1 : Lib.replaceAll (⟨(escW pairWs t).toArray⟩ : ByteArray).data.toList (⟨#[37, 50, 48]⟩ : ByteArray).data.toList (⟨#[43]⟩ : ByteArray).data.toList = pairTell t := replaceAll_pair t
    rw [e1] at h
    refine h.mono ?_
    rintro e w' ⟨rfl, hb⟩
    exact ⟨rfl, h1.trans (hb.mono h1.size)⟩
  generalize (⟨(pairTell t).toArray⟩ : ByteArray) = r at *
  generalize (⟨(escW pairWs t).toArray⟩ : ByteArray) = x at *
  generalize (⟨t.toArray⟩ : ByteArray) = tb at *
  clear ht henv hl
  go_enter Tryd.func25, Tryd.ntmps25
  go_wp2_with fail
  refine HP.out.mono ?_
  rintro e w1 ⟨rfl, b1⟩
  go_wp2_with fail
  refine (HR.out w1 b1).mono ?_
  rintro e w2 ⟨rfl, b2⟩
  go_wp2
  go_ret
  exact ⟨rfl, b2⟩
end Go.Proofs
