/-
  What host.longestNoughts answers.
-/
import Derived.Test.YtkcnageeamappaaGreatDoorSTell
namespace Go.Proofs
open Go.RowKit Go.Moor

theorem Tryz.index8 (cs : Array Value) (q : Nat) (v : Value) (hq : q < 8) (h : cs[q]? = some v) (w : World) : (Instr.index 177 (.agg cs) (.int .i64 q)).run Tryz.prog w = .ok v w := by
  simp [Instr.index, asIntOf, run_underlying Tryz.underlying177, run_underlying Tryz.underlying151, part, isAgg, h, hq]

set_option maxHeartbeats 4000000 in
set_option maxRecDepth 100000 in
theorem Tryz.longest_any (ps : List Nat) (w : World) (h8 : ps.length = 8) (hps : ∀ p ∈ ps, p < 65536) :
    Calls Tryz.prog 195 #[.agg (nats8 ps)] w fun e w' => e = .returned (.tuple #[.int .i64 ((noughts ps 0 0 0 0).1 : Nat), .int .i64 ((noughts ps 0 0 0 0).2 : Nat)]) ∧ Below w.heap.size w w' := by
  have HS : Hid (∀ p ∈ ps, p < 65536) := hps
  have HSZ : Hid ((Tryz.prog.info? 177).map (·.size) = some (nats8 ps).size) := by
    show _ = _
    rw [nats8_size, h8]; exact Tryz.size8
  have HL : Hid (ps.length = 8) := h8
  have HN : Hid ((w.alloc (.cells (nats8 ps) 177)).heap[w.heap.size]? = some (.cells (nats8 ps) 177 (0, 0))) := heap_alloc_new w _
  generalize hgo : noughts ps 0 0 0 0 = goal
  have HG : Hid (noughts ps 0 0 0 0 = goal) := hgo
  clear hps h8 hgo
  go_enter Tryz.func195, Tryz.ntmps195
  go_wp2_with (first | refine wpList_load_row rfl 177 _ rfl w.heap.size rfl 177 (nats8 ps) (0, 0) _ HN.out Tryz.underlying177 rfl HSZ.out ?_)
  go_loop [2, 3, 4, 8] (fun s l r i => ∃ si li ri q : Nat, s = .int .i64 si ∧ l = .int .i64 li ∧ r = .int .i64 ri ∧ i = .int .i64 q ∧ q ≤ 8 ∧ ri ≤ q ∧ li ≤ 8 ∧ si ≤ 8 ∧ noughts (ps.drop q) q ri si li = goal) (fun _ _ _ i => 8 - (intOf i).toNat)
  case atStart => exact ⟨0, 0, 0, 0, rfl, rfl, rfl, rfl, by omega, by omega, by omega, by omega, HG.out⟩
  case round =>
    obtain ⟨si, li, ri, q, rfl, rfl, rfl, rfl, hq, hri, hli, hsi, hrest⟩ := hrel
    have HR : Hid (noughts (ps.drop q) q ri si li = goal) := hrest
    clear hrest
    by_cases hlt : q < 8
    · obtain ⟨x, hx⟩ : ∃ x, ps[q]? = some x := ⟨ps[q]'(by have := HL.out; omega), by simp⟩
      have hix := nats8_at ps q x hx
      have hrun := Tryz.index8 (nats8 ps) q _ hlt hix (w.alloc (.cells (nats8 ps) 177))
      clear hix
      have hxm := HS.out x (List.mem_of_getElem? hx)
      have HD : Hid (ps.drop q = x :: ps.drop (q + 1)) := by
        obtain ⟨h1, h2⟩ := List.getElem?_eq_some_iff.1 hx
        show _ = _
        rw [List.drop_eq_getElem_cons h1, h2]
      clear hx
      by_cases hx0 : x = 0
      · subst hx0
        by_cases hgt : li < ri + 1
        · go_wp2
          go_round
          case rel =>
            refine ⟨q - ri, ri + 1, ri + 1, q + 1, ?_, by go_num, by go_num, by go_num, by omega, by omega, by omega, by omega, ?_⟩
            · congr 1
              omega
            · have h1 := HR.out
              rw [HD.out] at h1
              unfold noughts at h1
              rw [if_neg (by simp), if_pos hgt] at h1
              exact h1
          case measure => simp [intOf]; omega
        · go_wp2
          go_round
          case rel =>
            refine ⟨si, li, ri + 1, q + 1, rfl, rfl, by go_num, by go_num, by omega, by omega, by omega, by omega, ?_⟩
            have h1 := HR.out
            rw [HD.out] at h1
            unfold noughts at h1
            rw [if_neg (by simp), if_neg hgt] at h1
            exact h1
          case measure => simp [intOf]; omega
      · go_wp2
        go_round
        case rel =>
          refine ⟨si, li, 0, q + 1, rfl, rfl, rfl, by go_num, by omega, by omega, by omega, by omega, ?_⟩
          have h1 := HR.out
          rw [HD.out] at h1
          unfold noughts at h1
          rw [if_pos hx0] at h1
          exact h1
        case measure => simp [intOf]; omega
    · go_wp2
      go_ret2
      have h1 := HR.out
      rw [List.drop_eq_nil_of_le (by have := HL.out; omega)] at h1
      refine ⟨?_, (Below.refl _ w).alloc (Nat.le_refl _) _⟩
      rw [← h1]
      rfl
end Go.Proofs
