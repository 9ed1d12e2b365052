/-
  What host.readDotted, host.splitPieces and host.readLastPieces answer.
-/
import Derived.Test.YtkcnageeamappaaGreatDoorSPieces
namespace Go.Proofs
open Go.RowKit Go.Moor

set_option maxHeartbeats 2000000 in
theorem Tryz.readDotted_any (s : ByteArray) (w : World) (hs : s.size < 4294967281) (henv : Tryz.Env w) :
    Calls Tryz.prog 231 #[.string s] w fun e w' => NumRes (sixDotted s.data.toList) e ∧ Below w.heap.size w w' := by
  obtain ⟨m, hm⟩ := henv.maxLen
  have HM : Hid (w.cell? ⟨16, 0, none⟩ = some (.int .i64 m)) := hm
  have HV : Hid (Tryz.Env w) := henv
  clear hm henv
  generalize hgo : sixDotted s.data.toList = goal
  have HGO : Hid (sixDotted s.data.toList = goal) := hgo
  clear hgo
  go_enter Tryz.func231, Tryz.ntmps231
  go_wp2_with fail
  refine (Tryz.split_any s 46 m _ hs HM.out).mono ?_
  rintro e w0 ⟨xs, hxs, rfl, hw0⟩
  obtain ⟨w1, hw1⟩ : ∃ w1, w1 = w0 := ⟨_, rfl⟩
  have HB : Hid (Below w.heap.size w w1) := by rw [hw1, hw0]; exact (Below.refl _ w).alloc (Nat.le_refl _) _
  have HC : Hid (∀ (j : Nat) x, xs[j]? = some x → w1.cell? ⟨w.heap.size, j, none⟩ = some (.string x)) := by rw [hw1, hw0]; exact row_cells w xs 9
  have HX : Hid (xs.map (·.data.toList) = splitOn 46 s.data.toList) := hxs
  have HS : Hid (∀ x ∈ xs, x.size ≤ maxLen) := by
    intro x hx
    have := splitOn_mem 46 s.data.toList x.data.toList (by rw [← hxs]; exact List.mem_map.2 ⟨x, hx, rfl⟩)
    simp at this
    unfold maxLen; omega
  have hlen : xs.length ≤ s.size + 1 := by
    have := splitOn_len 46 s.data.toList
    rw [← hxs] at this
    simpa using this
  rw [← hw1]
  clear hw1 hw0 hxs
  have HV1 : Hid (Tryz.Env w1) := HV.out.below HB.out
  by_cases h4 : xs.length = 4
  · have HL : Hid (sixDotted s.data.toList = dotAcc 0 (xs.map (·.data.toList))) := by
      show _ = _
      unfold sixDotted
      rw [← HX.out, if_pos (by simpa using h4)]
    have HG : Hid (dotAcc 0 (xs.map (·.data.toList)) = goal) := HL.out.symm.trans HGO.out
    go_wp2
    go_loopw [5, 18] (fun t i wr => ∃ (q nd : Nat) (a : Int), q ≤ 4 ∧ i = .int .i64 q ∧ t = .int .u64 a ∧ 0 ≤ a ∧ a < 256 ^ q ∧ dotAcc a ((xs.map (·.data.toList)).drop q) = goal ∧ wr = w1.drewN nd) (fun _ i _ => 4 - (intOf i).toNat)
    case atStart => exact ⟨0, 0, 0, by omega, rfl, rfl, by omega, by omega, HG.out, rfl⟩
    case round =>
      obtain ⟨q, nd, a, hq, rfl, rfl, ha0, ha1, hfr, rfl⟩ := hrel
      have HF : Hid (dotAcc a ((xs.map (·.data.toList)).drop q) = goal) := hfr
      have HA1 : Hid (a < 256 ^ q) := ha1
      clear hfr ha1
      by_cases hlt : q < 4
      · have ha2 : a < 16777216 := Int.lt_of_lt_of_le HA1.out (by
          have : q = 0 ∨ q = 1 ∨ q = 2 ∨ q = 3 := by omega
          rcases this with rfl | rfl | rfl | rfl <;> decide)
        obtain ⟨x, hx⟩ : ∃ x, xs[q]? = some x := ⟨xs[q]'(by omega), by simp⟩
        have hc := HC.out q x hx
        have hxm := HS.out x (List.mem_of_getElem? hx)
        have HST : Hid (dotAcc a ((xs.map (·.data.toList)).drop q) = (match plainDec x.data.toList with | some n => dotAcc (a * 256 + n) ((xs.map (·.data.toList)).drop (q + 1)) | none => none)) := dotAcc_step xs q x a hx
        have HVn : Hid (Tryz.Env (w1.drewN nd)) := HV1.out.drew nd
        clear hx
        cases ho : plainDec x.data.toList with
        | none =>
          have HO : Hid (plainDec x.data.toList = none) := ho
          clear ho
          go_wp2_with fail
          refine (Tryz.readDecimal_any x _ hxm HVn.out.eGreat HVn.out.eEmpty HVn.out.eNought).mono ?_
          rw [HO.out]
          rintro e w2 ⟨⟨te, ve, rfl⟩, nd2, rfl⟩
          go_wp2
          go_ret2
          refine ⟨?_, Go.below_drewN HB.out _⟩
          have h1 := HF.out
          rw [HST.out, HO.out] at h1
          rw [← h1]
          exact ⟨_, _, rfl⟩
        | some n =>
          have HO : Hid (plainDec x.data.toList = some n) := ho
          have hnr := plainDec_range _ n ho
          clear ho
          have HJ : Hid (bits .or .u64 (a * 256) n = a * 256 + n) := or_join a n 8 256 rfl (by omega) ha0 ha2 hnr.1 (by omega)
          go_wp2_with fail
          refine (Tryz.readDecimal_any x _ hxm HVn.out.eGreat HVn.out.eEmpty HVn.out.eNought).mono ?_
          rw [HO.out]
          rintro e w2 ⟨rfl, nd2, rfl⟩
          go_wp2
          go_roundw
          case rel =>
            refine ⟨q + 1, nd + nd2, a * 256 + n, by omega, by go_num, by rw [HJ.out], by omega, ?_, ?_, rfl⟩
            · have h1 := HA1.out
              rw [Int.pow_succ]
              generalize (256 : Int) ^ q = P at h1 ⊢
              omega
            · have h1 := HF.out
              rw [HST.out, HO.out] at h1
              exact h1
          case measure => simp [intOf]; omega
      · go_wp2
        go_ret2
        refine ⟨?_, Go.below_drewN HB.out _⟩
        have h1 := HF.out
        rw [List.drop_eq_nil_of_le (by simp; omega)] at h1
        rw [← h1]
        rfl
  · have HL : Hid (sixDotted s.data.toList = none) := by
      show _ = _
      unfold sixDotted
      rw [← HX.out, if_neg (by simpa using h4)]
    have h4b : ((xs.length : Int) == 4) = false := by
      rw [beq_eq_false_iff_ne]; omega
    obtain ⟨te, ve, hce⟩ := HV1.out.eCount
    go_wp2
    go_quiet (fail)
    go_wp2
    go_ret2
    refine ⟨?_, Go.below_drewN HB.out _⟩
    rw [← HGO.out, HL.out]
    exact ⟨_, _, rfl⟩

/-- A row of strings: nil, or a block that the call made. -/
def Tryz.PieceRow (B : Nat) (w' : World) (ls : List (List UInt8)) (v : Value) : Prop :=
  (ls = [] ∧ v = .slice none 0 0) ∨ ∃ xs : List ByteArray, xs.map (·.data.toList) = ls ∧ xs ≠ [] ∧ xs.length ≤ 4294967282 ∧ v = .slice (some ⟨B, 0, none⟩) xs.length xs.length ∧ (∀ (j : Nat) x, xs[j]? = some x → w'.cell? ⟨B, j, none⟩ = some (.string x)) ∧ B < w'.heap.size ∧ ∀ x ∈ xs, x.size < 4294967281

set_option maxHeartbeats 1000000 in
theorem Tryz.splitPieces_any (s : ByteArray) (m : Int) (w : World) (hs : s.size < 4294967281) (hm : w.cell? ⟨16, 0, none⟩ = some (.int .i64 m)) :
    Calls Tryz.prog 192 #[.string s] w fun e w' => (∃ v, e = .returned v ∧ Tryz.PieceRow w.heap.size w' (sixSplit s.data.toList) v) ∧ Below w.heap.size w w' := by
  by_cases hem : s.toList.isEmpty = true
  · have he : s.data.toList = [] := by rw [Lib.toList_data] at hem; simpa using hem
    refine (Tryz.splitPieces_empty s w hem).mono ?_
    rintro e w' ⟨rfl, rfl⟩
    exact ⟨⟨_, rfl, Or.inl ⟨by unfold sixSplit; rw [if_pos he], rfl⟩⟩, Below.refl _ _⟩
  · have HM : Hid (w.cell? ⟨16, 0, none⟩ = some (.int .i64 m)) := hm
    have hem2 : s.toList.isEmpty = false := Bool.eq_false_iff.2 hem
    have HE : Hid (s.data.toList ≠ []) := by rw [Lib.toList_data] at hem; show _ ≠ _; simpa using hem
    clear hm hem
    go_enter Tryz.func192, Tryz.ntmps192
    go_wp2_with fail
    refine (Tryz.split_any s 58 m _ hs HM.out).mono ?_
    rintro e w0 ⟨xs, hxs, rfl, hw0⟩
    have HX : Hid (xs.map (·.data.toList) = splitOn 58 s.data.toList) := hxs
    have HW : Hid (w0 = w.alloc (.cells (xs.map Value.string).toArray 9)) := hw0
    clear hxs hw0
    go_wp2
    go_ret
    have hlen : xs.length ≤ s.size + 1 := by
      have := splitOn_len 58 s.data.toList
      rw [← HX.out] at this
      simpa using this
    refine ⟨⟨_, rfl, Or.inr ⟨xs, by unfold sixSplit; rw [if_neg HE.out]; exact HX.out, ?_, by omega, rfl, by rw [HW.out]; exact row_cells w xs 9, by rw [HW.out]; simp, ?_⟩⟩, by rw [HW.out]; exact (Below.refl _ w).alloc (Nat.le_refl _) _⟩
    · intro e
      have := HX.out
      rw [e] at this
      exact splitOn_ne 58 _ this.symm
    · intro x hx
      have := splitOn_mem 58 s.data.toList x.data.toList (by rw [← HX.out]; exact List.mem_map.2 ⟨x, hx, rfl⟩)
      simp at this
      omega
end Go.Proofs
