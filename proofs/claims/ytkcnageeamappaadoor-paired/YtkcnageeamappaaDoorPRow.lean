/-
  A row of pairs; what areLong, Pairs and Join of package moor answer of what is too long.
-/
import Derived.Test.YtkcnageeamappaaDoorUndo
namespace Go.Proofs
open Go.RowKit Go.Moor

/-- A row of pairs that can be read. -/
def PairRow (w : World) (v : Value) (ps : List (List UInt8 × List UInt8)) : Prop := ∃ sp cap, v = .slice sp ps.length cap ∧ ps.length ≤ cap ∧ cap ≤ maxLen ∧ ∀ (j : Nat) p, ps[j]? = some p → ∃ g, sp = some ⟨g, 0, none⟩ ∧ g < w.heap.size ∧ w.cell? ⟨g, j * 2, none⟩ = some (.string ⟨p.1.toArray⟩) ∧ w.cell? ⟨g, j * 2 + 1, none⟩ = some (.string ⟨p.2.toArray⟩)
theorem PairRow.below {w w' : World} {v : Value} {ps : List (List UInt8 × List UInt8)} (h : PairRow w v ps) (hb : Below w.heap.size w w') : PairRow w' v ps := by
  obtain ⟨sp, cap, hv, h1, h2, h3⟩ := h
  refine ⟨sp, cap, hv, h1, h2, fun j p hj => ?_⟩
  obtain ⟨g, hg, hz, c1, c2⟩ := h3 j p hj
  exact ⟨g, hg, Nat.lt_of_lt_of_le hz hb.size, (hb.cell (p := ⟨g, j * 2, none⟩) hz).trans c1, (hb.cell (p := ⟨g, j * 2 + 1, none⟩) hz).trans c2⟩
def sumLen (ps : List (List UInt8 × List UInt8)) : Nat := (ps.map fun p => p.1.length + p.2.length).sum
theorem sumLen_next (ps : List (List UInt8 × List UInt8)) (q : Nat) (p : List UInt8 × List UInt8) (h : ps[q]? = some p) : sumLen (ps.take (q + 1)) = sumLen (ps.take q) + (p.1.length + p.2.length) := by
  unfold sumLen
  rw [List.take_add_one, h]
  simp
theorem sumLen_le (ps : List (List UInt8 × List UInt8)) (q : Nat) : sumLen (ps.take q) ≤ sumLen ps := by
  have h : sumLen ps = sumLen (ps.take q) + sumLen (ps.drop q) := by
    conv => lhs; rw [← List.take_append_drop q ps]
    unfold sumLen
    rw [List.map_append, List.sum_append]
  omega

theorem wrap64_id (x : Int) (h0 : 0 ≤ x) (h1 : x < 9223372036854775808) : wrap64 x = x := by
  unfold wrap64
  omega
set_option maxHeartbeats 4000000 in
theorem Tryd.areLong_any (ps : List (List UInt8 × List UInt8)) (v : Value) (w : World) (hv : PairRow w v ps) (hx : ∀ p ∈ ps, p.1.length ≤ 1000000 ∧ p.2.length ≤ 1000000) :
    Calls Tryd.prog 13 #[v] w fun e w' => e = .returned (.bool (decide (2000 < sumLen ps))) ∧ Below w.heap.size w w' := by
  obtain ⟨sp, cap, rfl, hnc, hcm, hf⟩ := hv
  unfold maxLen at hcm
  have HS : Hid (∀ (j : Nat) p, ps[j]? = some p → ∃ g, sp = some ⟨g, 0, none⟩ ∧ ∀ wr, Below w.heap.size w wr → wr.cell? ⟨g, j * 2, none⟩ = some (.string ⟨p.1.toArray⟩) ∧ wr.cell? ⟨g, j * 2 + 1, none⟩ = some (.string ⟨p.2.toArray⟩) ∧ g < wr.heap.size) := by
    intro j p hj
    obtain ⟨g, hg, hz, c1, c2⟩ := hf j p hj
    exact ⟨g, hg, fun wr hb => ⟨(hb.cell (p := ⟨g, j * 2, none⟩) hz).trans c1, (hb.cell (p := ⟨g, j * 2 + 1, none⟩) hz).trans c2, Nat.lt_of_lt_of_le hz hb.size⟩⟩
  have HX : Hid (∀ p ∈ ps, p.1.length ≤ 1000000 ∧ p.2.length ≤ 1000000) := hx
  clear hf hx
  go_enter Tryd.func13, Tryd.ntmps13
  go_wp2_with fail
  go_loopw [3, 8] (fun s i wr => ∃ q : Nat, q ≤ ps.length ∧ i = .int .i64 q ∧ s = .int .i64 (sumLen (ps.take q) : Nat) ∧ sumLen (ps.take q) ≤ 2000 ∧ Below w.heap.size w wr) (fun _ i _ => ps.length - (intOf i).toNat)
  case atStart => exact ⟨0, Nat.zero_le _, rfl, rfl, by simp [sumLen], Below.refl _ _⟩
  case round =>
    rename_i wr _
    obtain ⟨q, hq, rfl, rfl, hle, hb⟩ := hrel
    by_cases hlt : q < ps.length
    · obtain ⟨p, hp⟩ : ∃ p, ps[q]? = some p := ⟨ps[q], List.getElem?_eq_getElem hlt⟩
      obtain ⟨g, hsp, hc⟩ := HS.out q p hp
      subst hsp
      obtain ⟨c1, c2, hgz⟩ := hc _ hb
      have hxl := HX.out p (List.mem_of_getElem? hp)
      have HNX : Hid (sumLen (ps.take (q + 1)) = sumLen (ps.take q) + (p.1.length + p.2.length)) := sumLen_next ps q p hp
      have HSB : Hid (sumLen (ps.take (q + 1)) ≤ sumLen ps) := sumLen_le ps (q + 1)
      have HB : Hid (Below w.heap.size w wr) := hb
      have hw1 : wrap64 ((p.1.length : Int) + (p.2.length : Int)) = (p.1.length : Int) + (p.2.length : Int) := wrap64_id _ (by omega) (by omega)
      have hw2 : wrap64 ((sumLen (ps.take q) : Int) + ((p.1.length : Int) + (p.2.length : Int))) = (sumLen (ps.take q) : Int) + ((p.1.length : Int) + (p.2.length : Int)) := wrap64_id _ (by omega) (by omega)
      clear hb
      go_wp2
      · go_ret
        have h1 := HNX.out
        have h2 := HSB.out
        refine ⟨?_, HB.out.alloc HB.out.size _⟩
        rw [show decide (2000 < sumLen ps) = true from decide_eq_true (by omega)]
        rfl
      · go_roundw
        case rel => exact ⟨q + 1, by omega, by go_num, by rw [HNX.out]; simp, by have := HNX.out; omega, HB.out.alloc HB.out.size _⟩
        case measure => (simp [intOf]; try omega)
    · have HQ : Hid (sumLen ps ≤ 2000) := by
        show _ ≤ _
        rw [List.take_of_length_le (by omega)] at hle
        exact hle
      have HB : Hid (Below w.heap.size w wr) := hb
      clear hb
      go_wp2
      go_ret
      refine ⟨?_, HB.out⟩
      rw [show decide (2000 < sumLen ps) = false from decide_eq_false (by have := HQ.out; omega)]
      rfl
end Go.Proofs
