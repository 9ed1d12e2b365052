/-
  What moor.Join and moor.Pairs answer; what short answers.
-/
import Derived.Test.YtkcnageeamappaaDoorPTell
namespace Go.Proofs
open Go.RowKit Go.Moor

set_option maxHeartbeats 1000000 in
theorem Tryd.Join_ok (ps : List (Bs × Bs)) (v : Value) (w : World) (hv : PairRow w v ps) (hx : ∀ p ∈ ps, p.1.length ≤ 3000 ∧ p.2.length ≤ 3000) (hn : ps.length ≤ 3000) (hs : sumLen ps ≤ 2000) (henv : Tryd.EnvP w) :
    Calls Tryd.prog 9 #[v] w fun e w' => e = .returned (.tuple #[.string ⟨(tellPairs ps).toArray⟩, .int .i64 0]) ∧ Below w.heap.size w w' := by
  have HL : Hid (Calls Tryd.prog 13 #[v] w fun e w' => e = .returned (.bool false) ∧ Below w.heap.size w w') := by
    have := Tryd.areLong_any ps v w hv (fun p hp => ⟨by have := (hx p hp).1; omega, by have := (hx p hp).2; omega⟩)
    rw [decide_eq_false (by omega)] at this
    exact this
  have HT : Hid (∀ w1, Below w.heap.size w w1 → Calls Tryd.prog 14 #[v] w1 fun e w' => e = .returned (.string ⟨(tellPairs ps).toArray⟩) ∧ Below w.heap.size w w') := by
    intro w1 h1
    refine (Tryd.Tell_pairs ps v w1 (hv.below h1) hx hn (henv.below h1)).mono ?_
    rintro e w' ⟨rfl, hb⟩
    exact ⟨rfl, h1.trans (hb.mono h1.size)⟩
  generalize (⟨(tellPairs ps).toArray⟩ : ByteArray) = r at *
  clear hv hx hn hs henv
  go_enter Tryd.func9, Tryd.ntmps9
  go_wp2_with fail
  refine HL.out.mono ?_
  rintro e w1 ⟨rfl, b1⟩
  go_wp2_with fail
  refine (HT.out w1 b1).mono ?_
  rintro e w2 ⟨rfl, b2⟩
  go_wp2_with fail
  go_ret2
  exact ⟨rfl, b2⟩
set_option maxHeartbeats 1000000 in
theorem Tryd.isLong_small (s : ByteArray) (w : World) (h : s.size ≤ 2000) : Calls Tryd.prog 15 #[.string s] w fun e w' => e = .returned (.bool false) ∧ w' = w := by
  have h1 : ¬ (2000 : Int) < (s.size : Int) := by omega
  clear h
  go_enter Tryd.func15, Tryd.ntmps15
  go_wp2
  go_ret
  first | exact ⟨rfl, rfl⟩ | exact ⟨by simp, rfl⟩
set_option maxHeartbeats 1000000 in
theorem Tryd.Pairs_ok (t : Bs) (w : World) (ht : t.length ≤ 2000) (henv : Tryd.EnvP w) :
    Calls Tryd.prog 10 #[.string ⟨t.toArray⟩] w fun e w' => (∃ v, e = .returned (.tuple #[v, .int .i64 0]) ∧ PairRow w' v (readPairs t)) ∧ Below w.heap.size w w' := by
  have HL : Hid (Calls Tryd.prog 15 #[.string ⟨t.toArray⟩] w fun e w' => e = .returned (.bool false) ∧ w' = w) := Tryd.isLong_small _ w (by rw [size_mk]; exact ht)
  have HR : Hid (Calls Tryd.prog 16 #[.string ⟨t.toArray⟩] w fun e w' => (∃ v, e = .returned v ∧ w'.ownsRow w.heap.size 30 2 v (readPairs t).length (pflat (readPairs t))) ∧ Below w.heap.size w w') := Tryd.Read_any t w (by omega) henv
  generalize readPairs t = ps at *
  generalize (⟨t.toArray⟩ : ByteArray) = tb at *
  clear ht henv
  go_enter Tryd.func10, Tryd.ntmps10
  go_wp2_with fail
  refine HL.out.mono ?_
  rintro e W0 ⟨rfl, hw0⟩
  have hw0 := hw0.symm
  subst hw0
  go_wp2_with fail
  refine HR.out.mono ?_
  rintro e w2 ⟨⟨v, rfl, ho⟩, b2⟩
  have HO : Hid (PairRow w2 v ps) := own_pairs ho
  clear ho
  go_wp2_with fail
  go_ret2
  exact ⟨⟨v, rfl, HO.out⟩, b2⟩
set_option maxHeartbeats 400000 in
theorem Tryd.short_60 (x : ByteArray) (w : World) : Calls Tryd.prog 5 #[.string x, .int .i64 60] w fun e w' => e = .returned (.string ⟨(x.data.toList.take 60).toArray⟩) ∧ w' = w := by
  have hz : x.size = x.data.toList.length := by rw [Array.length_toList]; rfl
  by_cases h : 60 < x.size
  · have HX : Hid (x.extract 0 60 = ⟨(x.data.toList.take 60).toArray⟩) := by
      show _ = _
      apply ByteArray.ext
      apply Array.ext'
      simp
    have h1 : (60 : Int) < (x.size : Int) := by omega
    have h3 : (60 : Int) ≤ (x.size : Int) := by omega
    clear hz h
    go_enter Tryd.func5, Tryd.ntmps5
    go_wp2
    go_ret
    rw [← HX.out]
    exact ⟨rfl, rfl⟩
  · have HX : Hid (⟨(x.data.toList.take 60).toArray⟩ = x) := by
      show _ = _
      rw [List.take_of_length_le (by omega)]
    rw [HX.out]
    have h1 : ¬ (60 : Int) < (x.size : Int) := by omega
    clear hz h
    go_enter Tryd.func5, Tryd.ntmps5
    go_wp2
    go_ret
    exact ⟨rfl, rfl⟩
end Go.Proofs
