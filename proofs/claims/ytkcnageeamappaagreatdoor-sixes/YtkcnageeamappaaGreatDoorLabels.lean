/-
  What strings.Split by one byte, host.splitLabels and host.isNumbersHost answer.
-/
import Derived.Test.YtkcnageeamappaaGreatDoorNum
namespace Go.Proofs
open Go.RowKit Go.Moor

theorem Tryz.split_any (s : ByteArray) (c : UInt8) (m : Int) (w : World) (hs : s.size < 4294967281) (hm : w.cell? ⟨16, 0, none⟩ = some (.int .i64 m)) :
    Calls Tryz.prog 132 #[.string s, .string ⟨#[c]⟩] w fun e w' => ∃ xs : List ByteArray, xs.map (·.data.toList) = splitOn c s.data.toList ∧ e = .returned (.slice (some ⟨w.heap.size, 0, none⟩) xs.length xs.length) ∧ w' = w.alloc (.cells (xs.map Value.string).toArray 9) := by
  refine (Tryz.strings_Split s ⟨#[c]⟩ m w hs hm (by show 1 ≤ 1; omega)).mono ?_
  rintro e w' ⟨rfl, rfl⟩
  refine ⟨Lib.splitB ⟨#[c]⟩ 0 (Lib.countB s ⟨#[c]⟩) s, ?_, ?_, rfl⟩
  · rw [Lib.splitB_data]
    show Lib.splitK [c] 0 (Lib.count s.data.toList [c]) s.data.toList = _
    rw [Lib.count_one]
    exact splitK_eq c _ _ rfl
  · rw [Lib.splitB_all _ (by show 1 ≤ 1; omega) 0 _ s rfl]

/-- A row of strings that a call made: the slice, its texts, and where they lie. -/
def Tryz.StrRow (w w' : World) (ls : List (List UInt8)) (v : Value) : Prop :=
  ∃ (xs : List ByteArray) (cap : Nat), xs.map (·.data.toList) = ls ∧ xs.length ≤ cap ∧ cap ≤ 4294967282 ∧ v = .slice (some ⟨w.heap.size, 0, none⟩) xs.length cap ∧ (∀ (j : Nat) x, xs[j]? = some x → w'.cell? ⟨w.heap.size, j, none⟩ = some (.string x)) ∧ w.heap.size < w'.heap.size

theorem row_cells (w : World) (xs : List ByteArray) (t : TypeId) : ∀ (j : Nat) x, xs[j]? = some x → (w.alloc (.cells (xs.map Value.string).toArray t)).cell? ⟨w.heap.size, j, none⟩ = some (.string x) := by
  intro j x h
  have e : (w.alloc (.cells (xs.map Value.string).toArray t)).heap[w.heap.size]? = some (.cells (xs.map Value.string).toArray t) := heap_alloc_new w _
  simp only [World.cell?, e]
  simp [h]

theorem labels_drop (xs : List ByteArray) (l : List UInt8) (x : ByteArray) (hx : xs.map (·.data.toList) = splitOn 46 l) (h1 : 1 < xs.length) (hl : xs[xs.length - 1]? = some x) (he : x.data.toList = []) : xs.dropLast.map (·.data.toList) = labels l := by
  unfold labels
  rw [← hx]
  have e1 : (xs.map (·.data.toList)).getLast? = some [] := by
    rw [List.getLast?_map, List.getLast?_eq_getElem?, hl]
    simp [he]
  rw [if_pos ⟨by simpa using h1, e1⟩, List.map_dropLast]
theorem labels_keep (xs : List ByteArray) (l : List UInt8) (hx : xs.map (·.data.toList) = splitOn 46 l) (h : ¬ 1 < xs.length ∨ ∃ x, xs[xs.length - 1]? = some x ∧ x.data.toList ≠ []) : xs.map (·.data.toList) = labels l := by
  unfold labels
  rw [← hx]
  rw [if_neg]
  rintro ⟨h1, h2⟩
  rcases h with h | ⟨x, hl, hn⟩
  · exact h (by simpa using h1)
  · rw [List.getLast?_map, List.getLast?_eq_getElem?, hl] at h2
    simp at h2
    exact hn (by simpa using h2)

set_option maxHeartbeats 1000000 in
theorem Tryz.splitLabels_any (s : ByteArray) (m : Int) (w : World) (hs : s.size < 4294967281) (hm : w.cell? ⟨16, 0, none⟩ = some (.int .i64 m)) :
    Calls Tryz.prog 201 #[.string s] w fun e w' => (∃ v, e = .returned v ∧ Tryz.StrRow w w' (labels s.data.toList) v) ∧ Below w.heap.size w w' := by
  have HM : Hid (w.cell? ⟨16, 0, none⟩ = some (.int .i64 m)) := hm
  clear hm
  go_enter Tryz.func201, Tryz.ntmps201
  go_wp2_with fail
  refine (Tryz.split_any s 46 m _ hs HM.out).mono ?_
  rintro e w1 ⟨xs, hxs, rfl, rfl⟩
  have hcl := row_cells w xs 9
  have hlen : xs.length ≤ s.size + 1 := by
    have := splitOn_len 46 s.data.toList
    rw [← hxs] at this
    simpa using this
  have hne : 1 ≤ xs.length := by
    have := splitOn_ne 46 s.data.toList
    rw [← hxs] at this
    cases xs with
    | nil => simp at this
    | cons a l => simp
  have HX : Hid (xs.map (·.data.toList) = splitOn 46 s.data.toList) := hxs
  clear hxs
  by_cases h1 : 1 < xs.length
  · obtain ⟨x, hx⟩ : ∃ x, xs[xs.length - 1]? = some x := ⟨xs[xs.length - 1]'(by omega), by simp⟩
    have hc := hcl (xs.length - 1) x hx
    have HC : Hid (∀ (j : Nat) x, xs[j]? = some x → (w.alloc (.cells (xs.map Value.string).toArray 9)).cell? ⟨w.heap.size, j, none⟩ = some (.string x)) := hcl
    have HXX : Hid (xs[xs.length - 1]? = some x) := hx
    clear hcl hx
    by_cases hem : x.toList.isEmpty = true
    · have hd : x.data.toList = [] := by rw [Lib.toList_data] at hem; simpa using hem
      have HD : Hid (xs.dropLast.map (·.data.toList) = labels s.data.toList) := labels_drop xs _ x HX.out h1 HXX.out hd
      clear hd
      go_wp2
      go_ret
      refine ⟨⟨_, rfl, xs.dropLast, xs.length, HD.out, by simp, by omega, by rw [List.length_dropLast]; rfl, ?_, by simp⟩, (Below.refl _ w).alloc (Nat.le_refl _) _⟩
      intro j y hj
      refine HC.out j y ?_
      rw [List.getElem?_dropLast] at hj
      split at hj
      · exact hj
      · simp at hj
    · have hem2 : x.toList.isEmpty = false := Bool.eq_false_iff.2 hem
      have HD : Hid (xs.map (·.data.toList) = labels s.data.toList) := labels_keep xs _ HX.out (Or.inr ⟨x, HXX.out, by rw [Lib.toList_data] at hem; simpa using hem⟩)
      clear hem
      go_wp2
      go_ret
      exact ⟨⟨_, rfl, xs, xs.length, HD.out, by omega, by omega, rfl, HC.out, by simp⟩, (Below.refl _ w).alloc (Nat.le_refl _) _⟩
  · have HD : Hid (xs.map (·.data.toList) = labels s.data.toList) := labels_keep xs _ HX.out (Or.inl h1)
    have h2 : xs.length ≤ 1 := by omega
    have HC : Hid (∀ (j : Nat) x, xs[j]? = some x → (w.alloc (.cells (xs.map Value.string).toArray 9)).cell? ⟨w.heap.size, j, none⟩ = some (.string x)) := hcl
    clear hcl h1
    go_wp2
    go_ret
    exact ⟨⟨_, rfl, xs, xs.length, HD.out, by omega, by omega, rfl, HC.out, by simp⟩, (Below.refl _ w).alloc (Nat.le_refl _) _⟩

set_option maxHeartbeats 1000000 in
theorem Tryz.isNumbersHost_any (s : ByteArray) (m : Int) (w : World) (hs : s.size < 4294967281) (hm : w.cell? ⟨16, 0, none⟩ = some (.int .i64 m)) :
    Calls Tryz.prog 144 #[.string s] w fun e w' => e = .returned (.bool (numLabel ((labels s.data.toList).getLastD []))) ∧ Below w.heap.size w w' := by
  have HM : Hid (w.cell? ⟨16, 0, none⟩ = some (.int .i64 m)) := hm
  clear hm
  go_enter Tryz.func144, Tryz.ntmps144
  go_wp2_with fail
  refine (Tryz.splitLabels_any s m _ hs HM.out).mono ?_
  rintro e w1 ⟨⟨v, rfl, xs, cap, hxs, hc1, hc2, rfl, hcl, hz1⟩, hb1⟩
  have hne : 1 ≤ xs.length := by
    have := labels_ne s.data.toList
    rw [← hxs] at this
    cases xs with
    | nil => simp at this
    | cons a l => simp
  obtain ⟨x, hx⟩ : ∃ x, xs[xs.length - 1]? = some x := ⟨xs[xs.length - 1]'(by omega), by simp⟩
  have hc := hcl (xs.length - 1) x hx
  have HL : Hid ((labels s.data.toList).getLastD [] = x.data.toList) := by
    show _ = _
    rw [← hxs, List.getLastD_eq_getLast?, List.getLast?_map, List.getLast?_eq_getElem?, hx]
    rfl
  have hxl : x.size ≤ s.size := by
    have := labels_mem s.data.toList x.data.toList (by rw [← hxs]; exact List.mem_map.2 ⟨x, List.mem_of_getElem? hx, rfl⟩)
    simpa using this
  have hxm : x.size ≤ maxLen := by unfold maxLen; omega
  have hzz : w.heap.size + 0 < w1.heap.size := hz1
  clear hcl hx hxs hz1
  by_cases hpf : Lib.hasPrefix x.data.toList (⟨#[48, 120]⟩ : ByteArray).data.toList = true
  · have h2 : 2 ≤ x.size := by
      unfold Lib.hasPrefix at hpf
      have := (List.isPrefixOf_iff_prefix.1 hpf).length_le
      simpa using this
    have HP : Hid (Lib.hasPrefix x.data.toList (⟨#[48, 120]⟩ : ByteArray).data.toList = true) := hpf
    have hxs : (x.extract 2 x.size).size ≤ maxLen := by rw [ByteArray.size_extract]; unfold maxLen; omega
    have HX2 : Hid ((x.extract 2 x.size).data.toList = x.data.toList.drop 2) := ext_drop x 2
    clear hpf
    go_wp2_with (go_at_call 82; refine (Tryz.prefix_yes _ _ _ HP.out).mono ?_; rintro e w' ⟨rfl, rfl⟩)
    refine (Tryz.all_any (x.extract 2 x.size) 16 _ hxs).mono ?_
    rw [HX2.out]
    rintro e w2 ⟨rfl, rfl⟩
    go_wp2
    go_ret
    have hp2 := HP.out
    refine ⟨?_, hb1⟩
    rw [HL.out]
    unfold numLabel
    rw [if_pos (show Lib.hasPrefix x.data.toList [48, 120] = true from hp2)]
    rfl
  · have hpn : Lib.hasPrefix x.data.toList (⟨#[48, 120]⟩ : ByteArray).data.toList = false := Bool.eq_false_iff.2 hpf
    have HP : Hid (Lib.hasPrefix x.data.toList (⟨#[48, 120]⟩ : ByteArray).data.toList = false) := hpn
    clear hpf hpn
    by_cases hem : x.toList.isEmpty = true
    · go_wp2_with (go_at_call 82; refine (Tryz.prefix_no _ _ _ HP.out).mono ?_; rintro e w' ⟨rfl, rfl⟩)
      go_ret
      refine ⟨?_, hb1⟩
      rw [HL.out]
      unfold numLabel
      rw [if_neg (by rw [show Lib.hasPrefix x.data.toList [48, 120] = false from HP.out]; simp), ← Lib.toList_data, hem]
      rfl
    · have hem2 : x.toList.isEmpty = false := Bool.eq_false_iff.2 hem
      clear hem
      go_wp2_with (go_at_call 82; refine (Tryz.prefix_no _ _ _ HP.out).mono ?_; rintro e w' ⟨rfl, rfl⟩)
      refine (Tryz.all_any x 10 _ hxm).mono ?_
      rintro e w2 ⟨rfl, rfl⟩
      go_wp2
      go_ret
      refine ⟨?_, hb1⟩
      rw [HL.out]
      unfold numLabel
      rw [if_neg (by rw [show Lib.hasPrefix x.data.toList [48, 120] = false from HP.out]; simp), ← Lib.toList_data, hem2, Lib.toList_data]
      rfl
end Go.Proofs
