/-
  What fields.Tell, moor.Join and moor.Pairs answer.
-/
import Derived.Test.YtkcnageeamappaaDoorPRead
import Derived.Deep.OwnRows
import Derived.Deep.RegionHeld3
namespace Go.Proofs
open Go.RowKit Go.Moor

theorem same_heap' {k : Nat} {w w' : World} (ho : w'.os = w.os) (ht : w'.tape = w.tape) (hu : w'.output = w.output) (hh : w'.heap = w.heap) : Below k w w' := ⟨ho, ht, hu, by rw [hh]; exact Nat.le_refl _, fun _ _ => by rw [hh]⟩
theorem app_mkP (a b : Bs) : (⟨a.toArray⟩ : ByteArray) ++ ⟨b.toArray⟩ = ⟨(a ++ b).toArray⟩ := by
  apply ByteArray.ext
  simp
theorem join_amp : ∀ l : List Bs, Lib.join l [38] = joinAmp l
  | [] => rfl
  | [x] => Lib.join_one x [38]
  | x :: y :: l => by
    have ih := join_amp (y :: l)
    rw [Lib.join_cons] at ih ⊢
    show x ++ Lib.joinTail [38] (y :: l) = x ++ 38 :: joinAmp (y :: l)
    rw [← ih]
    simp [Lib.joinTail]
theorem joinAmp_len (K : Nat) : ∀ l : List Bs, (∀ x ∈ l, x.length ≤ K) → (joinAmp l).length ≤ (K + 1) * l.length
  | [], _ => by simp [joinAmp]
  | [x], h => by
    have := h x (by simp)
    simp only [joinAmp, List.length_cons, List.length_nil]
    omega
  | x :: y :: l, h => by
    have ih := joinAmp_len K (y :: l) (fun z hz => h z (by simp [hz]))
    have hx := h x (by simp)
    simp only [joinAmp, List.length_append, List.length_cons] at ih ⊢
    rw [Nat.mul_add, Nat.mul_one]
    omega
theorem pairTell_len (l : Bs) : (pairTell l).length ≤ 3 * l.length := by
  induction l with
  | nil => simp [pairTell]
  | cons c l ih =>
    have h1 : (pairTell1 c).length ≤ 3 := by
      unfold pairTell1
      split
      · simp
      · unfold escW1; split <;> simp
    have h2 : pairTell (c :: l) = pairTell1 c ++ pairTell l := by simp [pairTell]
    rw [h2, List.length_append, List.length_cons]
    omega

def toldRow (ps : List (Bs × Bs)) (q : Nat) : Array Value := ((ps.take q).map (fun p => Value.string ⟨(piece pairTell p).toArray⟩) ++ List.replicate (ps.length - q) (Value.string ⟨#[]⟩)).toArray
theorem toldRow_size (ps : List (Bs × Bs)) (q : Nat) (h : q ≤ ps.length) : (toldRow ps q).size = ps.length := by
  unfold toldRow
  simp
  omega
theorem toldRow_next (ps : List (Bs × Bs)) (q : Nat) (p : Bs × Bs) (h : ps[q]? = some p) : (toldRow ps q).setIfInBounds q (.string ⟨(piece pairTell p).toArray⟩) = toldRow ps (q + 1) := by
  have hlt : q < ps.length := (List.getElem?_eq_some_iff.1 h).1
  apply Array.ext'
  unfold toldRow
  rw [Array.toList_setIfInBounds]
  simp only
  have hl : (List.map (fun p => Value.string ⟨(piece pairTell p).toArray⟩) (ps.take q)).length = q := by simp; omega
  obtain ⟨m, hm⟩ : ∃ m, ps.length - q = m + 1 := ⟨ps.length - q - 1, by omega⟩
  rw [hm, show ps.length - (q + 1) = m by omega, List.replicate_succ, List.take_add_one, h, List.map_append, Option.toList_some, List.append_assoc]
  rw [List.set_append_right _ _ (by omega), hl, Nat.sub_self]
  rfl
theorem toldRow_full (ps : List (Bs × Bs)) : toldRow ps ps.length = (ps.map (fun p => Value.string ⟨(piece pairTell p).toArray⟩)).toArray := by
  unfold toldRow
  simp

theorem Tryd.infoStrD : (Tryd.prog.info? 9).map (fun i => (i.zero, i.size, i.bytes)) = some (some (.string ⟨#[]⟩), 1, 16) := by kernel_rfl
set_option maxHeartbeats 8000000 in
theorem Tryd.Tell_pairs (ps : List (Bs × Bs)) (v : Value) (w : World) (hv : PairRow w v ps) (hx : ∀ p ∈ ps, p.1.length ≤ 3000 ∧ p.2.length ≤ 3000) (hn : ps.length ≤ 3000) (henv : Tryd.EnvP w) :
    Calls Tryd.prog 14 #[v] w fun e w' => e = .returned (.string ⟨(tellPairs ps).toArray⟩) ∧ Below w.heap.size w w' := by
  obtain ⟨i0, hi, hz0, hz1, hz2⟩ := info_parts Tryd.infoStrD
  obtain ⟨sp, cap, rfl, hnc, hcm, hf⟩ := hv
  unfold maxLen at hcm
  have HS : Hid (∀ (j : Nat) p, ps[j]? = some p → ∃ g, sp = some ⟨g, 0, none⟩ ∧ ∀ wr, Below w.heap.size w wr → wr.cell? ⟨g, j * 2, none⟩ = some (.string ⟨p.1.toArray⟩) ∧ wr.cell? ⟨g, j * 2 + 1, none⟩ = some (.string ⟨p.2.toArray⟩) ∧ g < wr.heap.size) := by
    intro j p hj
    obtain ⟨g, hg, hz, c1, c2⟩ := hf j p hj
    exact ⟨g, hg, fun wr hb => ⟨(hb.cell (p := ⟨g, j * 2, none⟩) hz).trans c1, (hb.cell (p := ⟨g, j * 2 + 1, none⟩) hz).trans c2, Nat.lt_of_lt_of_le hz hb.size⟩⟩
  have HX : Hid (∀ p ∈ ps, p.1.length ≤ 3000 ∧ p.2.length ≤ 3000) := hx
  have HT : Hid (∀ (t : Bs) w1, t.length ≤ 10000 → Below w.heap.size w w1 → Calls Tryd.prog 25 #[.string ⟨t.toArray⟩] w1 fun e w' => e = .returned (.string ⟨(pairTell t).toArray⟩) ∧ Below w1.heap.size w1 w') := fun t w1 ht h1 => Tryd.tellText_any t w1 ht (henv.below h1)
  have HJ : Hid (∀ w1, w.heap.size < w1.heap.size → w1.heap[w.heap.size]? = some (.cells (toldRow ps ps.length) 9 (0, 0)) → Calls Tryd.prog 26 #[.slice (some ⟨w.heap.size, 0, none⟩) ps.length ps.length, .string ⟨#[38]⟩] w1 fun e w' => e = .returned (.string ⟨(tellPairs ps).toArray⟩) ∧ Below w1.heap.size w1 w') := by
    intro w1 hz hr
    by_cases h0 : ps = []
    · subst h0
      refine (Tryd.strings_Join_none _ _ _ w1).mono ?_
      rintro e w' ⟨rfl, rfl⟩
      exact ⟨rfl, Below.refl _ _⟩
    · have hcells : ∀ (j : Nat) x, (ps.map fun p => (⟨(piece pairTell p).toArray⟩ : ByteArray))[j]? = some x → w1.cell? ⟨w.heap.size, 0 + j, none⟩ = some (.string x) := by
        intro j x hj
        rw [List.getElem?_map, Option.map_eq_some_iff] at hj
        obtain ⟨p, hp, rfl⟩ := hj
        rw [toldRow_full] at hr
        rw [Nat.zero_add]
        unfold World.cell?
        simp [hr, hp]
      have hm : (ps.map fun p => (⟨(piece pairTell p).toArray⟩ : ByteArray)).map (·.data.toList) = ps.map (piece pairTell) := by simp
      have he : Lib.join ((ps.map fun p => (⟨(piece pairTell p).toArray⟩ : ByteArray)).map (·.data.toList)) (⟨#[38]⟩ : ByteArray).data.toList = tellPairs ps := by
        rw [hm]
        exact join_amp _
      have hl : (tellPairs ps).length ≤ 20000 * 3000 := by
        have := joinAmp_len 19000 (ps.map (piece pairTell)) (fun x hx => by
          rw [List.mem_map] at hx
          obtain ⟨p, hp, rfl⟩ := hx
          have h1 := HX.out p hp
          have h2 := pairTell_len p.1
          have h3 := pairTell_len p.2
          unfold piece
          simp only [List.length_append, List.length_cons]
          omega)
        rw [List.length_map] at this
        exact Nat.le_trans this (by omega)
      have h := Tryd.strings_Join w.heap.size 0 ps.length (ps.map fun p => (⟨(piece pairTell p).toArray⟩ : ByteArray)) ⟨#[38]⟩ w1 hcells hz (by simp; omega) (by simp) (by rw [he]; omega)
      rw [he] at h
      rw [List.length_map] at h
      exact h
  have hmade : madeCells #[Value.string ⟨#[]⟩] ps.length = toldRow ps 0 := by
    apply Array.ext'
    rw [toList_madeCells_one]
    unfold toldRow
    simp
  clear hf hx henv
  go_enter Tryd.func14, Tryd.ntmps14
  go_wp2_with (refine wpList_make_row _ rfl _ _ 27 rfl 9 i0 (.string ⟨#[]⟩) Tryd.underlying27 hi hz0 hz1 rfl _ _ ps.length rfl rfl (by rw [hz2]; omega) (by omega) ?_)
  obtain ⟨W, hW⟩ : ∃ W, W = w.alloc (.cells (toldRow ps 0) 9) := ⟨_, rfl⟩
  rw [← hW]
  have HW0 : Hid (W.heap[w.heap.size]? = some (.cells (toldRow ps 0) 9 (0, 0)) ∧ Below w.heap.size w W) := by
    rw [hW]
    exact ⟨heap_alloc_new w _, (Below.refl _ _).alloc (Nat.le_refl _) _⟩
  clear hW hmade hi hz0 hz1 hz2
  go_loopw [11] (fun i wr => ∃ q : Nat, q ≤ ps.length ∧ i = .int .i64 q ∧ wr.heap[w.heap.size]? = some (.cells (toldRow ps q) 9 (0, 0)) ∧ Below w.heap.size w wr) (fun i _ => ps.length - (intOf i).toNat)
  case atStart => exact ⟨0, Nat.zero_le _, rfl, HW0.out.1, HW0.out.2⟩
  case round =>
    rename_i wr _
    obtain ⟨q, hq, rfl, hrow, hb⟩ := hrel
    have HB : Hid (Below w.heap.size w wr) := hb
    have HROW : Hid (wr.heap[w.heap.size]? = some (.cells (toldRow ps q) 9 (0, 0))) := hrow
    have hwz : w.heap.size < wr.heap.size := (Array.getElem?_eq_some_iff.1 hrow).1
    by_cases hlt : q < ps.length
    · obtain ⟨p, hp⟩ : ∃ p, ps[q]? = some p := ⟨ps[q], List.getElem?_eq_getElem hlt⟩
      obtain ⟨g, hsp, hc⟩ := HS.out q p hp
      subst hsp
      obtain ⟨c1, c2, hgz⟩ := hc _ hb
      have hxl := HX.out p (List.mem_of_getElem? hp)
      have HNX : Hid ((toldRow ps q).setIfInBounds q (.string ⟨(piece pairTell p).toArray⟩) = toldRow ps (q + 1)) := toldRow_next ps q p hp
      have hl1 := pairTell_len p.1
      have hl2 := pairTell_len p.2
      have HT1 : Hid (∀ w1, Below w.heap.size w w1 → Calls Tryd.prog 25 #[.string ⟨p.1.toArray⟩] w1 fun e w' => e = .returned (.string ⟨(pairTell p.1).toArray⟩) ∧ Below w1.heap.size w1 w') := fun w1 h1 => HT.out p.1 w1 (by omega) h1
      have HT2 : Hid (∀ w1, Below w.heap.size w w1 → Calls Tryd.prog 25 #[.string ⟨p.2.toArray⟩] w1 fun e w' => e = .returned (.string ⟨(pairTell p.2).toArray⟩) ∧ Below w1.heap.size w1 w') := fun w1 h1 => HT.out p.2 w1 (by omega) h1
      have HAP : Hid ((⟨(pairTell p.1).toArray⟩ : ByteArray) ++ ⟨#[61]⟩ ++ ⟨(pairTell p.2).toArray⟩ = ⟨(piece pairTell p).toArray⟩) := by
        show _ = _
        have h1 : (⟨(pairTell p.1).toArray⟩ : ByteArray) ++ ⟨#[61]⟩ = ⟨(pairTell p.1 ++ [61]).toArray⟩ := app_mkP _ [61]
        rw [h1, app_mkP]
        unfold piece
        simp
      have hz1 : (⟨(pairTell p.1).toArray⟩ : ByteArray).size = (pairTell p.1).length := size_mk _
      have hz2 : (⟨(pairTell p.2).toArray⟩ : ByteArray).size = (pairTell p.2).length := size_mk _
      have z61 : (⟨#[61]⟩ : ByteArray).size = 1 := rfl
      generalize (⟨(pairTell p.1).toArray⟩ : ByteArray) = t1 at *
      generalize (⟨(pairTell p.2).toArray⟩ : ByteArray) = t2 at *
      generalize (⟨p.1.toArray⟩ : ByteArray) = x1 at *
      generalize (⟨p.2.toArray⟩ : ByteArray) = x2 at *
      have g0 : ∀ W : World, (Op.stringOp .add t1 ⟨#[61]⟩).run Tryd.prog W = .ok (.string (t1 ++ ⟨#[61]⟩)) W := fun W => run_string_add_sum W _ _ (by omega)
      have g1 : ∀ W : World, (Op.stringOp .add (t1 ++ ⟨#[61]⟩) t2).run Tryd.prog W = .ok (.string (t1 ++ ⟨#[61]⟩ ++ t2)) W := fun W => run_string_add_sum W _ _ (by simp only [ByteArray.size_append]; omega)
      obtain ⟨V, hV⟩ : ∃ V, V = wr.alloc (.cells #[.string x1, .string x2] 30) := ⟨_, rfl⟩
      have hVB : Below wr.heap.size wr V := by rw [hV]; exact (Below.refl _ _).alloc (Nat.le_refl _) _
      have hVs : V.heap.size = wr.heap.size + 1 := by rw [hV]; simp
      have hVc : V.heap[wr.heap.size]? = some (.cells #[.string x1, .string x2] 30 (0, 0)) := by rw [hV]; exact heap_alloc_new wr _
      have HVC : Hid (∀ w1, Below V.heap.size V w1 → w1.cell? ⟨wr.heap.size, 0, none⟩ = some (.string x1) ∧ w1.cell? ⟨wr.heap.size, 1, none⟩ = some (.string x2)) := by
        intro w1 h1
        have k := (h1.block wr.heap.size (by omega)).trans hVc
        unfold World.cell?
        simp [k]
      have HVR : Hid (∀ w1, Below V.heap.size V w1 → w1.heap[w.heap.size]? = some (.cells (toldRow ps q) 9 (0, 0))) := fun w1 h1 => ((h1.block w.heap.size (by omega)).trans (hVB.block w.heap.size hwz)).trans HROW.out
      have HVB : Hid (∀ w1, Below V.heap.size V w1 → Below w.heap.size w w1) := fun w1 h1 => (HB.out.trans (hVB.mono (by omega))).trans (h1.mono (by omega))
      have HVR2 : Hid (∀ w1, Below V.heap.size V w1 → w1.cell? ⟨w.heap.size, q, none⟩ = some (.string ⟨#[]⟩) ∧ w1.frozen? ⟨w.heap.size, q, none⟩ = false) := by
        intro w1 h1
        have k := HVR.out w1 h1
        have hq0 : (toldRow ps q)[q]? = some (.string ⟨#[]⟩) := by
          unfold toldRow
          rw [List.getElem?_toArray]
          have hl : (List.map (fun p => Value.string ⟨(piece pairTell p).toArray⟩) (ps.take q)).length = q := by simp; omega
          obtain ⟨m, hm⟩ : ∃ m, ps.length - q = m + 1 := ⟨ps.length - q - 1, by omega⟩
          rw [List.getElem?_append_right (by omega), hl, Nat.sub_self, hm]
          rfl
        constructor
        · unfold World.cell?
          simp [k, hq0]
        · unfold World.frozen?
          simp [k]
      have HV : Hid (V = wr.alloc (.cells #[.string x1, .string x2] 30)) := hV
      obtain ⟨v0, v1⟩ := HVC.out V (Below.refl _ _)
      have HNE : Hid (w.heap.size ≠ wr.heap.size) := (by omega : w.heap.size ≠ wr.heap.size)
      clear hb hrow hp hV hVB hVs hVc
      go_upto_region 5 with fail
      rw [← HV.out]
      clear HV c1 c2
      go_region_held3 (fun w' => w'.cell? ⟨wr.heap.size, 0, none⟩ = some (.string x1) ∧ w'.cell? ⟨wr.heap.size, 1, none⟩ = some (.string x2)) (first | (go_keep; done) | (refine ⟨(World.cell?_setCell_far _ _ _ _ HNE.out).trans ?_, (World.cell?_setCell_far _ _ _ _ HNE.out).trans ?_⟩ <;> assumption)) (first | (go_at_call_of 25 (Value.string x1); refine Calls.mono (HT1.out _ (by first | exact HVB.out _ (Below.refl _ _) | exact HVB.out _ (same_heap' rfl rfl rfl rfl))) ?_; rintro e w1 ⟨rfl, b1⟩; have HB1 : Hid (Below V.heap.size V w1) := (by first | exact b1 | exact (same_heap' rfl rfl rfl rfl : Below V.heap.size V V.drew).trans b1); clear b1; obtain ⟨a0, a1⟩ := HVC.out w1 HB1.out) | (go_at_call_of 25 (Value.string x2); refine Calls.mono (HT2.out _ (HVB.out _ HB1.out)) ?_; rintro e w2 ⟨rfl, b2⟩; have HB2 : Hid (Below V.heap.size V w2) := HB1.out.trans (b2.mono HB1.out.size); clear b2; obtain ⟨a0', a1'⟩ := HVC.out w2 HB2.out; obtain ⟨r0, r1⟩ := HVR2.out w2 HB2.out))
      all_goals
        go_wp2
        go_roundw
        case rel =>
          refine ⟨q + 1, by omega, by go_num, ?_, ?_⟩
          · have h := heap_setCell_same w2 w.heap.size q _ 9 (.string (t1 ++ ⟨#[61]⟩ ++ t2)) (HVR.out w2 HB2.out)
            rw [HAP.out, HNX.out] at h
            rw [HAP.out]
            exact h
          · exact (HVB.out w2 HB2.out).setCell (Nat.le_refl _) _
        case measure => (simp [intOf]; try omega)
    · have hqe : q = ps.length := by omega
      subst hqe
      have HJ2 : Hid _ := HJ.out wr hwz HROW.out
      clear hb hrow
      go_wp2_with fail
      refine Calls.mono HJ2.out ?_
      rintro e w2 ⟨rfl, b2⟩
      have HB2 : Hid (Below w.heap.size w w2) := HB.out.trans (b2.mono HB.out.size)
      clear b2
      go_wp2
      go_ret
      exact ⟨rfl, HB2.out⟩
end Go.Proofs
