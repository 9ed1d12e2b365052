/-
  What Firm of package moorkeep answers.
-/
import Derived.Test.YtkcnageeamappabGreatDoorJKFirmP
import Derived.Deep.OwnRows
namespace Go.Proofs
open Go.RowKit Go.Moor

set_option maxHeartbeats 4000000 in
theorem Tryz.refused_no (t b : Bs) (n m : Int) (w : World) (ht : t.length ≤ 100000) (hb : b.length ≤ 100000) (henv : Tryz.Env2 w) (hp : parse hostTell t b = .error m) (hn : ¬ m = n) :
    Calls Tryz.prog 5 #[.string ⟨t.toArray⟩, .string ⟨b.toArray⟩, .int .i64 n] w fun e w' => e = .returned (.bool false) ∧ Below w.heap.size w w' := by
  have HP : Hid (Calls Tryz.prog 13 #[.string ⟨t.toArray⟩, .string ⟨b.toArray⟩] w fun e w' => e = .returned (.tuple #[.string ⟨#[]⟩, .int .i64 m]) ∧ Below w.heap.size w w') := by
    have h := Tryz.Parse_any t b w (by unfold maxLen; omega) (by unfold maxLen; omega) henv
    rw [hp] at h
    exact h
  have e0 := empty_yes
  have HMN : Hid ((m == n) = false) := by show _ = _; simpa using hn
  clear ht hb henv hp
  generalize (⟨t.toArray⟩ : ByteArray) = x at *
  generalize (⟨b.toArray⟩ : ByteArray) = y at *
  go_enter Tryz.func5, Tryz.ntmps5
  go_wp2_with fail
  refine HP.out.mono ?_
  rintro e w1 ⟨rfl, b1⟩
  go_wp2_with fail
  go_ret
  first | exact ⟨rfl, b1⟩ | exact ⟨congrArg (fun b => Ending.returned (Value.bool b)) HMN.out, b1⟩

theorem addr_add (g i : Nat) : (⟨g, 0, none⟩ : Go.Addr).add i = ⟨g, i, none⟩ := by
  unfold Go.Addr.add
  simp
  exact fun h => h.symm
theorem made_cell (w : World) (t : TypeId) (n i : Nat) (hi : i < n) : (w.alloc (.cells (madeCells #[.int .u8 0] n) t)).cell? ((⟨w.heap.size, 0, none⟩ : Go.Addr).add i) = some (.int .u8 0) := by
  rw [addr_add, cell_heap (alloc_here w _ _), ← Array.getElem?_toList, toList_madeCells_one, List.getElem?_replicate, if_pos hi]
theorem long_get (j : Nat) (hj : j < longT.length) : longT[j].toNat = 0 := by
  have : longT[j] = 0 := List.getElem_replicate _
  rw [this]
  rfl
theorem Tryz.infoByte : (Tryz.prog.info? 5).map (fun i => (i.zero, i.size, i.bytes)) = some (some (.int .u8 0), 1, 1) := by kernel_rfl
def firmTA : Array Value := #[.string ⟨#[]⟩, .string ⟨#[120]⟩, .string ⟨#[47, 47, 120]⟩, .string ⟨#[104, 116, 116, 112, 58]⟩, .string ⟨#[104, 116, 116, 112, 58, 47, 47]⟩, .string ⟨#[104, 116, 116, 112, 58, 47, 47, 64]⟩, .string ⟨#[104, 116, 116, 112, 58, 47, 47, 97, 64]⟩, .string ⟨#[104, 116, 116, 112, 58, 47, 47, 58, 56, 48]⟩, .string ⟨#[104, 116, 116, 112, 58, 47, 47, 97, 32, 98]⟩, .string ⟨#[104, 116, 116, 112, 58, 47, 47, 97, 37, 48, 48, 98]⟩, .string ⟨#[104, 116, 116, 112, 58, 47, 47, 91, 49]⟩, .string ⟨#[104, 116, 116, 112, 58, 47, 47, 91, 49, 58, 50, 93]⟩, .string ⟨#[104, 116, 116, 112, 58, 47, 47, 91, 49, 58, 50, 58, 51, 58, 52, 58, 53, 58, 54, 58, 55, 58, 56, 58, 57, 93]⟩, .string ⟨#[104, 116, 116, 112, 58, 47, 47, 49, 46, 50, 46, 51, 46, 52, 46, 53]⟩, .string ⟨#[104, 116, 116, 112, 58, 47, 47, 50, 53, 54, 46, 49, 46, 49, 46, 49]⟩, .string ⟨#[104, 116, 116, 112, 58, 47, 47, 97, 58, 98]⟩, .string ⟨#[104, 116, 116, 112, 58, 47, 47, 97, 58, 54, 53, 53, 51, 54]⟩, .string ⟨#[120, 58, 47, 47, 97, 32, 98]⟩, .string ⟨#[120, 58, 47, 47, 117, 64]⟩, .string ⟨#[120, 58, 47, 47, 58, 56, 48]⟩, .string ⟨#[102, 105, 108, 101, 58, 47, 47, 97, 32, 98]⟩, .string ⟨#[104, 116, 116, 112, 58, 47, 47, 97, 58, 56, 48, 120, 47]⟩, .string ⟨#[104, 116, 116, 112, 58, 47, 47, 255]⟩]
def firmEA : Array Value := #[.int .i64 3, .int .i64 3, .int .i64 3, .int .i64 4, .int .i64 4, .int .i64 4, .int .i64 4, .int .i64 4, .int .i64 4, .int .i64 4, .int .i64 4, .int .i64 4, .int .i64 4, .int .i64 4, .int .i64 4, .int .i64 5, .int .i64 5, .int .i64 4, .int .i64 4, .int .i64 4, .int .i64 4, .int .i64 5, .int .i64 4]
theorem firmTA_is : firmTA = (firmT.map fun t => Value.string ⟨t.toArray⟩).toArray := rfl
theorem firmEA_is : firmEA = (firmE.map fun e => Value.int .i64 e).toArray := rfl
theorem firmTA_get (k : Nat) (h : k < 23) : firmTA[k]? = some (.string ⟨(firmT.getD k []).toArray⟩) := by
  have hl : k < firmT.length := h
  rw [firmTA_is]
  simp [List.getElem?_eq_getElem hl, List.getD_eq_getElem?_getD]
theorem firmEA_get (k : Nat) (h : k < 23) : firmEA[k]? = some (.int .i64 (firmE.getD k 0)) := by
  have hl : k < firmE.length := h
  rw [firmEA_is]
  simp [List.getElem?_eq_getElem hl, List.getD_eq_getElem?_getD]

set_option maxHeartbeats 16000000 in
set_option maxRecDepth 20000 in
theorem Tryz.Firm_any (bad n : Int) (w : World) (hb0 : -(2 ^ 63) ≤ bad) (hb1 : bad < 2 ^ 63) (hn0 : -(2 ^ 63) ≤ n) (hn1 : n < 2 ^ 63) (henv : Tryz.Env3 w) :
    Calls Tryz.prog 3 #[.int .i64 bad, .int .i64 n] w fun e w' => e = .returned (.bool true) ∧ Below w.heap.size w w' := by
  obtain ⟨W, hW⟩ : ∃ W, W = (w.alloc (.cells firmTA 9)).alloc (.cells firmEA 23) := ⟨_, rfl⟩
  have hBW : Below w.heap.size w W := by
    rw [hW]
    exact ((Below.refl _ _).alloc (Nat.le_refl _) _).alloc (by simp) _
  have h2 := two_blocks w (.cells firmTA 9) (.cells firmEA 23)
  rw [← hW] at h2
  have hsize : W.heap.size = w.heap.size + 2 := by rw [hW]; simp
  have hk := pickN_lt bad 23 (by omega)
  have hq := pickN_lt n 1099511627776 (by omega)
  have HPI : Hid (∀ w1, Calls Tryz.prog 4 #[.int .i64 bad, .int .i64 23] w1 fun e w' => e = .returned (.int .i64 (pickN bad 23)) ∧ w' = w1) := fun w1 => Tryz.pick_fun bad 23 w1 hb0 hb1 (by omega) (by omega)
  have HPJ : Hid (∀ w1, Calls Tryz.prog 4 #[.int .i64 n, .int .i64 1099511627776] w1 fun e w' => e = .returned (.int .i64 (pickN n 1099511627776)) ∧ w' = w1) := fun w1 => Tryz.pick_fun n 1099511627776 w1 hn0 hn1 (by omega) (by omega)
  obtain ⟨k, hkk⟩ : ∃ k : Nat, k = pickN bad 23 := ⟨_, rfl⟩
  obtain ⟨q, hqq⟩ : ∃ q : Nat, q = pickN n 1099511627776 := ⟨_, rfl⟩
  rw [← hkk] at HPI hk
  rw [← hqq] at HPJ hq
  have hk : k < 23 := by omega
  have hq : q < 1099511627776 := by omega
  have hE : ∀ w1, Below W.heap.size W w1 → Tryz.Env3 w1 := fun w1 h1 => (henv.below hBW).below h1
  have htl := firm_short k hk
  have hll : longT.length = 2001 := long_len
  have HR1 : Hid (∀ w1, Below W.heap.size W w1 → Calls Tryz.prog 5 #[.string ⟨(firmT.getD k []).toArray⟩, .string ⟨#[]⟩, .int .i64 (firmE.getD k 0)] w1 fun e w' => e = .returned (.bool true) ∧ Below w1.heap.size w1 w') := fun w1 h1 => Tryz.refused_any (firmT.getD k []) [] _ w1 (by omega) (by simp) (hE w1 h1).env2 (firm_parse k hk)
  have HR2 : Hid (∀ w1, Below W.heap.size W w1 → Calls Tryz.prog 5 #[.string ⟨#[120]⟩, .string ⟨(firmT.getD k []).toArray⟩, .int .i64 2] w1 fun e w' => e = .returned (.bool (decide (k ≠ 0))) ∧ Below w1.heap.size w1 w') := by
    intro w1 h1
    by_cases h0 : k = 0
    · rw [show decide (k ≠ 0) = false by simp [h0]]
      exact Tryz.refused_no [120] (firmT.getD k []) 2 _ w1 (by decide) (by omega) (hE w1 h1).env2 (firm_base k hk) (by rw [if_pos h0]; decide)
    · rw [show decide (k ≠ 0) = true by simp [h0]]
      have hp := firm_base k hk
      rw [if_neg h0] at hp
      exact Tryz.refused_any [120] (firmT.getD k []) 2 w1 (by decide) (by omega) (hE w1 h1).env2 hp
  have HR3 : Hid (∀ w1, Below W.heap.size W w1 → Calls Tryz.prog 5 #[.string ⟨#[120]⟩, .string ⟨#[]⟩, .int .i64 3] w1 fun e w' => e = .returned (.bool true) ∧ Below w1.heap.size w1 w') := fun w1 h1 => Tryz.refused_any [120] [] 3 w1 (by decide) (by simp) (hE w1 h1).env2 (firm_base 0 (by omega))
  have HSP : Hid (∀ w1, Below W.heap.size W w1 → Calls Tryz.prog 6 #[.string ⟨(firmT.getD k []).toArray⟩] w1 fun e w' => e = .returned (.tuple #[.agg zeroParts, .int .i64 (firmE.getD k 0)]) ∧ Below w1.heap.size w1 w') := fun w1 h1 => Tryz.Split_err (firmT.getD k []) _ w1 (firm_alone k hk) (by unfold maxLen; omega) (hE w1 h1).env2
  have HOR : Hid (∀ w1, Below W.heap.size W w1 → Calls Tryz.prog 7 #[.string ⟨(firmT.getD k []).toArray⟩] w1 fun e w' => e = .returned (.tuple #[.string ⟨#[]⟩, .int .i64 (firmE.getD k 0)]) ∧ Below w1.heap.size w1 w') := fun w1 h1 => Tryz.Origin_err (firmT.getD k []) _ w1 (firm_alone k hk) (by unfold maxLen; omega) (hE w1 h1).env2
  have HW1 : Hid (∀ w1, Below W.heap.size W w1 → Calls Tryz.prog 8 #[.string ⟨(firmT.getD k []).toArray⟩, .int .i64 1, .string ⟨#[120]⟩] w1 fun e w' => e = .returned (.tuple #[.string ⟨#[]⟩, .int .i64 (firmE.getD k 0)]) ∧ Below w1.heap.size w1 w') := by
    intro w1 h1
    have := Tryz.With_any (firmT.getD k []) [120] 1 w1 (by unfold maxLen; omega) (by decide) (by omega) (by omega) (hE w1 h1)
    rw [firm_with k hk] at this
    exact this
  have HL1 : Hid (∀ w1, Below W.heap.size W w1 → Calls Tryz.prog 5 #[.string ⟨longT.toArray⟩, .string ⟨#[]⟩, .int .i64 1] w1 fun e w' => e = .returned (.bool true) ∧ Below w1.heap.size w1 w') := fun w1 h1 => Tryz.refused_any longT [] 1 w1 (by omega) (by simp) (hE w1 h1).env2 (long_parse [])
  have HL2 : Hid (∀ w1, Below W.heap.size W w1 → Calls Tryz.prog 5 #[.string ⟨#[120]⟩, .string ⟨longT.toArray⟩, .int .i64 1] w1 fun e w' => e = .returned (.bool true) ∧ Below w1.heap.size w1 w') := fun w1 h1 => Tryz.refused_any [120] longT 1 w1 (by decide) (by omega) (hE w1 h1).env2 (long_base [120])
  have hlz : (⟨longT.toArray⟩ : ByteArray).size = 2001 := by rw [size_mk]; exact hll
  have HL3 : Hid (∀ w1, Calls Tryz.prog 9 #[.string ⟨longT.toArray⟩, .bool true] w1 fun e w' => e = .returned (.tuple #[.string ⟨#[]⟩, .int .i64 1]) ∧ w' = w1) := fun w1 => Tryz.Host_long _ true w1 (by omega) (by unfold maxLen; omega)
  have HL4 : Hid (∀ w1, Below W.heap.size W w1 → Calls Tryz.prog 6 #[.string ⟨longT.toArray⟩] w1 fun e w' => e = .returned (.tuple #[.agg zeroParts, .int .i64 1]) ∧ Below w1.heap.size w1 w') := fun w1 h1 => Tryz.Split_err longT _ w1 long_alone (by unfold maxLen; omega) (hE w1 h1).env2
  have HL5 : Hid (∀ w1, Below W.heap.size W w1 → Calls Tryz.prog 8 #[.string ⟨#[104, 116, 116, 112, 58, 47, 47, 104]⟩, .int .i64 1, .string ⟨longT.toArray⟩] w1 fun e w' => e = .returned (.tuple #[.string ⟨#[]⟩, .int .i64 1]) ∧ Below w1.heap.size w1 w') := by
    intro w1 h1
    have := Tryz.With_any [104, 116, 116, 112, 58, 47, 47, 104] longT 1 w1 (by decide) (by unfold maxLen; omega) (by omega) (by omega) (hE w1 h1)
    rw [long_with] at this
    exact this
  have HL6 : Hid (∀ w1, Calls Tryz.prog 10 #[.string ⟨longT.toArray⟩] w1 fun e w' => e = .returned (.tuple #[.slice none 0 0, .int .i64 1]) ∧ w' = w1) := fun w1 => Tryz.Pairs_long _ w1 (by omega) (by unfold maxLen; omega)
  have HL7 : Hid (∀ w1 (g : Nat), g < w1.heap.size → w1.cell? ⟨g, 0, none⟩ = some (.string ⟨longT.toArray⟩) → w1.cell? ⟨g, 1, none⟩ = some (.string ⟨#[]⟩) → Calls Tryz.prog 11 #[.slice (some ⟨g, 0, none⟩) 1 1] w1 fun e w' => e = .returned (.tuple #[.string ⟨#[]⟩, .int .i64 1]) ∧ Below w1.heap.size w1 w') := by
    intro w1 g hg c1 c2
    refine Tryz.Join_long [(longT, [])] _ w1 ⟨some ⟨g, 0, none⟩, 1, rfl, by simp, by unfold maxLen; omega, fun j p hj => ?_⟩ (fun p hp => by simp at hp; subst hp; exact ⟨by show longT.length ≤ _; omega, by simp⟩) (by show 2000 < sumLen [(longT, [])]; simp [sumLen, hll])
    cases j with
    | zero => simp at hj; subst hj; exact ⟨g, rfl, hg, c1, c2⟩
    | succ j => simp at hj
  have HW9 : Hid (∀ w1, Below W.heap.size W w1 → Calls Tryz.prog 8 #[.string ⟨#[104, 116, 116, 112, 58, 47, 47, 104]⟩, .int .i64 (9 + (q : Int)), .string ⟨#[120]⟩] w1 fun e w' => e = .returned (.tuple #[.string ⟨#[]⟩, .int .i64 6]) ∧ Below w1.heap.size w1 w') := by
    intro w1 h1
    have := Tryz.With_any [104, 116, 116, 112, 58, 47, 47, 104] [120] (9 + (q : Int)) w1 (by decide) (by decide) (by omega) (by omega) (hE w1 h1)
    rw [part_nine _ (by omega)] at this
    exact this
  have HW6 : Hid (∀ w1, Below W.heap.size W w1 → Calls Tryz.prog 8 #[.string ⟨#[97, 58, 98]⟩, .int .i64 6, .string ⟨#[120]⟩] w1 fun e w' => e = .returned (.tuple #[.string ⟨#[]⟩, .int .i64 6]) ∧ Below w1.heap.size w1 w') := by
    intro w1 h1
    have := Tryz.With_any [97, 58, 98] [120] 6 w1 (by decide) (by decide) (by omega) (by omega) (hE w1 h1)
    rw [part_path] at this
    exact this
  have HWK : Hid (∀ w1, Below W.heap.size W w1 → Calls Tryz.prog 12 #[] w1 fun e w' => e = .returned (.bool true) ∧ Below w1.heap.size w1 w') := fun w1 h1 => Tryz.works_any w1 (hE w1 h1).env2
  have HC : Hid (∀ w1, Below W.heap.size W w1 → w1.cell? ⟨w.heap.size, k, none⟩ = some (.string ⟨(firmT.getD k []).toArray⟩) ∧ w1.cell? ⟨w.heap.size + 1, k, none⟩ = some (.int .i64 (firmE.getD k 0))) := fun w1 h1 => ⟨(cell_heap ((h1.block _ (by omega)).trans h2.1) k).trans (firmTA_get k hk), (cell_heap ((h1.block _ (by omega)).trans h2.2) k).trans (firmEA_get k hk)⟩
  have HBW : Hid (∀ w1, Below W.heap.size W w1 → Below w.heap.size w w1) := fun w1 h1 => hBW.trans (h1.mono (by omega))
  have hemp0 : (⟨(firmT.getD k []).toArray⟩ : ByteArray).toList.isEmpty = decide (k = 0) := by rw [mk_empty]; exact firm_empty k hk
  obtain ⟨kb, hkb⟩ : ∃ kb : Bool, kb = decide (k ≠ 0) := ⟨_, rfl⟩
  have hemp : (⟨(firmT.getD k []).toArray⟩ : ByteArray).toList.isEmpty = !kb := by rw [hemp0, hkb]; simp
  rw [← hkb] at HR2
  clear hkb hemp0
  have HLB : Hid ((⟨longT.toArray⟩ : ByteArray) = ⟨(List.replicate 2001 (0 : UInt8)).toArray⟩) := rfl
  have HW : Hid ((w.alloc (.cells firmTA 9)).alloc (.cells firmEA 23) = W) := hW.symm
  have hk0 : (0 : Int) ≤ (k : Int) := by omega
  have hk1 : (k : Int) < 23 := by omega
  have hwr : wrap64 (9 + (q : Int)) = 9 + (q : Int) := wrap64_id _ (by omega) (by omega)
  generalize (⟨(firmT.getD k []).toArray⟩ : ByteArray) = tx at *
  generalize firmE.getD k 0 = er at *
  obtain ⟨lb, hlb⟩ : ∃ lb : ByteArray, lb = ⟨longT.toArray⟩ := ⟨_, rfl⟩
  rw [← hlb] at HL1 HL2 HL3 HL4 HL5 HL6 HL7 HLB
  have HWR : Hid (wrap64 (9 + (q : Int)) = 9 + (q : Int)) := hwr
  clear hwr hq
  clear hq
  clear hW hBW h2 hsize hkk hqq hE htl hll hlz hb0 hb1 hn0 hn1 henv hlb
  go_enter Tryz.func3, Tryz.ntmps3
  go_upto_region 3 with fail
  have hw := HW.out
  unfold firmTA firmEA at hw
  rw [hw]
  clear hw HW
  go_wp2_with fail
  refine Calls.mono (HPI.out W) ?_
  rintro e W0 ⟨rfl, hw0⟩
  have hw0 := hw0.symm
  subst hw0
  obtain ⟨ct, ce⟩ := HC.out W (Below.refl _ _)
  go_upto_region 4 with fail
  go_region_held3 (fun w' => w'.cell? ⟨w.heap.size, k, none⟩ = some (.string tx) ∧ w'.cell? ⟨w.heap.size + 1, k, none⟩ = some (.int .i64 er)) (go_keep) (first | (go_at_call 5; refine Calls.mono (HR1.out _ (by first | exact Below.refl _ _ | exact same_heap rfl rfl rfl rfl)) ?_; rintro e w1 ⟨rfl, b1⟩; have HB1 : Hid (Below W.heap.size W w1) := (by first | exact b1 | exact (same_heap rfl rfl rfl rfl : Below W.heap.size W W.drew).trans b1); clear b1; obtain ⟨ct1, ce1⟩ := HC.out w1 HB1.out))
  go_wp2_with fail
  refine Calls.mono (HR2.out w1 HB1.out) ?_
  rintro e w2 ⟨rfl, b2⟩
  have HB2 : Hid (Below W.heap.size W w2) := HB1.out.trans (b2.mono HB1.out.size)
  obtain ⟨ct2, ce2⟩ := HC.out w2 HB2.out
  clear b2 ct ce ct1 ce1
  go_upto_if 59 with fail
  go_cut [9] (fun x wx => x = .bool true ∧ Below W.heap.size W wx)
  case first =>
    as_aux_lemma =>
      cases kb with
      | false =>
        rw [Bool.not_false] at hemp
        go_wp2_with fail
        refine Calls.mono (HR3.out w2 HB2.out) ?_
        rintro e w3 ⟨rfl, b3⟩
        go_wp2_with fail
        go_meet
        exact ⟨rfl, HB2.out.trans (b3.mono HB2.out.size)⟩
      | true =>
        rw [Bool.not_true] at hemp
        go_wp2_with fail
        go_meet
        exact ⟨rfl, HB2.out⟩
  case rest =>
  obtain ⟨hx9, bc⟩ := hcut
  subst hx9
  have HBC : Hid (Below W.heap.size W wc) := bc
  obtain ⟨ct3, ce3⟩ := HC.out wc bc
  clear bc ct2 ce2 HR1 HR2 HR3 HB1 HB2 hemp
  go_wp2_with fail
  refine Calls.mono (HSP.out wc HBC.out) ?_
  rintro e w3 ⟨rfl, b3⟩
  have HB3 : Hid (Below W.heap.size W w3) := HBC.out.trans (b3.mono HBC.out.size)
  clear b3 ct3 ce3 HSP
  obtain ⟨V, hV⟩ : ∃ V, V = (w3.alloc (.cells zeroParts 28)).setRow w3.heap.size zeroParts := ⟨_, rfl⟩
  have HN : Hid ((w3.alloc (.cells zeroParts 28)).heap[w3.heap.size]? = some (.cells zeroParts 28 (0, 0))) := alloc_here w3 _ _
  have hVc : V.heap[w3.heap.size]? = some (.cells zeroParts 28 (0, 0)) := by
    rw [hV]
    exact setRow_here HN.out _
  have hVB : Below W.heap.size W V := by
    rw [hV]
    exact below_setRow (HB3.out.alloc HB3.out.size _) HB3.out.size _
  have HVB : Hid (∀ w1, Below V.heap.size V w1 → Below W.heap.size W w1) := fun w1 h1 => hVB.trans (h1.mono hVB.size)
  have HVC : Hid (∀ w1, Below V.heap.size V w1 → w1.cell? ⟨w3.heap.size, 0, none⟩ = some (.string ⟨#[]⟩) ∧ w1.cell? ⟨w3.heap.size, 5, none⟩ = some (.int .i64 0)) := by
    intro w1 h1
    have k := (h1.block _ (Array.getElem?_eq_some_iff.1 hVc).1).trans hVc
    exact ⟨cell_heap k 0, cell_heap k 5⟩
  have HVE : Hid (V = (w3.alloc (.cells #[.string ⟨#[]⟩, .string ⟨#[]⟩, .string ⟨#[]⟩, .bool false, .string ⟨#[]⟩, .int .i64 0, .bool false, .string ⟨#[]⟩, .bool false, .string ⟨#[]⟩, .bool false, .string ⟨#[]⟩] 28)).setRow w3.heap.size zeroParts) := hV
  obtain ⟨ct4, ce4⟩ := HC.out V hVB
  clear hV hVc hVB HB3 HBC
  go_upto_region 9 with (refine wpList_store_row rfl 28 _ _ rfl w3.heap.size zeroParts rfl rfl 28 zeroParts HN.out Tryz.sizeParts rfl zeroParts_one ?_)
  rw [← HVE.out]
  clear HVE HN
  go_wp2_with fail
  refine Calls.mono (HOR.out V (HVB.out V (Below.refl _ _))) ?_
  rintro e w4 ⟨rfl, b4⟩
  obtain ⟨ct5, ce5⟩ := HC.out w4 (HVB.out w4 b4)
  clear ct4 ce4
  go_wp2_with fail
  refine Calls.mono (HW1.out w4 (HVB.out w4 b4)) ?_
  rintro e w5 ⟨rfl, b5⟩
  have HB5 : Hid (Below V.heap.size V w5) := b4.trans (b5.mono b4.size)
  clear b4 b5 ct5 ce5 HOR HW1
  obtain ⟨U, hU⟩ : ∃ U, U = w5.alloc (.cells (madeCells #[.int .u8 0] 2001) 5) := ⟨_, rfl⟩
  have hUB : Below V.heap.size V U := by
    rw [hU]
    exact HB5.out.alloc HB5.out.size _
  have hcv : (convert 34 9 (.slice (some ⟨w5.heap.size, 0, none⟩) 2001 2001)).run Tryz.prog (w5.alloc (.cells (madeCells #[.int .u8 0] 2001) 5)) = .ok (.string lb) (w5.alloc (.cells (madeCells #[.int .u8 0] 2001) 5)) := by
    have h := run_convert_bytes_back (P := Tryz.prog) (w5.alloc (.cells (madeCells #[.int .u8 0] 2001) 5)) 34 9 5 ⟨w5.heap.size, 0, none⟩ 2001 longT Tryz.underlying34 Tryz.underlying5 Tryz.underlying9 (fun i hi => by
      rw [made_cell w5 5 2001 i (by rw [long_len] at hi; exact hi), long_get i hi]
      rfl)
    rw [long_len] at h
    rw [HLB.out]
    exact h
  have HUE : Hid (U = w5.alloc (.cells (madeCells #[.int .u8 0] 2001) 5)) := hU
  have HUB : Hid (Below V.heap.size V U) := hUB
  obtain ⟨i0, hi, hz0, hz1, hz2⟩ := info_parts Tryz.infoByte
  have HI : Hid _ := hi
  have HZ0 : Hid _ := hz0
  have HZ1 : Hid _ := hz1
  have HB2 : Hid (i0.bytes * 2001 ≤ 281474976710656) := by show _ ≤ _; rw [hz2]; omega
  clear hU hUB hi hz0 hz1 hz2 HB5
  go_upto_region 12 with (first | refine wpList_make_row _ rfl _ _ 34 rfl 5 i0 (.int .u8 0) Tryz.underlying34 HI.out HZ0.out HZ1.out rfl _ _ 2001 rfl rfl HB2.out (by decide) ?_)
  rw [← HUE.out]
  clear HUE hcv HI HZ0 HZ1 HB2
  have hu := HVB.out U HUB.out
  go_wp2_with fail
  refine Calls.mono (HL1.out U hu) ?_
  rintro e w6 ⟨rfl, b6⟩
  have b6 := HUB.out.trans (b6.mono HUB.out.size)
  go_wp2_with fail
  refine Calls.mono (HL2.out w6 (HVB.out w6 b6)) ?_
  rintro e w7 ⟨rfl, b7⟩
  have b7 := b6.trans (b7.mono b6.size)
  go_wp2_with fail
  refine Calls.mono (HL3.out w7) ?_
  rintro e W8 ⟨rfl, hw8⟩
  have hw8 := hw8.symm
  subst hw8
  go_wp2_with fail
  refine Calls.mono (HL4.out w7 (HVB.out w7 b7)) ?_
  rintro e w8 ⟨rfl, b8⟩
  have HB8 : Hid (Below V.heap.size V w8) := b7.trans (b8.mono b7.size)
  clear b6 b7 b8 hu HUB HL1 HL2 HL3 HL4
  obtain ⟨Y, hY⟩ : ∃ Y, Y = (w8.alloc (.cells zeroParts 28)).setRow w8.heap.size zeroParts := ⟨_, rfl⟩
  have HN : Hid ((w8.alloc (.cells zeroParts 28)).heap[w8.heap.size]? = some (.cells zeroParts 28 (0, 0))) := alloc_here w8 _ _
  have hYc : Y.heap[w8.heap.size]? = some (.cells zeroParts 28 (0, 0)) := by
    rw [hY]
    exact setRow_here HN.out _
  have hYB : Below V.heap.size V Y := by
    rw [hY]
    exact below_setRow (HB8.out.alloc HB8.out.size _) HB8.out.size _
  have HYB : Hid (∀ w1, Below Y.heap.size Y w1 → Below V.heap.size V w1) := fun w1 h1 => hYB.trans (h1.mono hYB.size)
  have HYC : Hid (∀ w1, Below Y.heap.size Y w1 → w1.cell? ⟨w8.heap.size, 0, none⟩ = some (.string ⟨#[]⟩) ∧ w1.cell? ⟨w8.heap.size, 5, none⟩ = some (.int .i64 0)) := by
    intro w1 h1
    have k := (h1.block _ (Array.getElem?_eq_some_iff.1 hYc).1).trans hYc
    exact ⟨cell_heap k 0, cell_heap k 5⟩
  have HYE : Hid (Y = (w8.alloc (.cells #[.string ⟨#[]⟩, .string ⟨#[]⟩, .string ⟨#[]⟩, .bool false, .string ⟨#[]⟩, .int .i64 0, .bool false, .string ⟨#[]⟩, .bool false, .string ⟨#[]⟩, .bool false, .string ⟨#[]⟩] 28)).setRow w8.heap.size zeroParts) := hY
  clear hY hYc hYB HB8
  go_upto_region 16 with (refine wpList_store_row rfl 28 _ _ rfl w8.heap.size zeroParts rfl rfl 28 zeroParts HN.out Tryz.sizeParts rfl zeroParts_one ?_)
  rw [← HYE.out]
  clear HYE HN
  go_wp2_with fail
  refine Calls.mono (HL5.out Y (HVB.out Y (HYB.out Y (Below.refl _ _)))) ?_
  rintro e w9 ⟨rfl, b9⟩
  go_wp2_with fail
  refine Calls.mono (HL6.out w9) ?_
  rintro e W9 ⟨rfl, hw9⟩
  have hw9 := hw9.symm
  subst hw9
  obtain ⟨Z, hZ⟩ : ∃ Z, Z = w9.alloc (.cells #[.string lb, .string ⟨#[]⟩] 41) := ⟨_, rfl⟩
  have HZE : Hid (w9.alloc (.cells #[.string lb, .string ⟨#[]⟩] 41) = Z) := hZ.symm
  have hZB : Below Y.heap.size Y Z := by
    rw [hZ]
    exact b9.alloc b9.size _
  have HJN : Hid (Calls Tryz.prog 11 #[.slice (some ⟨w9.heap.size, 0, none⟩) 1 1] Z fun e w' => e = .returned (.tuple #[.string ⟨#[]⟩, .int .i64 1]) ∧ Below Z.heap.size Z w') := by
    have k : Z.heap[w9.heap.size]? = some (.cells #[.string lb, .string ⟨#[]⟩] 41 (0, 0)) := by rw [hZ]; exact alloc_here w9 _ _
    exact HL7.out Z w9.heap.size (Array.getElem?_eq_some_iff.1 k).1 (cell_heap k 0) (cell_heap k 1)
  have HZB : Hid (Below Y.heap.size Y Z) := hZB
  clear hZ hZB b9 HL5 HL6 HL7
  go_wp2_with fail
  rw [HZE.out]
  refine Calls.mono HJN.out ?_
  rintro e w10 ⟨rfl, b10⟩
  have b10 := HZB.out.trans (b10.mono HZB.out.size)
  go_wp2_with fail
  refine Calls.mono (HPJ.out w10) ?_
  rintro e W11 ⟨rfl, hw11⟩
  have hw11 := hw11.symm
  subst hw11
  have hwr := HWR.out
  go_wp2_with fail
  refine Calls.mono (HW9.out w10 (HVB.out w10 (HYB.out w10 b10))) ?_
  rintro e w11 ⟨rfl, b11⟩
  have b11 := b10.trans (b11.mono b10.size)
  clear hwr
  go_wp2_with fail
  refine Calls.mono (HW6.out w11 (HVB.out w11 (HYB.out w11 b11))) ?_
  rintro e w12 ⟨rfl, b12⟩
  have HB12 : Hid (Below Y.heap.size Y w12) := b11.trans (b12.mono b11.size)
  clear b10 b11 b12 HZE HJN HZB HPJ HW9 HW6 HWR HPI
  obtain ⟨y0, y5⟩ := HYC.out w12 HB12.out
  obtain ⟨v0, v5⟩ := HVC.out w12 (HYB.out w12 HB12.out)
  obtain ⟨ct6, ce6⟩ := HC.out w12 (HVB.out w12 (HYB.out w12 HB12.out))
  have e0 := empty_yes
  go_wp2_with fail
  refine Calls.mono (HWK.out w12 (HVB.out w12 (HYB.out w12 HB12.out))) ?_
  rintro e w13 ⟨rfl, b13⟩
  have HB13 : Hid (Below w.heap.size w w13) := HBW.out w13 ((HVB.out w12 (HYB.out w12 HB12.out)).trans (b13.mono (HVB.out w12 (HYB.out w12 HB12.out)).size))
  clear b13
  go_wp2_with fail
  go_ret
  exact ⟨rfl, HB13.out⟩
end Go.Proofs
