/-
  What host.tellSpecial answers: a host of a special scheme, told, or an empty text and an error.
-/
import Derived.Test.YtkcnageeamappaaGreatDoorIp4
import Derived.Test.YtkcnageeamappaaGreatDoorFmt
namespace Go.Proofs
open Go.RowKit Go.Moor

/-- A text and no error, or an empty text and an error. -/
def StrRes (o : Option (List UInt8)) (e : Ending) : Prop :=
  match o with
  | some l => e = .returned (.tuple #[.string ⟨l.toArray⟩, .nilIface])
  | none => ∃ t v, e = .returned (.tuple #[.string ⟨#[]⟩, .iface t v])

theorem Tryz.indexByte_yes (s : ByteArray) (c : UInt8) (w : World) (h : 0 ≤ Lib.indexByte s.data.toList c) : Calls Tryz.prog 141 #[.string s, .int .u8 c.toNat] w fun e w' => (∃ i : Int, 0 ≤ i ∧ e = .returned (.int .i64 i)) ∧ w' = w := by
  refine (Tryz.strings_IndexByte s c.toNat w).mono ?_
  rintro e w' ⟨rfl, rfl⟩
  exact ⟨⟨_, by simpa using h, rfl⟩, rfl⟩
theorem Tryz.indexByte_no (s : ByteArray) (c : UInt8) (w : World) (h : ¬ 0 ≤ Lib.indexByte s.data.toList c) : Calls Tryz.prog 141 #[.string s, .int .u8 c.toNat] w fun e w' => (∃ i : Int, i < 0 ∧ e = .returned (.int .i64 i)) ∧ w' = w := by
  refine (Tryz.strings_IndexByte s c.toNat w).mono ?_
  rintro e w' ⟨rfl, rfl⟩
  exact ⟨⟨_, by simpa using h, rfl⟩, rfl⟩

theorem Tryz.holds0_yes (c : UInt8) (w : World) (hs : Tryz.Sets w) (hz : 13 < w.heap.size) (h : holdsB 0 c.toNat = true) : Calls Tryz.prog 142 #[.int .i64 0, .int .u8 c.toNat] w fun e w' => e = .returned (.bool true) ∧ Below w.heap.size w w' := by
  have := Tryz.holds_any 0 c w hs hz
  rw [h] at this
  exact this
theorem Tryz.holds0_no (c : UInt8) (w : World) (hs : Tryz.Sets w) (hz : 13 < w.heap.size) (h : holdsB 0 c.toNat = false) : Calls Tryz.prog 142 #[.int .i64 0, .int .u8 c.toNat] w fun e w' => e = .returned (.bool false) ∧ Below w.heap.size w w' := by
  have := Tryz.holds_any 0 c w hs hz
  rw [h] at this
  exact this

theorem any_bad (s : ByteArray) (k : Nat) (h : k < s.size) (hb : badS s[k] = true) : s.data.toList.any badS = true := by
  rw [List.any_eq_true]
  exact ⟨s[k], List.getElem_mem (l := s.data.toList) (n := k) (by simpa using h), hb⟩

theorem any_good (s : ByteArray) (h : ∀ (j : Nat) (hj : j < s.size), badS s[j] = false) : s.data.toList.any badS = false := by
  rw [List.any_eq_false]
  intro x hx
  obtain ⟨j, hj, rfl⟩ := List.getElem_of_mem hx
  have : badS s.data.toList[j] = false := h j (by simpa using hj)
  rw [this]; simp

set_option maxHeartbeats 4000000 in
theorem Tryz.tellSpecial_any (s : ByteArray) (w : World) (hs : s.size < 4294967281) (henv : Tryz.Env w) :
    Calls Tryz.prog 84 #[.string s] w fun e w' => StrRes (hostSpecial s.data.toList) e ∧ Below w.heap.size w w' := by
  have HV : Hid (Tryz.Env w) := henv
  clear henv
  by_cases hem : s.toList.isEmpty = true
  · obtain ⟨te, ve, hce⟩ := HV.out.eEmpty
    go_enter Tryz.func84, Tryz.ntmps84
    go_wp2
    go_quiet (fail)
    go_wp2
    go_ret2
    refine ⟨?_, Go.below_drewN (Below.refl _ _) _⟩
    unfold hostSpecial
    rw [if_pos (by rw [Lib.toList_data] at hem; simpa using hem)]
    exact ⟨_, _, rfl⟩
  · have hem2 : s.toList.isEmpty = false := Bool.eq_false_iff.2 hem
    have HNE : Hid (¬ s.data.toList = []) := by show ¬ _; intro h; rw [Lib.toList_data, h] at hem; exact hem rfl
    clear hem
    go_enter Tryz.func84, Tryz.ntmps84
    go_wp2_with fail
    go_loopw [4] (fun i wr => ∃ k : Nat, k ≤ s.size ∧ i = .int .i64 k ∧ (∀ (j : Nat) (hj : j < s.size), j < k → badS s[j] = false) ∧ Below w.heap.size w wr) (fun i _ => s.size - (intOf i).toNat)
    case atStart => exact ⟨0, Nat.zero_le _, rfl, fun j hj h => by omega, Below.refl _ _⟩
    case round =>
      obtain ⟨k, hk, rfl, hgood, hbw⟩ := hrel
      have HBR : Hid (Below w.heap.size w wr) := hbw
      have HVr : Hid (Tryz.Env wr) := HV.out.below hbw
      clear hbw
      have HG : Hid (∀ (j : Nat) (hj : j < s.size), j < k → badS s[j] = false) := hgood
      clear hgood
      by_cases hlt : k < s.size
      · by_cases hb : badS s[k] = true
        · have HB : Hid (s.data.toList.any badS = true) := any_bad s k hlt hb
          have HR : Hid (hostSpecial s.data.toList = none) := by show _ = _; unfold hostSpecial; rw [if_neg HNE.out, if_pos HB.out]
          by_cases h1 : 0 ≤ Lib.indexByte forbS s[k]
          · clear hb
            go_wp2_with (go_at_call 141; refine (Tryz.indexByte_yes _ _ _ h1).mono ?_; rintro e w' ⟨⟨i, hi, rfl⟩, hw0⟩; have hw0 := hw0.symm; subst hw0)
            go_quiet (fail)
            go_wp2
            go_ret2
            refine ⟨?_, Go.below_drewN HBR.out _⟩
            rw [HR.out]
            exact ⟨_, _, rfl⟩
          · have h2 : holdsB 0 s[k].toNat = true := by
              unfold badS at hb
              rw [decide_eq_false h1] at hb
              simpa using hb
            clear hb
            have HH : Hid (Calls Tryz.prog 142 #[.int .i64 0, .int .u8 s[k].toNat] wr fun e w' => e = .returned (.bool true) ∧ Below wr.heap.size wr w') := Tryz.holds0_yes _ _ HVr.out.sets (by have := HVr.out.size; omega) h2
            go_wp2_with (first | (go_at_call 141; refine (Tryz.indexByte_no _ _ _ h1).mono ?_; rintro e w' ⟨⟨i, hi, rfl⟩, hw0⟩; have hw0 := hw0.symm; subst hw0) | fail)
            refine HH.out.mono ?_
            rintro e W0 ⟨rfl, b0⟩
            have HB0 : Hid (Below w.heap.size w W0) := HBR.out.trans (b0.mono HBR.out.size)
            clear b0
            go_wp2
            go_quiet (fail)
            go_wp2
            go_ret2
            refine ⟨?_, Go.below_drewN HB0.out _⟩
            rw [HR.out]
            exact ⟨_, _, rfl⟩
        · have hb2 : badS s[k] = false := Bool.eq_false_iff.2 hb
          have HG2 : Hid (∀ (j : Nat) (hj : j < s.size), j < k + 1 → badS s[j] = false) := by
            intro j hj h
            by_cases e : j = k
            · subst e; exact hb2
            · exact HG.out j hj (by omega)
          have h1 : ¬ 0 ≤ Lib.indexByte forbS s[k] := fun h => by unfold badS at hb2; rw [decide_eq_true h] at hb2; simp at hb2
          have h2 : holdsB 0 s[k].toNat = false := (Bool.or_eq_false_iff.1 hb2).2
          clear hb hb2
          have HH : Hid (Calls Tryz.prog 142 #[.int .i64 0, .int .u8 s[k].toNat] wr fun e w' => e = .returned (.bool false) ∧ Below wr.heap.size wr w') := Tryz.holds0_no _ _ HVr.out.sets (by have := HVr.out.size; omega) h2
          go_wp2_with (first | (go_at_call 141; refine (Tryz.indexByte_no _ _ _ h1).mono ?_; rintro e w' ⟨⟨i, hi, rfl⟩, hw0⟩; have hw0 := hw0.symm; subst hw0) | fail)
          refine HH.out.mono ?_
          rintro e W0 ⟨rfl, b0⟩
          have HB0 : Hid (Below w.heap.size w W0) := HBR.out.trans (b0.mono HBR.out.size)
          clear b0
          go_wp2
          go_roundw
          case rel => exact ⟨k + 1, by omega, by go_num, HG2.out, HB0.out⟩
          case measure => simp [intOf]; omega
      · have HNB : Hid (s.data.toList.any badS = false) := any_good s (fun j hj => HG.out j hj (by omega))
        have HAS : Hid (∀ (j : Nat) (b : UInt8), s.data.toList[j]? = some b → b.toNat < 128) := by
          intro j b h
          refine good_ascii' b ?_
          have h1 := HNB.out
          rw [List.any_eq_false] at h1
          have := h1 b (List.mem_of_getElem? h)
          simpa using this
        clear HG
        go_wp2_with fail
        refine (Tryz.strings_ToLower_ascii s _ (by omega) HAS.out).mono ?_
        rintro e W1 ⟨rfl, b1⟩
        have b1 := HBR.out.trans (b1.mono HBR.out.size)
        have HV1 : Hid (Tryz.Env W1) := HV.out.below b1
        obtain ⟨m, hm⟩ := HV1.out.maxLen
        have HM : Hid (W1.cell? ⟨16, 0, none⟩ = some (.int .i64 m)) := hm
        clear hm
        have hsz : (⟨(Lib.toLowerA s.data.toList).toArray⟩ : ByteArray).size < 4294967281 := by rw [size_mk]; simpa [Lib.toLowerA] using hs
        by_cases hn : numLabel ((labels (Lib.toLowerA s.data.toList)).getLastD []) = true
        · have HNC : Hid (Calls Tryz.prog 144 #[.string ⟨(Lib.toLowerA s.data.toList).toArray⟩] W1 fun e w' => e = .returned (.bool true) ∧ Below W1.heap.size W1 w') := by
            have := Tryz.isNumbersHost_any ⟨(Lib.toLowerA s.data.toList).toArray⟩ m W1 hsz HM.out
            rw [show numLabel ((labels (⟨(Lib.toLowerA s.data.toList).toArray⟩ : ByteArray).data.toList).getLastD []) = true from hn] at this
            exact this
          have HN : Hid (numLabel ((labels (Lib.toLowerA s.data.toList)).getLastD []) = true) := hn
          clear hn
          go_wp2_with fail
          refine HNC.out.mono ?_
          rintro e W2 ⟨rfl, b2⟩
          have HV2 : Hid (Tryz.Env W2) := HV1.out.below b2
          have hb2 := b1.trans (b2.mono b1.size)
          clear b1 b2 HNC
          have HRC : Hid (Calls Tryz.prog 145 #[.string ⟨(Lib.toLowerA s.data.toList).toArray⟩] W2 fun e w' => NumRes (ip4 (labels (Lib.toLowerA s.data.toList))) e ∧ Below W2.heap.size W2 w') := Tryz.readIP4_any ⟨(Lib.toLowerA s.data.toList).toArray⟩ W2 hsz HV2.out
          cases ho : ip4 (labels (Lib.toLowerA s.data.toList)) with
          | none =>
            have HO : Hid (ip4 (labels (Lib.toLowerA s.data.toList)) = none) := ho
            clear ho
            go_wp2_with fail
            refine HRC.out.mono ?_
            rw [HO.out]
            rintro e W3 ⟨⟨te, ve, rfl⟩, b3⟩
            go_wp2
            go_ret2
            refine ⟨?_, hb2.trans (b3.mono hb2.size)⟩
            unfold hostSpecial
            rw [if_neg HNE.out, if_neg (by rw [HNB.out]; simp), if_pos HN.out, HO.out]
            exact ⟨_, _, rfl⟩
          | some n =>
            have HO : Hid (ip4 (labels (Lib.toLowerA s.data.toList)) = some n) := ho
            have hr := ip4_range _ n (labels_ne _) ho
            clear ho
            obtain ⟨a, rfl⟩ : ∃ a : Nat, n = a := ⟨n.toNat, by omega⟩
            go_wp2_with fail
            refine HRC.out.mono ?_
            rw [HO.out]
            rintro e W3 ⟨rfl, b3⟩
            have HV3 : Hid (Tryz.Env W3) := HV2.out.below b3
            have hb3 := hb2.trans (b3.mono hb2.size)
            go_wp2_with fail
            refine (Tryz.tellIP4_any a (by omega) _ HV3.out).mono ?_
            rintro e W4 ⟨rfl, b4⟩
            go_wp2
            go_ret2
            refine ⟨?_, hb3.trans (b4.mono hb3.size)⟩
            unfold hostSpecial
            rw [if_neg HNE.out, if_neg (by rw [HNB.out]; simp), if_pos HN.out, HO.out]
            rfl
        · have hn2 : numLabel ((labels (Lib.toLowerA s.data.toList)).getLastD []) = false := Bool.eq_false_iff.2 hn
          have HNC : Hid (Calls Tryz.prog 144 #[.string ⟨(Lib.toLowerA s.data.toList).toArray⟩] W1 fun e w' => e = .returned (.bool false) ∧ Below W1.heap.size W1 w') := by
            have := Tryz.isNumbersHost_any ⟨(Lib.toLowerA s.data.toList).toArray⟩ m W1 hsz HM.out
            rw [show numLabel ((labels (⟨(Lib.toLowerA s.data.toList).toArray⟩ : ByteArray).data.toList).getLastD []) = false from hn2] at this
            exact this
          have HN : Hid (numLabel ((labels (Lib.toLowerA s.data.toList)).getLastD []) = false) := hn2
          clear hn hn2
          go_wp2_with fail
          refine HNC.out.mono ?_
          rintro e W2 ⟨rfl, b2⟩
          go_wp2
          go_ret2
          refine ⟨?_, b1.trans (b2.mono b1.size)⟩
          unfold hostSpecial
          rw [if_neg HNE.out, if_neg (by rw [HNB.out]; simp), if_neg (by rw [HN.out]; simp)]
          rfl
end Go.Proofs
