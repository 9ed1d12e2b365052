/-
  What digit.All and escape.startsWithTwoHex answer, as contracts over lists of bytes.
-/
import Derived.Test.YtkcnageeamappaaDoorWalks
namespace Go.Proofs
open Go.RowKit Go.Moor

def Tryd.allB (base : Int) (l : List UInt8) : Bool := l.all fun c => decide (hexVal c.toNat < base)

theorem Tryd.all_drop (base : Int) (s : ByteArray) (k : Nat) (h : k < s.size) : Tryd.allB base (s.data.toList.drop k) = (decide (hexVal s[k].toNat < base) && Tryd.allB base (s.data.toList.drop (k + 1))) := by
  unfold Tryd.allB
  rw [List.drop_eq_getElem_cons (by simpa using h), List.all_cons]
  rfl

set_option maxHeartbeats 400000 in
theorem Tryd.all_any (s : ByteArray) (base : Int) (w : World) (hs : s.size ≤ maxLen) :
    Calls Tryd.prog 32 #[.string s, .int .u64 base] w fun e w' => e = .returned (.bool (Tryd.allB base s.data.toList)) ∧ w' = w := by
  unfold maxLen at hs
  have HA : Hid (Tryd.allB base s.data.toList = Tryd.allB base (s.data.toList.drop 0)) := by simp [Hid]
  rw [HA.out]
  generalize hgo : Tryd.allB base (s.data.toList.drop 0) = goal
  have HG : Hid (Tryd.allB base (s.data.toList.drop 0) = goal) := hgo
  clear hgo HA
  go_enter Tryd.func32, Tryd.ntmps32
  go_wp2
  go_loop [5] (fun i => ∃ k : Nat, k ≤ s.size ∧ i = .int .i64 k ∧ Tryd.allB base (s.data.toList.drop k) = goal) (fun i => s.size - (intOf i).toNat)
  case atStart => exact ⟨0, Nat.zero_le _, rfl, HG.out⟩
  case round =>
    obtain ⟨k, hk, rfl, hrest⟩ := hrel
    have HR : Hid (Tryd.allB base (s.data.toList.drop k) = goal) := hrest
    clear hrest
    by_cases hlt : k < s.size
    · have hc := s[k].toNat_lt
      by_cases hd : hexVal s[k].toNat < base
      · go_wp2_with (go_at_call 24; refine (Tryd.value_any _ _ (by omega) (by omega)).mono ?_; rintro e w' ⟨rfl, rfl⟩)
        go_round
        case rel => exact ⟨k + 1, by omega, by go_num, by have := HR.out; rw [Tryd.all_drop base s k hlt, decide_eq_true hd, Bool.true_and] at this; exact this⟩
        case measure => simp [intOf]; omega
      · go_wp2_with (go_at_call 24; refine (Tryd.value_any _ _ (by omega) (by omega)).mono ?_; rintro e w' ⟨rfl, rfl⟩)
        go_ret
        refine ⟨?_, rfl⟩
        have := HR.out
        rw [Tryd.all_drop base s k hlt, decide_eq_false (by omega), Bool.false_and] at this
        rw [← this]; rfl
    · go_wp2
      go_ret
      refine ⟨?_, rfl⟩
      have := HR.out
      rw [List.drop_eq_nil_of_le (by simp; omega)] at this
      rw [← this]; rfl

theorem Tryd.take2 (s : ByteArray) (h : 2 ≤ s.size) : ∃ a b r, s.data.toList = a :: b :: r ∧ (s.extract 0 2).data.toList = [a, b] ∧ s[0] = a ∧ s[1] = b ∧ (s.extract 2 s.size).data.toList = r := by
  match hl : s.data.toList with
  | [] => have : s.data.toList.length = s.size := by simp
          rw [hl] at this; simp at this; omega
  | [a] => have : s.data.toList.length = s.size := by simp
           rw [hl] at this; simp at this; omega
  | a :: b :: r =>
    refine ⟨a, b, r, rfl, ?_, ?_, ?_, ?_⟩
    · rw [Lib.extract_data, hl]; rfl
    · have : s[0] = s.data.toList[0]'(by simp; omega) := rfl
      rw [this]; simp [hl]
    · have : s[1] = s.data.toList[1]'(by simp; omega) := rfl
      rw [this]; simp [hl]
    · rw [Lib.extract_data, hl]
      have : s.data.toList.length = s.size := by simp
      rw [hl] at this
      simp at this
      rw [← this]
      simp

set_option maxHeartbeats 400000 in
theorem Tryd.two_any (s : ByteArray) (w : World) (hs : s.size ≤ maxLen) :
    Calls Tryd.prog 22 #[.string s] w fun e w' => e = .returned (.bool (twoHex s.data.toList)) ∧ w' = w := by
  by_cases h2 : 2 ≤ s.size
  · obtain ⟨a, b, r, e1, _, _, _, _⟩ := Tryd.take2 s h2
    have HT : Hid (twoHex s.data.toList = Tryd.allB 16 (List.take 2 s.data.toList)) := by rw [e1]; simp [twoHex, Tryd.allB, Hid]
    rw [HT.out]
    clear e1 HT
    have hz : (s.extract 0 2).size ≤ maxLen := by rw [ByteArray.size_extract]; unfold maxLen; omega
    unfold maxLen at hs
    go_enter Tryd.func22, Tryd.ntmps22
    go_wp2_with (go_at_call 32; refine (Tryd.all_any _ 16 _ hz).mono ?_; rintro e w' ⟨rfl, rfl⟩)
    go_ret
    exact ⟨rfl, rfl⟩
  · have ht : twoHex s.data.toList = false := by
      match hl : s.data.toList with
      | [] => rfl
      | [a] => rfl
      | a :: b :: r => have : s.data.toList.length = s.size := by simp
                       rw [hl] at this; simp at this; omega
    rw [ht]
    unfold maxLen at hs
    clear ht
    go_enter Tryd.func22, Tryd.ntmps22
    go_wp2
    go_ret
    exact ⟨rfl, rfl⟩
end Go.Proofs
