/-
  What each small function of the packages escape and digit does, as a contract: the byte sets, the values of digits, the calls that look at digits.
-/
import Derived.Test.YtajgfgnnhbpefaaGreatDoorShelf
import Derived.Test.YtajgfgnnhbpefaaGreatDoorPlain
import Derived.WalkKit
import Derived.WalkSpells
import Derived.WalkLawsBesides
import Derived.BigCall
import Derived.BigQuiet
import Derived.Deep.QuietTactic
import Derived.Deep.RegionWith
namespace Go.Proofs
open Go.RowKit Go.Moor

/-- The variable of the sets holds the table. -/
def Tryz.Sets (w : World) : Prop := ∀ k, k < 28 → w.cell? ⟨6, k, none⟩ = some (.int .u64 (tabAt k))

set_option maxHeartbeats 400000 in
theorem Tryz.holds_in (s b : Int) (v : Int) (w : World) (h0 : 0 ≤ s) (h1 : s < 7) (hb0 : 0 ≤ b) (hb1 : b < 256)
   (hc : w.cell? ⟨6, s.toNat * 4 + (b / 64).toNat, none⟩ = some (.int .u64 v)) :
    Calls Tryz.prog 93 #[.int .i64 s, .int .u8 b] w fun e w' => e = .returned (.bool (bits .and .u64 (v / 2 ^ (b % 64).toNat) 1 == 1)) ∧ w' = w := by
  go_enter Tryz.func93, Tryz.ntmps93
  go_wp2
  go_ret
  exact ⟨rfl, rfl⟩

set_option maxHeartbeats 400000 in
theorem Tryz.holds_low (s b : Int) (w : World) (h0 : s < 0) :
    Calls Tryz.prog 93 #[.int .i64 s, .int .u8 b] w fun e w' => e = .returned (.bool false) ∧ w' = w := by
  go_enter Tryz.func93, Tryz.ntmps93
  go_wp2
  go_ret
  exact ⟨rfl, rfl⟩

set_option maxHeartbeats 400000 in
theorem Tryz.holds_high (s b : Int) (w : World) (h0 : 7 ≤ s) :
    Calls Tryz.prog 93 #[.int .i64 s, .int .u8 b] w fun e w' => e = .returned (.bool false) ∧ w' = w := by
  go_enter Tryz.func93, Tryz.ntmps93
  go_wp2
  go_ret
  exact ⟨rfl, rfl⟩

theorem Tryz.holds_any (s : Int) (c : UInt8) (w : World) (hs : Tryz.Sets w) :
    Calls Tryz.prog 93 #[.int .i64 s, .int .u8 c.toNat] w fun e w' => e = .returned (.bool (holdsB s c.toNat)) ∧ w' = w := by
  have hc := c.toNat_lt
  by_cases h0 : s < 0
  · refine (Tryz.holds_low s _ w h0).mono ?_
    rintro e w' ⟨rfl, rfl⟩
    have : decide (0 ≤ s) = false := by simpa using h0
    exact ⟨by simp [holdsB, this], rfl⟩
  · by_cases h1 : 7 ≤ s
    · refine (Tryz.holds_high s _ w h1).mono ?_
      rintro e w' ⟨rfl, rfl⟩
      have : decide (s < 7) = false := by simpa using h1
      exact ⟨by simp [holdsB, this], rfl⟩
    · refine (Tryz.holds_in s c.toNat _ w (by omega) (by omega) (by omega) (by omega) (hs _ (by omega))).mono ?_
      rintro e w' ⟨rfl, rfl⟩
      have e1 : decide (0 ≤ s) = true := by simpa using h0
      have e2 : decide (s < 7) = true := by simpa using h1
      exact ⟨by unfold holdsB; rw [e1, e2, Bool.true_and, Bool.true_and], rfl⟩

set_option maxHeartbeats 400000 in
theorem Tryz.value_num (b : Int) (w : World) (hb0 : 0 ≤ b) (hb1 : b < 256) (h : 48 ≤ b ∧ b ≤ 57) :
    Calls Tryz.prog 99 #[.int .u8 b] w fun e w' => e = .returned (.int .u64 (hexVal b)) ∧ w' = w := by
  have hv : hexVal b = b - 48 := by unfold hexVal; rw [if_pos h]
  rw [hv]
  obtain ⟨h1, h2⟩ := h
  clear hv
  go_enter Tryz.func99, Tryz.ntmps99
  go_wp2
  go_ret
  exact ⟨rfl, rfl⟩
set_option maxHeartbeats 400000 in
theorem Tryz.value_cap (b : Int) (w : World) (hb0 : 0 ≤ b) (hb1 : b < 256) (h : 65 ≤ b ∧ b ≤ 70) :
    Calls Tryz.prog 99 #[.int .u8 b] w fun e w' => e = .returned (.int .u64 (hexVal b)) ∧ w' = w := by
  have hv : hexVal b = b - 65 + 10 := by unfold hexVal; rw [if_neg (by omega), if_pos h]; omega
  rw [hv]
  obtain ⟨h1, h2⟩ := h
  clear hv
  go_enter Tryz.func99, Tryz.ntmps99
  go_wp2
  go_ret
  exact ⟨rfl, rfl⟩
set_option maxHeartbeats 400000 in
theorem Tryz.value_small (b : Int) (w : World) (hb0 : 0 ≤ b) (hb1 : b < 256) (h : 97 ≤ b ∧ b ≤ 102) :
    Calls Tryz.prog 99 #[.int .u8 b] w fun e w' => e = .returned (.int .u64 (hexVal b)) ∧ w' = w := by
  have hv : hexVal b = b - 97 + 10 := by unfold hexVal; rw [if_neg (by omega), if_neg (by omega), if_pos h]; omega
  rw [hv]
  obtain ⟨h1, h2⟩ := h
  clear hv
  go_enter Tryz.func99, Tryz.ntmps99
  go_wp2
  go_ret
  exact ⟨rfl, rfl⟩
set_option maxHeartbeats 1000000 in
theorem Tryz.value_none (b : Int) (w : World) (hb0 : 0 ≤ b) (hb1 : b < 256) (h1 : ¬ (48 ≤ b ∧ b ≤ 57)) (h2 : ¬ (65 ≤ b ∧ b ≤ 70)) (h3 : ¬ (97 ≤ b ∧ b ≤ 102)) :
    Calls Tryz.prog 99 #[.int .u8 b] w fun e w' => e = .returned (.int .u64 (hexVal b)) ∧ w' = w := by
  have hv : hexVal b = 16 := by unfold hexVal; rw [if_neg h1, if_neg h2, if_neg h3]
  rw [hv]
  clear hv
  have hh : (b < 48) ∨ (57 < b ∧ b < 65) ∨ (70 < b ∧ b < 97) ∨ 102 < b := by omega
  clear h1 h2 h3
  rcases hh with h | ⟨h, h'⟩ | ⟨h, h'⟩ | h <;> go_enter Tryz.func99, Tryz.ntmps99 <;> go_wp2 <;> go_ret <;> exact ⟨rfl, rfl⟩

theorem Tryz.value_any (b : Int) (w : World) (hb0 : 0 ≤ b) (hb1 : b < 256) :
    Calls Tryz.prog 99 #[.int .u8 b] w fun e w' => e = .returned (.int .u64 (hexVal b)) ∧ w' = w := by
  by_cases h1 : 48 ≤ b ∧ b ≤ 57
  · exact Tryz.value_num b w hb0 hb1 h1
  · by_cases h2 : 65 ≤ b ∧ b ≤ 70
    · exact Tryz.value_cap b w hb0 hb1 h2
    · by_cases h3 : 97 ≤ b ∧ b ≤ 102
      · exact Tryz.value_small b w hb0 hb1 h3
      · exact Tryz.value_none b w hb0 hb1 h1 h2 h3
end Go.Proofs
