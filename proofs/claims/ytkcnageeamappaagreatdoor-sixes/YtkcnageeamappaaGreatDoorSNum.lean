/-
  What host.readPiece, host.readPlainDecimal, host.readDecimal, host.rightCount and host.splitPieces answer.
-/
import Derived.Test.YtkcnageeamappaaGreatDoorSPlain
import Derived.Test.YtkcnageeamappaaGreatDoorLabels
namespace Go.Proofs
open Go.RowKit Go.Moor

set_option maxHeartbeats 1000000 in
theorem Tryz.readPiece_any (s : ByteArray) (w : World) (hs : s.size ≤ maxLen) (he : Tryz.Err 23 w) (he2 : Tryz.Err 18 w) :
    Calls Tryz.prog 229 #[.string s] w fun e w' => NumRes (sixPiece s.data.toList) e ∧ ∃ n, w' = w.drewN n := by
  have hlen : s.data.toList.length = s.size := by simp
  unfold sixPiece
  rw [hlen]
  have HE : Hid (Tryz.Err 23 w) := he
  obtain ⟨te, ve, hce⟩ := he2
  have hxs := hs
  unfold maxLen at hs
  clear he hlen
  by_cases h0 : s.size < 1
  · rw [if_pos (Or.inl h0)]
    go_enter Tryz.func229, Tryz.ntmps229
    go_wp2
    go_quiet (fail)
    go_wp2
    go_ret2
    exact ⟨⟨_, _, rfl⟩, _, rfl⟩
  · by_cases h4 : 4 < s.size
    · rw [if_pos (Or.inr h4)]
      go_enter Tryz.func229, Tryz.ntmps229
      go_wp2
      go_quiet (fail)
      go_wp2
      go_ret2
      exact ⟨⟨_, _, rfl⟩, _, rfl⟩
    · rw [if_neg (by omega)]
      go_enter Tryz.func229, Tryz.ntmps229
      go_wp2_with fail
      refine (Tryz.readDigits_any s 16 65535 _ hxs (by omega) (by omega) (by omega) (by omega) HE.out).mono ?_
      rintro e w1 ⟨hr, nd, rfl⟩
      obtain ⟨ra, rb, rfl, hr⟩ := numRes_ret hr
      have HR : Hid (NumRes (digAcc 16 65535 0 s.data.toList) (.returned (.tuple #[.int .u64 ra, rb]))) := hr
      clear hr
      go_wp2
      go_ret2
      exact ⟨HR.out, nd, rfl⟩

set_option maxHeartbeats 1000000 in
theorem Tryz.plainDec_empty (s : ByteArray) (w : World) (hem : s.toList.isEmpty = true) (he2 : Tryz.Err 5 w) :
    Calls Tryz.prog 294 #[.string s] w fun e w' => NumRes none e ∧ ∃ n, w' = w.drewN n := by
  obtain ⟨te, ve, hce⟩ := he2
  go_enter Tryz.func294, Tryz.ntmps294
  go_wp2
  go_quiet (fail)
  go_wp2
  go_ret2
  exact ⟨⟨_, _, rfl⟩, _, rfl⟩

set_option maxHeartbeats 1000000 in
theorem Tryz.plainDec_nought (s : ByteArray) (w : World) (hs : s.size ≤ maxLen) (hem : s.toList.isEmpty = false) (h2 : 1 < s.size) (h48 : ((s[0].toNat : Int) == 48) = true) (he2 : Tryz.Err 24 w) :
    Calls Tryz.prog 294 #[.string s] w fun e w' => NumRes none e ∧ ∃ n, w' = w.drewN n := by
  unfold maxLen at hs
  obtain ⟨te, ve, hce⟩ := he2
  go_enter Tryz.func294, Tryz.ntmps294
  go_wp2
  go_quiet (fail)
  go_wp2
  go_ret2
  exact ⟨⟨_, _, rfl⟩, _, rfl⟩

set_option maxHeartbeats 1000000 in
theorem Tryz.plainDec_dec (s : ByteArray) (w : World) (hs : s.size ≤ maxLen) (hem : s.toList.isEmpty = false) (h1 : 0 < s.size) (h48 : ((s[0].toNat : Int) == 48) = false ∨ (((s[0].toNat : Int) == 48) = true ∧ s.size < 2)) (he : Tryz.Err 23 w) :
    Calls Tryz.prog 294 #[.string s] w fun e w' => NumRes (digAcc 10 255 0 s.data.toList) e ∧ ∃ n, w' = w.drewN n := by
  have HE : Hid (Tryz.Err 23 w) := he
  have hxs := hs
  unfold maxLen at hs
  clear he
  rcases h48 with h48 | ⟨h48, hlt⟩
  all_goals
    go_enter Tryz.func294, Tryz.ntmps294
    go_wp2_with fail
    refine (Tryz.readDigits_any s 10 255 _ hxs (by omega) (by omega) (by omega) (by omega) HE.out).mono ?_
    rintro e w1 ⟨hr, nd, rfl⟩
    obtain ⟨ra, rb, rfl, hr⟩ := numRes_ret hr
    have HR : Hid (NumRes (digAcc 10 255 0 s.data.toList) (.returned (.tuple #[.int .u64 ra, rb]))) := hr
    clear hr
    go_wp2
    go_ret2
    exact ⟨HR.out, nd, rfl⟩

theorem Tryz.readPlainDecimal_any (s : ByteArray) (w : World) (hs : s.size ≤ maxLen) (he : Tryz.Err 23 w) (he2 : Tryz.Err 5 w) (he3 : Tryz.Err 24 w) :
    Calls Tryz.prog 294 #[.string s] w fun e w' => NumRes (plainDec s.data.toList) e ∧ ∃ n, w' = w.drewN n := by
  have hlen : s.data.toList.length = s.size := by simp
  match hl : s.data.toList with
  | [] => exact Tryz.plainDec_empty s w (by rw [Lib.toList_data, hl]; rfl) he2
  | a :: l =>
    have hem : s.toList.isEmpty = false := by rw [Lib.toList_data, hl]; rfl
    have h1 : 0 < s.size := by rw [← hlen, hl]; simp
    have ha := first_at s a l hl h1
    unfold plainDec
    rw [if_neg (by simp)]
    by_cases h48 : a = 48
    · have hb : ((s[0].toNat : Int) == 48) = true := by rw [ha, h48]; decide
      by_cases h2 : 1 < s.size
      · rw [if_pos ⟨by simp [h48], by rw [← hl, hlen]; exact h2⟩]
        exact Tryz.plainDec_nought s w hs hem h2 hb he3
      · rw [if_neg (by rw [← hl, hlen]; exact fun h => h2 h.2), ← hl]
        exact Tryz.plainDec_dec s w hs hem h1 (Or.inr ⟨hb, by omega⟩) he
    · rw [if_neg (by simp [h48]), ← hl]
      refine Tryz.plainDec_dec s w hs hem h1 (Or.inl ?_) he
      rw [ha]
      have : (a.toNat : Int) ≠ 48 := fun e => h48 (by
        apply UInt8.toNat_inj.1
        show a.toNat = 48
        omega)
      simpa using this

set_option maxHeartbeats 1000000 in
theorem Tryz.readDecimal_any (s : ByteArray) (w : World) (hs : s.size ≤ maxLen) (he : Tryz.Err 23 w) (he2 : Tryz.Err 5 w) (he3 : Tryz.Err 24 w) :
    Calls Tryz.prog 265 #[.string s] w fun e w' => NumRes (plainDec s.data.toList) e ∧ ∃ n, w' = w.drewN n := by
  have HE : Hid (Tryz.Err 23 w) := he
  have HE2 : Hid (Tryz.Err 5 w) := he2
  have HE3 : Hid (Tryz.Err 24 w) := he3
  clear he he2 he3
  cases ho : plainDec s.data.toList with
  | none =>
    have HO : Hid (plainDec s.data.toList = none) := ho
    clear ho
    go_enter Tryz.func265, Tryz.ntmps265
    go_wp2_with fail
    refine (Tryz.readPlainDecimal_any s _ hs HE.out HE2.out HE3.out).mono ?_
    rw [HO.out]
    rintro e w1 ⟨⟨t, v, rfl⟩, nd, rfl⟩
    go_wp2
    go_ret2
    exact ⟨⟨_, _, rfl⟩, nd, rfl⟩
  | some n =>
    have HO : Hid (plainDec s.data.toList = some n) := ho
    clear ho
    go_enter Tryz.func265, Tryz.ntmps265
    go_wp2_with fail
    refine (Tryz.readPlainDecimal_any s _ hs HE.out HE2.out HE3.out).mono ?_
    rw [HO.out]
    rintro e w1 ⟨rfl, nd, rfl⟩
    go_wp2
    go_ret2
    exact ⟨rfl, nd, rfl⟩

set_option maxHeartbeats 1000000 in
theorem Tryz.rightCount_any (k : Int) (b : Bool) (w : World) :
    Calls Tryz.prog 194 #[.int .i64 k, .bool b] w fun e w' => e = .returned (.bool (if b then decide (k < 8) else k == 8)) ∧ w' = w := by
  cases b
  all_goals
    go_enter Tryz.func194, Tryz.ntmps194
    go_wp2
    go_ret
    exact ⟨rfl, rfl⟩

set_option maxHeartbeats 1000000 in
theorem Tryz.splitPieces_empty (s : ByteArray) (w : World) (hem : s.toList.isEmpty = true) :
    Calls Tryz.prog 192 #[.string s] w fun e w' => e = .returned (.slice none 0 0) ∧ w' = w := by
  go_enter Tryz.func192, Tryz.ntmps192
  go_wp2
  go_ret
  exact ⟨rfl, rfl⟩
end Go.Proofs
