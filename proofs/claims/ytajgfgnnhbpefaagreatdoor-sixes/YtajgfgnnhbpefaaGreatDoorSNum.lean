/-
  What host.readPiece, host.readPlainDecimal, host.readDecimal, host.rightCount and host.splitPieces answer.
-/
import Derived.Test.YtajgfgnnhbpefaaGreatDoorLabels
namespace Go.Moor
open Go

/-- A piece of an IP6: one to four digits by base 16. -/
def sixPiece (l : List UInt8) : Option Int := if l.length < 1 ∨ 4 < l.length then none else digAcc 16 65535 0 l

/-- A number with dots at the end of an IP6: by base 10, none with a nought ahead, at most 255. -/
def plainDec (l : List UInt8) : Option Int := if l = [] then none else if l.head? = some 48 ∧ 1 < l.length then none else digAcc 10 255 0 l

theorem sixPiece_range (l : List UInt8) (n : Int) (h : sixPiece l = some n) : 0 ≤ n ∧ n ≤ 65535 := by
  unfold sixPiece at h
  split at h
  · simp at h
  · exact digAcc_range 16 65535 (by omega) l 0 n (by omega) (by omega) h
theorem plainDec_range (l : List UInt8) (n : Int) (h : plainDec l = some n) : 0 ≤ n ∧ n ≤ 255 := by
  unfold plainDec at h
  split at h
  · simp at h
  · split at h
    · simp at h
    · exact digAcc_range 10 255 (by omega) l 0 n (by omega) (by omega) h

/-- The pieces of a text: none of an empty one. -/
def sixSplit (l : List UInt8) : List (List UInt8) := if l = [] then [] else splitOn 58 l
end Go.Moor
namespace Go.Proofs
open Go.RowKit Go.Moor

set_option maxHeartbeats 1000000 in
theorem Tryz.readPiece_any (s : ByteArray) (w : World) (hs : s.size ≤ maxLen) (he : Tryz.Err 12 w) (he2 : Tryz.Err 10 w) :
    Calls Tryz.prog 190 #[.string s] w fun e w' => NumRes (sixPiece s.data.toList) e ∧ ∃ n, w' = w.drewN n := by
  have hlen : s.data.toList.length = s.size := by simp
  unfold sixPiece
  rw [hlen]
  have HE : Hid (Tryz.Err 12 w) := he
  obtain ⟨te, ve, hce⟩ := he2
  have hxs := hs
  unfold maxLen at hs
  clear he hlen
  by_cases h0 : s.size < 1
  · rw [if_pos (Or.inl h0)]
    go_enter Tryz.func190, Tryz.ntmps190
    go_wp2
    go_quiet (fail)
    go_wp2
    go_ret2
    exact ⟨⟨_, _, rfl⟩, _, rfl⟩
  · by_cases h4 : 4 < s.size
    · rw [if_pos (Or.inr h4)]
      go_enter Tryz.func190, Tryz.ntmps190
      go_wp2
      go_quiet (fail)
      go_wp2
      go_ret2
      exact ⟨⟨_, _, rfl⟩, _, rfl⟩
    · rw [if_neg (by omega)]
      go_enter Tryz.func190, Tryz.ntmps190
      go_wp2_with fail
      refine (Tryz.readDigits_any s 16 65535 _ hxs (by omega) (by omega) (by omega) (by omega) HE.out).mono ?_
      rintro e w1 ⟨hr, nd, rfl⟩
      obtain ⟨ra, rb, rfl, hr⟩ := numRes_ret hr
      have HR : Hid (NumRes (digAcc 16 65535 0 s.data.toList) (.returned (.tuple #[.int .u64 ra, rb]))) := hr
      clear hr
      go_wp2
      go_ret2
      exact ⟨HR.out, nd, rfl⟩

set_option maxHeartbeats 1000000 in
theorem Tryz.plainDec_empty (s : ByteArray) (w : World) (hem : s.toList.isEmpty = true) (he2 : Tryz.Err 4 w) :
    Calls Tryz.prog 248 #[.string s] w fun e w' => NumRes none e ∧ ∃ n, w' = w.drewN n := by
  obtain ⟨te, ve, hce⟩ := he2
  go_enter Tryz.func248, Tryz.ntmps248
  go_wp2
  go_quiet (fail)
  go_wp2
  go_ret2
  exact ⟨⟨_, _, rfl⟩, _, rfl⟩

set_option maxHeartbeats 1000000 in
theorem Tryz.plainDec_nought (s : ByteArray) (w : World) (hs : s.size ≤ maxLen) (hem : s.toList.isEmpty = false) (h2 : 1 < s.size) (h48 : ((s[0].toNat : Int) == 48) = true) (he2 : Tryz.Err 16 w) :
    Calls Tryz.prog 248 #[.string s] w fun e w' => NumRes none e ∧ ∃ n, w' = w.drewN n := by
  unfold maxLen at hs
  obtain ⟨te, ve, hce⟩ := he2
  go_enter Tryz.func248, Tryz.ntmps248
  go_wp2
  go_quiet (fail)
  go_wp2
  go_ret2
  exact ⟨⟨_, _, rfl⟩, _, rfl⟩

set_option maxHeartbeats 1000000 in
theorem Tryz.plainDec_dec (s : ByteArray) (w : World) (hs : s.size ≤ maxLen) (hem : s.toList.isEmpty = false) (h1 : 0 < s.size) (h48 : ((s[0].toNat : Int) == 48) = false ∨ (((s[0].toNat : Int) == 48) = true ∧ s.size < 2)) (he : Tryz.Err 12 w) :
    Calls Tryz.prog 248 #[.string s] w fun e w' => NumRes (digAcc 10 255 0 s.data.toList) e ∧ ∃ n, w' = w.drewN n := by
  have HE : Hid (Tryz.Err 12 w) := he
  have hxs := hs
  unfold maxLen at hs
  clear he
  rcases h48 with h48 | ⟨h48, hlt⟩
  all_goals
    go_enter Tryz.func248, Tryz.ntmps248
    go_wp2_with fail
    refine (Tryz.readDigits_any s 10 255 _ hxs (by omega) (by omega) (by omega) (by omega) HE.out).mono ?_
    rintro e w1 ⟨hr, nd, rfl⟩
    obtain ⟨ra, rb, rfl, hr⟩ := numRes_ret hr
    have HR : Hid (NumRes (digAcc 10 255 0 s.data.toList) (.returned (.tuple #[.int .u64 ra, rb]))) := hr
    clear hr
    go_wp2
    go_ret2
    exact ⟨HR.out, nd, rfl⟩

theorem Tryz.readPlainDecimal_any (s : ByteArray) (w : World) (hs : s.size ≤ maxLen) (he : Tryz.Err 12 w) (he2 : Tryz.Err 4 w) (he3 : Tryz.Err 16 w) :
    Calls Tryz.prog 248 #[.string s] w fun e w' => NumRes (plainDec s.data.toList) e ∧ ∃ n, w' = w.drewN n := by
  have hlen : s.data.toList.length = s.size := by simp
  match hl : s.data.toList with
  | [] => exact Tryz.plainDec_empty s w (by rw [Lib.toList_data, hl]; rfl) he2
  | a :: l =>
    have hem : s.toList.isEmpty = false := by rw [Lib.toList_data, hl]; rfl
    have h1 : 0 < s.size := by rw [← hlen, hl]; simp
    have ha := first_at s a l hl h1
    unfold plainDec
    rw [if_neg (by simp)]
    by_cases h48 : a = 48
    · have hb : ((s[0].toNat : Int) == 48) = true := by rw [ha, h48]; decide
      by_cases h2 : 1 < s.size
      · rw [if_pos ⟨by simp [h48], by rw [← hl, hlen]; exact h2⟩]
        exact Tryz.plainDec_nought s w hs hem h2 hb he3
      · rw [if_neg (by rw [← hl, hlen]; exact fun h => h2 h.2), ← hl]
        exact Tryz.plainDec_dec s w hs hem h1 (Or.inr ⟨hb, by omega⟩) he
    · rw [if_neg (by simp [h48]), ← hl]
      refine Tryz.plainDec_dec s w hs hem h1 (Or.inl ?_) he
      rw [ha]
      have : (a.toNat : Int) ≠ 48 := fun e => h48 (by
        apply UInt8.toNat_inj.1
        show a.toNat = 48
        omega)
      simpa using this

set_option maxHeartbeats 1000000 in
theorem Tryz.readDecimal_any (s : ByteArray) (w : World) (hs : s.size ≤ maxLen) (he : Tryz.Err 12 w) (he2 : Tryz.Err 4 w) (he3 : Tryz.Err 16 w) :
    Calls Tryz.prog 220 #[.string s] w fun e w' => NumRes (plainDec s.data.toList) e ∧ ∃ n, w' = w.drewN n := by
  have HE : Hid (Tryz.Err 12 w) := he
  have HE2 : Hid (Tryz.Err 4 w) := he2
  have HE3 : Hid (Tryz.Err 16 w) := he3
  clear he he2 he3
  cases ho : plainDec s.data.toList with
  | none =>
    have HO : Hid (plainDec s.data.toList = none) := ho
    clear ho
    go_enter Tryz.func220, Tryz.ntmps220
    go_wp2_with fail
    refine (Tryz.readPlainDecimal_any s _ hs HE.out HE2.out HE3.out).mono ?_
    rw [HO.out]
    rintro e w1 ⟨⟨t, v, rfl⟩, nd, rfl⟩
    go_wp2
    go_ret2
    exact ⟨⟨_, _, rfl⟩, nd, rfl⟩
  | some n =>
    have HO : Hid (plainDec s.data.toList = some n) := ho
    clear ho
    go_enter Tryz.func220, Tryz.ntmps220
    go_wp2_with fail
    refine (Tryz.readPlainDecimal_any s _ hs HE.out HE2.out HE3.out).mono ?_
    rw [HO.out]
    rintro e w1 ⟨rfl, nd, rfl⟩
    go_wp2
    go_ret2
    exact ⟨rfl, nd, rfl⟩

set_option maxHeartbeats 1000000 in
theorem Tryz.rightCount_any (k : Int) (b : Bool) (w : World) :
    Calls Tryz.prog 159 #[.int .i64 k, .bool b] w fun e w' => e = .returned (.bool (if b then decide (k < 8) else k == 8)) ∧ w' = w := by
  cases b
  all_goals
    go_enter Tryz.func159, Tryz.ntmps159
    go_wp2
    go_ret
    exact ⟨rfl, rfl⟩

set_option maxHeartbeats 1000000 in
theorem Tryz.splitPieces_empty (s : ByteArray) (w : World) (hem : s.toList.isEmpty = true) :
    Calls Tryz.prog 157 #[.string s] w fun e w' => e = .returned (.slice none 0 0) ∧ w' = w := by
  go_enter Tryz.func157, Tryz.ntmps157
  go_wp2
  go_ret
  exact ⟨rfl, rfl⟩
end Go.Proofs
