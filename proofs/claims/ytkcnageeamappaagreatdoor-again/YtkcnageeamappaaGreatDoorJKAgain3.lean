/-
  Plain mathematics: what is refused has a number that is not nought.
-/
import Derived.Test.YtkcnageeamappaaGreatDoorJAPlain
import Derived.Test.YtkcnageeamappaaGreatDoorJKAgain
import Derived.Test.YtkcnageeamappaaGreatDoorJKAgain2
namespace Go.Moor
open Go
variable (H : Bs → Bool → Option Bs)
theorem readAuth_err (t s : Bs) (e : Int) (h : readAuth H t s = .error e) : e ≠ 0 := by
  unfold readAuth at h
  simp only at h
  split at h
  · injection h with h; omega
  · split at h
    · injection h with h; omega
    · cases h
theorem fromAuth_err (s t : Bs) (e : Int) (h : fromAuth H s t = .error e) : e ≠ 0 := by
  unfold fromAuth at h
  simp only at h
  cases hr : readAuth H (cutSlash t).1 s with
  | error n => rw [hr] at h; injection h with h; subst h; exact readAuth_err H _ _ _ hr
  | ok x => rw [hr] at h; cases h
theorem readFile_err (m : Bs) (q : Option Bs) (b : Option Adr) (e : Int) (h : readFile H m q b = .error e) : e ≠ 0 := by
  unfold readFile at h
  split at h
  · simp only at h
    split at h
    · cases h
    · split at h
      · injection h with h; omega
      · cases h
  · split at h
    · cases h
    · split at h
      · cases h
      · split at h
        · cases h
        · cases h
theorem readRelative_err (s m : Bs) (q : Option Bs) (b : Adr) (e : Int) (h : readRelative H s m q b = .error e) : e ≠ 0 := by
  unfold readRelative at h
  split at h
  · cases hr : fromAuth H s (if special s = true then trimSlashes (m.drop 2) else m.drop 2) with
    | error n => rw [hr] at h; injection h with h; subst h; exact fromAuth_err H _ _ _ hr
    | ok x => rw [hr] at h; cases h
  · split at h
    · cases h
    · cases h
theorem readOther_err (s m : Bs) (e : Int) (h : readOther H s m = .error e) : e ≠ 0 := by
  unfold readOther at h
  split at h
  · exact fromAuth_err H _ _ _ h
  · split at h
    · cases h
    · cases h
theorem readMiddle_err (s m : Bs) (q : Option Bs) (b : Option Adr) (e : Int) (h : readMiddle H s m q b = .error e) : e ≠ 0 := by
  unfold readMiddle at h
  split at h
  · exact readFile_err H _ _ _ _ h
  · split at h
    · exact readRelative_err H _ _ _ _ _ h
    · split at h
      · rename_i n hr
        injection h with h
        subst h
        split at hr
        · exact fromAuth_err H _ _ _ hr
        · exact readOther_err H _ _ _ hr
      · cases h
theorem readMarked_err (s m : Bs) (q f : Option Bs) (b : Option Adr) (e : Int) (h : readMarked H s m q f b = .error e) : e ≠ 0 := by
  unfold readMarked at h
  split at h
  · rename_i n hr
    injection h with h
    subst h
    exact readMiddle_err H _ _ _ _ _ hr
  · cases h
theorem readCuts_err (c : Cuts) (b : Option Adr) (e : Int) (h : readCuts H c b = .error e) : e ≠ 0 := by
  unfold readCuts at h
  split at h
  · exact readMarked_err H _ _ _ _ _ _ h
  · split at h
    · injection h with h; omega
    · split at h
      · split at h
        · cases h
        · injection h with h; omega
      · exact readMarked_err H _ _ _ _ _ _ h
theorem parse_err (t b : Bs) (e : Int) (h : parse H t b = .error e) : e ≠ 0 := by
  unfold parse at h
  split at h
  · injection h with h; omega
  · unfold readBeside at h
    split at h
    · rename_i n hr
      injection h with h
      subst h
      split at hr
      · exact readCuts_err H _ _ _ hr
      · split at hr
        · injection hr with hr; omega
        · exact readCuts_err H _ _ _ hr
    · cases h
end Go.Moor
/-
  What Again of package moorkeep answers where an address is refused, or is told too long.
-/
namespace Go.Proofs
open Go.RowKit Go.Moor

set_option maxHeartbeats 4000000 in
set_option maxRecDepth 8000 in
theorem Tryz.Again_err (t b o : Bs) (n : Int) (w : World) (hb : b.length ≤ maxLen) (ht : t.length ≤ maxLen) (henv : Tryz.Env2 w) (hp : parse hostTell t b = .error n) :
    Calls Tryz.prog 7 #[.string ⟨t.toArray⟩, .string ⟨b.toArray⟩, .string ⟨o.toArray⟩] w fun e w' => e = .returned (.bool true) ∧ Below w.heap.size w w' := by
  have HW : Hid (Calls Tryz.prog 19 #[] w fun e w' => e = .returned (.bool true) ∧ Below w.heap.size w w') := Tryz.works_any w henv
  have HP0 : Hid (∀ w1, Below w.heap.size w w1 → Calls Tryz.prog 20 #[.string ⟨t.toArray⟩, .string ⟨b.toArray⟩] w1 fun e w' => e = .returned (.tuple #[.string ⟨#[]⟩, .int .i64 n]) ∧ Below w.heap.size w w') := by
    intro w1 h1
    refine (Tryz.Parse_any t b w1 ht hb (henv.below h1)).mono ?_
    rintro e w' ⟨rfl, hb⟩
    rw [hp]
    exact ⟨rfl, h1.trans (hb.mono h1.size)⟩
  have hn := parse_err hostTell t b n hp
  have e0 := empty_yes
  generalize (⟨t.toArray⟩ : ByteArray) = tb at *
  generalize (⟨b.toArray⟩ : ByteArray) = bb at *
  generalize (⟨o.toArray⟩ : ByteArray) = ob at *
  clear hb ht henv hp
  go_enter Tryz.func7, Tryz.ntmps7
  go_wp2_with fail
  refine HW.out.mono ?_
  rintro e w1 ⟨rfl, b1⟩
  go_wp2_with fail
  refine Calls.mono (HP0.out w1 b1) ?_
  rintro e w2 ⟨rfl, b2⟩
  go_wp2_with fail
  go_ret
  exact ⟨rfl, b2⟩

set_option maxHeartbeats 4000000 in
set_option maxRecDepth 8000 in
theorem Tryz.Again_long (t b o s : Bs) (w : World) (hb : b.length ≤ maxLen) (ht : t.length ≤ maxLen) (henv : Tryz.Env2 w) (hp : parse hostTell t b = .ok s) (hl : 2000 < s.length) :
    Calls Tryz.prog 7 #[.string ⟨t.toArray⟩, .string ⟨b.toArray⟩, .string ⟨o.toArray⟩] w fun e w' => e = .returned (.bool true) ∧ Below w.heap.size w w' := by
  have HW : Hid (Calls Tryz.prog 19 #[] w fun e w' => e = .returned (.bool true) ∧ Below w.heap.size w w') := Tryz.works_any w henv
  have HP0 : Hid (∀ w1, Below w.heap.size w w1 → Calls Tryz.prog 20 #[.string ⟨t.toArray⟩, .string ⟨b.toArray⟩] w1 fun e w' => e = .returned (.tuple #[.string ⟨s.toArray⟩, .int .i64 0]) ∧ Below w.heap.size w w') := by
    intro w1 h1
    refine (Tryz.Parse_any t b w1 ht hb (henv.below h1)).mono ?_
    rintro e w' ⟨rfl, hb⟩
    rw [hp]
    exact ⟨rfl, h1.trans (hb.mono h1.size)⟩
  have hz : (⟨s.toArray⟩ : ByteArray).size = s.length := size_mk s
  have h1 : (2000 : Int) < ((⟨s.toArray⟩ : ByteArray).size : Int) := by omega
  generalize (⟨t.toArray⟩ : ByteArray) = tb at *
  generalize (⟨b.toArray⟩ : ByteArray) = bb at *
  generalize (⟨o.toArray⟩ : ByteArray) = ob at *
  generalize (⟨s.toArray⟩ : ByteArray) = sb at *
  clear hb ht henv hp hz hl
  go_enter Tryz.func7, Tryz.ntmps7
  go_wp2_with fail
  refine HW.out.mono ?_
  rintro e w1 ⟨rfl, b1⟩
  go_wp2_with fail
  refine Calls.mono (HP0.out w1 b1) ?_
  rintro e w2 ⟨rfl, b2⟩
  go_wp2_with fail
  go_ret
  exact ⟨rfl, b2⟩
end Go.Proofs
/-
  What Again of package moorkeep answers of any three texts.
-/
namespace Go.Proofs
open Go.RowKit Go.Moor

theorem Tryz.Again_any (t b o : ByteArray) (w : World) (ht : t.size ≤ maxLen) (hb : b.size ≤ maxLen) (henv : Tryz.Env2 w) :
    Calls Tryz.prog 7 #[.string t, .string b, .string o] w fun e w' => e = .returned (.bool true) ∧ Below w.heap.size w w' := by
  have e1 : t = ⟨t.data.toList.toArray⟩ := rfl
  have e2 : b = ⟨b.data.toList.toArray⟩ := rfl
  have e3 : o = ⟨o.data.toList.toArray⟩ := rfl
  rw [e1, e2, e3]
  have ht2 : t.data.toList.length ≤ maxLen := by rw [Array.length_toList]; exact ht
  have hb2 : b.data.toList.length ≤ maxLen := by rw [Array.length_toList]; exact hb
  cases hp : parse hostTell t.data.toList b.data.toList with
  | error n => exact Tryz.Again_err _ _ _ n w hb2 ht2 henv hp
  | ok s =>
    obtain ⟨a, hg, rfl⟩ := again_good hp
    by_cases hl : (tellAddr a).length ≤ 2000
    · exact Tryz.Again_told _ _ _ a w hb2 ht2 henv hp hg hl
    · exact Tryz.Again_long _ _ _ _ w hb2 ht2 henv hp (by omega)
end Go.Proofs
