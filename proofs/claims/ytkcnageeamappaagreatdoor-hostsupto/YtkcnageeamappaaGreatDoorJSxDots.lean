/-
  Plain mathematics: what escaping leaves of a segment: it stands for dots only if it did before; what stands in an escaped text; lists of good segments.
-/
import Derived.Test.YtkcnageeamappaaGreatDoorJGBack
import Derived.Test.YtkcnageeamappaaGreatDoorJABridge
import Derived.Test.YtkcnageeamappaaGreatDoorJSPlain
namespace Go.Moor
open Go

theorem hexCap_out : ∀ (s : Fin 6) (k : Fin 16), holdsB (s.val : Int) (hexCap k.val).toNat = false := by decide +kernel
theorem pct_out : ∀ (s : Fin 6), holdsB (s.val : Int) 37 = false := by decide +kernel
theorem esc_mem (s : Int) : ∀ (l : Bs) (c : UInt8), c ∈ esc s l → (c ∈ l ∧ holdsB s c.toNat = false) ∨ c = 37 ∨ ∃ k : Fin 16, c = hexCap k.val
  | [], c, h => by cases h
  | b :: l, c, h => by
    have e : esc s (b :: l) = escB s b ++ esc s l := rfl
    rw [e] at h
    rcases List.mem_append.1 h with h | h
    · unfold escB at h
      cases hb : holdsB s b.toNat with
      | true =>
        rw [hb] at h
        simp only [if_true, List.mem_cons, List.not_mem_nil, or_false] at h
        rcases h with rfl | rfl | rfl
        · exact Or.inr (Or.inl rfl)
        · exact Or.inr (Or.inr ⟨⟨b.toNat / 16, by have := b.toNat_lt; omega⟩, rfl⟩)
        · exact Or.inr (Or.inr ⟨⟨b.toNat % 16, by omega⟩, rfl⟩)
      | false =>
        rw [hb] at h
        simp at h
        subst h
        exact Or.inl ⟨by simp, hb⟩
    · rcases esc_mem s l c h with ⟨h1, h2⟩ | h
      · exact Or.inl ⟨by simp [h1], h2⟩
      · exact Or.inr h
theorem esc_out (s : Nat) (hs : s < 6) (l : Bs) (c : UInt8) (h : c ∈ esc (s : Int) l) : holdsB (s : Int) c.toNat = false := by
  rcases esc_mem _ l c h with ⟨_, h⟩ | rfl | ⟨k, rfl⟩
  · exact h
  · exact pct_out ⟨s, hs⟩
  · exact hexCap_out ⟨s, hs⟩ k
theorem querySet_lt (s : Bs) : ∃ k : Nat, k < 6 ∧ querySet s = (k : Int) := by
  unfold querySet
  split
  · exact ⟨3, by omega, rfl⟩
  · exact ⟨2, by omega, rfl⟩
theorem escQ_out (s : Bs) (l : Bs) (c : UInt8) (h : c ∈ esc (querySet s) l) : holdsB (querySet s) c.toNat = false := by
  obtain ⟨k, hk, e⟩ := querySet_lt s
  rw [e] at h ⊢
  exact esc_out k hk l c h

-- unescaping what was escaped by a set without the percent sign
theorem hex_fin : ∀ c : Fin 256, hexVal c.val < 16 → holdsB 4 c.val = false ∧ c.val ≠ 37 := by decide +kernel
theorem hex_byte (c : UInt8) (h : hexVal c.toNat < 16) : holdsB 4 c.toNat = false ∧ c ≠ 37 := by
  have := hex_fin ⟨c.toNat, c.toNat_lt⟩ h
  exact ⟨this.1, ne_toNat c 37 this.2 (by omega)⟩
theorem hexCap_two (c : UInt8) (l : Bs) : twoHex (hexCap (c.toNat / 16) :: hexCap (c.toNat % 16) :: l) = true := by
  have := pair_back' c
  simp only [twoHex, Bool.and_eq_true, decide_eq_true_eq]
  exact this.2
theorem esc_cons_in (s : Int) (c : UInt8) (l : Bs) (h : holdsB s c.toNat = true) : esc s (c :: l) = 37 :: hexCap (c.toNat / 16) :: hexCap (c.toNat % 16) :: esc s l := by
  show escB s c ++ esc s l = _
  unfold escB
  rw [h]
  rfl
theorem esc_cons_out (s : Int) (c : UInt8) (l : Bs) (h : holdsB s c.toNat = false) : esc s (c :: l) = c :: esc s l := by
  show escB s c ++ esc s l = _
  unfold escB
  rw [h]
  rfl
theorem twoHex_esc (l : Bs) (h : twoHex l = false) : twoHex (esc 4 l) = false := by
  match l with
  | [] => rfl
  | [a] =>
    cases ha : holdsB 4 a.toNat with
    | true => rw [esc_cons_in 4 a [] ha]; rfl
    | false => rw [esc_cons_out 4 a [] ha]; rfl
  | a :: b :: r =>
    cases ha : holdsB 4 a.toNat with
    | true => rw [esc_cons_in 4 a _ ha]; rfl
    | false =>
      rw [esc_cons_out 4 a _ ha]
      cases hb : holdsB 4 b.toNat with
      | true => rw [esc_cons_in 4 b _ hb]; simp [twoHex]; intro _; decide
      | false => rw [esc_cons_out 4 b _ hb]; exact h
theorem unesc_esc4 : ∀ (n : Nat) (l : Bs), l.length ≤ n → unesc (esc 4 l) = unesc l
  | _, [], _ => rfl
  | 0, c :: l, h => by simp at h
  | n + 1, c :: l, h => by
    have hl : l.length ≤ n := by simpa using h
    cases hc : holdsB 4 c.toNat with
    | true =>
      have h37 : c ≠ 37 := by rintro rfl; exact absurd hc (by decide +kernel)
      rw [esc_cons_in 4 c l hc, unesc_hex _ _ _ (hexCap_two c _), (pair_back' c).1, unesc_ne c l h37, unesc_esc4 n l hl]
    | false =>
      rw [esc_cons_out 4 c l hc]
      by_cases h37 : c = 37
      · subst h37
        cases ht : twoHex l with
        | false => rw [unesc_not _ (twoHex_esc l ht), unesc_not _ ht, unesc_esc4 n l hl]
        | true =>
          match l, ht, hl with
          | a :: b :: r, ht, hl =>
            have ht2 := ht
            simp only [twoHex, Bool.and_eq_true, decide_eq_true_eq] at ht2
            rw [esc_cons_out 4 a _ (hex_byte a ht2.1).1, esc_cons_out 4 b _ (hex_byte b ht2.2).1, unesc_hex a b _ (by simp [twoHex, ht2]), unesc_hex a b r ht, unesc_esc4 n r (by simp at hl; omega)]
      · rw [unesc_ne c _ h37, unesc_ne c l h37, unesc_esc4 n l hl]

theorem unesc_nil (l : Bs) (h : unesc l = []) : l = [] := by
  match l with
  | [] => rfl
  | c :: l =>
    by_cases h37 : c = 37
    · subst h37
      cases ht : twoHex l with
      | false => rw [unesc_not _ ht] at h; cases h
      | true =>
        match l, ht with
        | a :: b :: r, ht => rw [unesc_hex a b r ht] at h; cases h
    · rw [unesc_ne c l h37] at h; cases h
theorem two_fin : ∀ c : Fin 256, hexVal c.val = 2 → c.val = 50 := by decide +kernel
theorem e_fin : ∀ c : Fin 256, hexVal c.val = 14 → c.val = 69 ∨ c.val = 101 := by decide +kernel
theorem of_toNat (c : UInt8) (k : Nat) (h : c.toNat = k) : c = k.toUInt8 := by
  subst h
  simp
theorem pair_46 (a b : UInt8) (ha : hexVal a.toNat < 16) (hb : hexVal b.toNat < 16) (h : pairB a b = 46) : a = 50 ∧ (b = 69 ∨ b = 101) := by
  have h1 := hexVal_range (a.toNat : Int)
  have h2 := hexVal_range (b.toNat : Int)
  have hx : (16 * (hexVal a.toNat).toNat + (hexVal b.toNat).toNat) % 256 = 46 := by
    have := congrArg UInt8.toNat h
    exact this
  have e1 : hexVal a.toNat = 2 := by omega
  have e2 : hexVal b.toNat = 14 := by omega
  refine ⟨of_toNat a 50 (two_fin ⟨a.toNat, a.toNat_lt⟩ e1), ?_⟩
  rcases e_fin ⟨b.toNat, b.toNat_lt⟩ e2 with h | h
  · exact Or.inl (of_toNat b 69 h)
  · exact Or.inr (of_toNat b 101 h)
theorem unesc_46 (l r : Bs) (h : unesc l = 46 :: r) : ∃ l', unesc l' = r ∧ (l = 46 :: l' ∨ l = 37 :: 50 :: 69 :: l' ∨ l = 37 :: 50 :: 101 :: l') := by
  match l with
  | [] => cases h
  | c :: l =>
    by_cases h37 : c = 37
    · subst h37
      cases ht : twoHex l with
      | false => rw [unesc_not _ ht] at h; injection h with h _; exact absurd h (by decide)
      | true =>
        match l, ht with
        | a :: b :: q, ht =>
          rw [unesc_hex a b q ht] at h
          injection h with h h2
          simp only [twoHex, Bool.and_eq_true, decide_eq_true_eq] at ht
          obtain ⟨rfl, hb⟩ := pair_46 a b ht.1 ht.2 h
          refine ⟨q, h2, ?_⟩
          rcases hb with rfl | rfl
          · exact Or.inr (Or.inl rfl)
          · exact Or.inr (Or.inr rfl)
    · rw [unesc_ne c l h37] at h
      injection h with h h2
      subst h
      exact ⟨l, h2, Or.inl rfl⟩
theorem dots_of_unesc (l : Bs) (h : unesc l = [46] ∨ unesc l = [46, 46]) : dots l ≠ 0 := by
  rcases h with h | h
  · obtain ⟨l', h1, h2⟩ := unesc_46 l _ h
    have := unesc_nil l' h1
    subst this
    rcases h2 with rfl | rfl | rfl <;> decide
  · obtain ⟨l', h1, h2⟩ := unesc_46 l _ h
    obtain ⟨l2, h3, h4⟩ := unesc_46 l' _ h1
    have := unesc_nil l2 h3
    subst this
    rcases h2 with rfl | rfl | rfl <;> rcases h4 with rfl | rfl | rfl <;> decide
theorem low_head (c : UInt8) (l : Bs) : ∃ r, lowDots (c :: l) = c :: r := by
  by_cases h : pE.isPrefixOf (c :: l) = false
  · exact ⟨_, low_step c l h⟩
  · have h : pE.isPrefixOf (c :: l) = true := by simpa using h
    obtain ⟨t, ht⟩ := List.isPrefixOf_iff_prefix.1 h
    injection ht with h1 h2
    subst h1
    rw [← h2]
    exact ⟨_, rfl⟩
theorem low_ne (c : UInt8) (l : Bs) (h : c ≠ 37) : lowDots (c :: l) = c :: lowDots l := by
  refine low_step c l ?_
  simp [pE, List.isPrefixOf]
  intro h2
  exact absurd h2.symm h
theorem twoHex_low (l : Bs) (h : twoHex l = false) : twoHex (lowDots l) = false := by
  match l with
  | [] => rfl
  | [a] =>
    by_cases ha : a = 37
    · subst ha; rfl
    · rw [low_ne a [] ha]; rfl
  | a :: b :: r =>
    by_cases ha : a = 37
    · subst ha
      obtain ⟨q, hq⟩ := low_head 37 (b :: r)
      rw [hq]
      cases q with
      | nil => rfl
      | cons x q => rfl
    · rw [low_ne a _ ha]
      obtain ⟨q, hq⟩ := low_head b r
      rw [hq]
      exact h
theorem unesc_low : ∀ (n : Nat) (l : Bs), l.length ≤ n → unesc (lowDots l) = unesc l
  | _, [], _ => rfl
  | 0, c :: l, h => by simp at h
  | n + 1, c :: l, h => by
    have hl : l.length ≤ n := by simpa using h
    by_cases hp : pE.isPrefixOf (c :: l) = false
    · rw [low_step c l hp]
      by_cases h37 : c = 37
      · subst h37
        cases ht : twoHex l with
        | false => rw [unesc_not _ (twoHex_low l ht), unesc_not _ ht, unesc_low n l hl]
        | true =>
          match l, ht, hl with
          | a :: b :: r, ht, hl =>
            have ht2 := ht
            simp only [twoHex, Bool.and_eq_true, decide_eq_true_eq] at ht2
            rw [low_ne a _ (hex_byte a ht2.1).2, low_ne b _ (hex_byte b ht2.2).2, unesc_hex a b _ (by simp [twoHex, ht2]), unesc_hex a b r ht, unesc_low n r (by simp at hl; omega)]
      · rw [unesc_ne c _ h37, unesc_ne c l h37, unesc_low n l hl]
    · have hp : pE.isPrefixOf (c :: l) = true := by simpa using hp
      obtain ⟨t, ht⟩ := List.isPrefixOf_iff_prefix.1 hp
      rw [← ht]
      show unesc (37 :: 50 :: 101 :: lowDots t) = unesc (37 :: 50 :: 69 :: t)
      rw [unesc_hex _ _ _ (by simp [twoHex]; decide), unesc_hex _ _ _ (by simp [twoHex]; decide), unesc_low n t]
      · rfl
      · have := congrArg List.length ht
        simp [pE] at this
        omega
theorem unesc_of_dots (l : Bs) (h : dots l ≠ 0) : unesc l = [46] ∨ unesc l = [46, 46] := by
  rw [← unesc_low l.length l (Nat.le_refl _)]
  unfold dots at h
  simp only at h
  split at h
  · rename_i h1; rcases h1 with h1 | h1 <;> rw [h1] <;> decide
  · split at h
    · rename_i h1; rcases h1 with h1 | h1 | h1 | h1 <;> rw [h1] <;> decide
    · exact absurd rfl h
theorem dots_esc (p : Bs) (h : dots p = 0) : dots (esc 4 p) = 0 := by
  cases Nat.decEq (dots (esc 4 p)) 0 with
  | isTrue h => exact h
  | isFalse h2 =>
    have := unesc_of_dots _ h2
    rw [unesc_esc4 p.length p (Nat.le_refl _)] at this
    exact absurd h (dots_of_unesc p this)

theorem drive_esc (p : Bs) (h : isDrive (esc 4 p) = true) : isDrive p = true := by
  match p with
  | [] => exact h
  | [a] =>
    cases ha : holdsB 4 a.toNat with
    | true => rw [esc_cons_in 4 a _ ha] at h; cases h
    | false => rw [esc_cons_out 4 a _ ha] at h; exact h
  | [a, b] =>
    cases ha : holdsB 4 a.toNat with
    | true => rw [esc_cons_in 4 a _ ha] at h; cases h
    | false =>
      rw [esc_cons_out 4 a _ ha] at h
      cases hb : holdsB 4 b.toNat with
      | true => rw [esc_cons_in 4 b _ hb] at h; cases h
      | false => rw [esc_cons_out 4 b _ hb] at h; exact h
  | a :: b :: c :: r =>
    have hl := esc_len 4 (a :: b :: c :: r)
    match hx : esc 4 (a :: b :: c :: r), h with
    | [x, y], _ => rw [hx] at hl; simp at hl; omega

-- lists of good segments
def GoodSegs (s : Bs) (l : List Bs) : Prop := (∀ p ∈ l, goodSeg s p) ∧ (s = sFile → isDrive (l.headD []) = true → toldDrive (l.headD []) = true)
theorem goodSegs_nil (s : Bs) : GoodSegs s [] := ⟨fun p hp => (by cases hp), fun _ h => (by cases h)⟩
theorem goodSeg_nil (s : Bs) : goodSeg s [] := ⟨rfl, fun c hc => by cases hc⟩
theorem hexCap_fin : ∀ k : Fin 16, hexCap k.val ≠ 47 ∧ hexCap k.val ≠ 92 := by decide +kernel
theorem letter_fin : ∀ c : Fin 256, isLetter c.val.toUInt8 = true → holdsB 4 c.val = false ∧ c.val ≠ 47 ∧ c.val ≠ 92 ∧ c.val ≠ 37 ∧ c.val ≠ 46 := by decide +kernel
theorem letter_out (c : UInt8) (h : isLetter c = true) : holdsB 4 c.toNat = false ∧ c ≠ 47 ∧ c ≠ 92 ∧ c ≠ 37 ∧ c ≠ 46 := by
  have := letter_fin ⟨c.toNat, c.toNat_lt⟩ (by simpa using h)
  exact ⟨this.1, ne_toNat c 47 this.2.1 (by omega), ne_toNat c 92 this.2.2.1 (by omega), ne_toNat c 37 this.2.2.2.1 (by omega), ne_toNat c 46 this.2.2.2.2 (by omega)⟩
theorem drive_good (s : Bs) (a : UInt8) (h : isLetter a = true) : goodSeg s [a, 58] := by
  have ha := letter_out a h
  refine ⟨?_, fun c hc => ?_⟩
  · unfold dots
    rw [low_ne a _ ha.2.2.2.1, low_ne 58 _ (by decide)]
    have : a ≠ 46 := ha.2.2.2.2
    have h37 : a ≠ 37 := ha.2.2.2.1
    simp [lowDots, this, h37]
  · simp only [List.mem_cons, List.not_mem_nil, or_false] at hc
    rcases hc with rfl | rfl
    · exact ⟨ha.1, ha.2.1, fun _ => ha.2.2.1⟩
    · exact ⟨by decide +kernel, by decide, fun _ => by decide⟩
theorem tellSeg_good (s p : Bs) (first : Bool) (hd : dots p = 0) (hb : ∀ c ∈ p, c ≠ 47 ∧ (special s = true → c ≠ 92)) : goodSeg s (tellSeg s p first) ∧ (first = true → s = sFile → isDrive (tellSeg s p first) = true → toldDrive (tellSeg s p first) = true) := by
  unfold tellSeg
  cases hx : (first && decide (s = sFile) && isDrive p) with
  | true =>
    rw [if_pos rfl]
    simp only [Bool.and_eq_true, decide_eq_true_eq] at hx
    match p, hx.2 with
    | [a, b], h2 =>
      simp [isDrive] at h2
      refine ⟨drive_good s a h2.1, fun _ _ _ => ?_⟩
      simp [toldDrive, isDrive, h2.1]
  | false =>
    rw [if_neg (by simp)]
    refine ⟨⟨dots_esc p hd, fun c hc => ?_⟩, fun h1 h2 h3 => ?_⟩
    · refine ⟨esc_out 4 (by omega) p c hc, ?_⟩
      rcases esc_mem _ p c hc with ⟨h, _⟩ | rfl | ⟨k, rfl⟩
      · exact hb c h
      · exact ⟨by decide, fun _ => by decide⟩
      · exact ⟨(hexCap_fin k).1, fun _ => (hexCap_fin k).2⟩
    · rw [h1, h2] at hx
      have := drive_esc p h3
      rw [this] at hx
      simp at hx
theorem goodSegs_snoc (s : Bs) (l : List Bs) (p : Bs) (h : GoodSegs s l) (hp : goodSeg s p) (hd : l = [] → s = sFile → isDrive p = true → toldDrive p = true) : GoodSegs s (l ++ [p]) := by
  refine ⟨fun q hq => ?_, ?_⟩
  · rcases List.mem_append.1 hq with hq | hq
    · exact h.1 q hq
    · rw [List.mem_singleton] at hq; subst hq; exact hp
  · cases l with
    | nil => exact hd rfl
    | cons x l => exact h.2
theorem goodSegs_dropLast (s : Bs) (l : List Bs) (h : GoodSegs s l) : GoodSegs s l.dropLast := by
  refine ⟨fun p hp => h.1 p (List.dropLast_subset l hp), ?_⟩
  match l, h with
  | [], _ => exact fun _ h => by cases h
  | [x], _ => exact fun _ h => by cases h
  | x :: y :: l, h => exact h.2
theorem withoutLast_good (s : Bs) (l : List Bs) (h : GoodSegs s l) : GoodSegs s (withoutLast s l) := by
  unfold withoutLast
  split
  · exact h
  · exact goodSegs_dropLast s l h
theorem segLoop_keep (s : Bs) : ∀ (ps segs : List Bs), GoodSegs s segs → (∀ p ∈ ps, ∀ c ∈ p, c ≠ 47 ∧ (special s = true → c ≠ 92)) → GoodSegs s (segLoop s segs ps) ∧ (ps ≠ [] → segLoop s segs ps ≠ [])
  | [], segs, h, _ => ⟨h, fun h => absurd rfl h⟩
  | p :: ps, segs, h, hb => by
    have hrec := fun segs h => segLoop_keep s ps segs h (fun q hq => hb q (by simp [hq]))
    by_cases hd : dots p = 0
    · rw [segLoop, if_pos hd]
      have ht := tellSeg_good s p segs.isEmpty hd (hb p (by simp))
      have h2 := hrec _ (goodSegs_snoc s segs _ h ht.1 (fun he => by subst he; exact ht.2 rfl))
      refine ⟨h2.1, fun _ => ?_⟩
      cases ps with
      | nil => simp [segLoop]
      | cons q ps => exact h2.2 (by simp)
    · rw [segLoop, if_neg hd]
      have hw : GoodSegs s (if dots p = 2 then withoutLast s segs else segs) := by
        split
        · exact withoutLast_good s segs h
        · exact h
      cases ps with
      | nil =>
        have h2 := hrec _ (goodSegs_snoc s _ [] hw (goodSeg_nil s) (fun _ _ h => by cases h))
        exact ⟨h2.1, fun _ => by simp [segLoop]⟩
      | cons q ps =>
        have h2 := hrec _ hw
        have e : (if List.isEmpty (q :: ps) = true then [([] : Bs)] else []) = [] := rfl
        rw [e, List.append_nil]
        exact ⟨h2.1, fun _ => h2.2 (by simp)⟩
theorem splitOn_bytes (c : UInt8) : ∀ (l x : Bs), x ∈ splitOn c l → ∀ b ∈ x, b ∈ l ∧ b ≠ c
  | [], x, h => by
    simp [splitOn] at h
    subst h
    exact fun b hb => by cases hb
  | a :: l, x, h => by
    intro b hb
    by_cases ha : a = c
    · rw [splitOn, if_pos ha] at h
      rcases List.mem_cons.1 h with rfl | h
      · cases hb
      · have := splitOn_bytes c l x h b hb
        exact ⟨by simp [this.1], this.2⟩
    · rw [splitOn, if_neg ha] at h
      cases hs : splitOn c l with
      | nil => exact absurd hs (splitOn_ne c l)
      | cons y ys =>
        rw [hs] at h
        rcases List.mem_cons.1 h with rfl | h
        · rcases List.mem_cons.1 hb with rfl | hb
          · exact ⟨by simp, ha⟩
          · have := splitOn_bytes c l y (by rw [hs]; simp) b hb
            exact ⟨by simp [this.1], this.2⟩
        · have := splitOn_bytes c l x (by rw [hs]; simp [h]) b hb
          exact ⟨by simp [this.1], this.2⟩
theorem trimSlash_mem (t : Bs) (c : UInt8) (h : c ∈ trimSlash t) : c ∈ t := by
  unfold trimSlash at h
  split at h
  · simp [h]
  · exact h
/-- The path of a text in which there is no backslash, if the scheme is special. -/
theorem segs_keep (s : Bs) (begun : List Bs) (t : Bs) (h : GoodSegs s begun) (ht : special s = true → ∀ c ∈ t, c ≠ 92) : GoodSegs s (readSegs s begun t) ∧ (special s = true ∨ t ≠ [] → readSegs s begun t ≠ []) := by
  unfold readSegs
  split
  · rename_i hx
    refine ⟨h, fun h2 => ?_⟩
    rcases h2 with h2 | h2
    · rw [hx.2] at h2; cases h2
    · exact absurd hx.1 h2
  · have := segLoop_keep s (splitOn 47 (trimSlash t)) begun h (fun p hp c hc => by
      have hb := splitOn_bytes 47 _ p hp c hc
      exact ⟨hb.2, fun hs => ht hs c (trimSlash_mem t c hb.1)⟩)
    exact ⟨this.1, fun _ => this.2 (splitOn_ne 47 _)⟩
end Go.Moor
/-
  Plain mathematics: whatever is read, beside a good base or none, is good.
-/
namespace Go.Moor
open Go

theorem cutB_inv (c : UInt8) : ∀ (t : Bs), match cutB c t with | some (a, b) => t = a ++ c :: b ∧ ∀ x ∈ a, x ≠ c | none => ∀ x ∈ t, x ≠ c
  | [] => fun x hx => by cases hx
  | d :: t => by
    have ih := cutB_inv c t
    by_cases hd : d = c
    · rw [cutB, if_pos hd]
      subst hd
      exact ⟨rfl, fun x hx => by cases hx⟩
    · rw [cutB, if_neg hd]
      cases hc : cutB c t with
      | none =>
        rw [hc] at ih
        intro x hx
        rcases List.mem_cons.1 hx with rfl | hx
        · exact hd
        · exact ih x hx
      | some p =>
        obtain ⟨a, b⟩ := p
        rw [hc] at ih
        refine ⟨by rw [ih.1]; rfl, fun x hx => ?_⟩
        rcases List.mem_cons.1 hx with rfl | hx
        · exact hd
        · exact ih.2 x hx
theorem cutOpt_bytes (c : UInt8) (t : Bs) : (∀ x ∈ (cutOpt c t).1, x ∈ t ∧ x ≠ c) ∧ ∀ q, (cutOpt c t).2 = some q → ∀ x ∈ q, x ∈ t := by
  have h := cutB_inv c t
  unfold cutOpt
  cases hc : cutB c t with
  | none => rw [hc] at h; exact ⟨fun x hx => ⟨hx, h x hx⟩, fun q hq => by cases hq⟩
  | some p =>
    obtain ⟨a, b⟩ := p
    rw [hc] at h
    refine ⟨fun x hx => ⟨by rw [h.1]; exact List.mem_append_left _ hx, h.2 x hx⟩, fun q hq x hx => ?_⟩
    simp only [Option.some.injEq] at hq
    subst hq
    rw [h.1]
    simp [hx]
theorem lower_fin : ∀ c : Fin 256, (schemeByte c.val.toUInt8 = true → schemeByte (Lib.lowerB c.val.toUInt8) = true) ∧ (isLetter c.val.toUInt8 = true → isLetter (Lib.lowerB c.val.toUInt8) = true) ∧ Lib.lowerB (Lib.lowerB c.val.toUInt8) = Lib.lowerB c.val.toUInt8 := by decide +kernel
theorem lower_byte (c : UInt8) : (schemeByte c = true → schemeByte (Lib.lowerB c) = true) ∧ (isLetter c = true → isLetter (Lib.lowerB c) = true) ∧ Lib.lowerB (Lib.lowerB c) = Lib.lowerB c := by
  have := lower_fin ⟨c.toNat, c.toNat_lt⟩
  simpa using this
theorem lower_lower (l : Bs) : Lib.toLowerA (Lib.toLowerA l) = Lib.toLowerA l := by
  unfold Lib.toLowerA
  rw [List.map_map]
  exact List.map_congr_left fun c _ => (lower_byte c).2.2
theorem scheme_lower (l : Bs) (h : isSchemeB l = true) : isSchemeB (Lib.toLowerA l) = true := by
  unfold isSchemeB at *
  rw [Bool.and_eq_true] at *
  refine ⟨?_, ?_⟩
  · cases l with
    | nil => exact h.1
    | cons c l => exact (lower_byte c).2.1 h.1
  · rw [List.all_eq_true] at *
    intro x hx
    obtain ⟨c, hc, rfl⟩ := List.mem_map.1 hx
    exact (lower_byte c).1 (h.2 c hc)
theorem cutScheme_good (t : Bs) : (cutScheme t).1 ≠ [] → isSchemeB (cutScheme t).1 = true ∧ Lib.toLowerA (cutScheme t).1 = (cutScheme t).1 := by
  unfold cutScheme
  split
  · split
    · rename_i hs; exact fun _ => ⟨scheme_lower _ hs, lower_lower _⟩
    · exact fun h => absurd rfl h
  · exact fun h => absurd rfl h
theorem cutMarks_good (t : Bs) : ((cutMarks t).scheme ≠ [] → isSchemeB (cutMarks t).scheme = true ∧ Lib.toLowerA (cutMarks t).scheme = (cutMarks t).scheme) ∧ ∀ c ∈ (cutMarks t).middle, c ≠ 35 ∧ c ≠ 63 := by
  refine ⟨cutScheme_good t, fun c hc => ?_⟩
  have h1 := (cutOpt_bytes 63 (cutOpt 35 (cutScheme t).2).1).1 c hc
  exact ⟨((cutOpt_bytes 35 (cutScheme t).2).1 c h1.1).2, h1.2⟩
theorem even_bytes (s t : Bs) : (∀ c ∈ evenSlashes s t, c ∈ t ∨ c = 47) ∧ (special s = true → ∀ c ∈ evenSlashes s t, c ≠ 92) := by
  unfold evenSlashes
  split
  · refine ⟨fun c hc => ?_, fun _ c hc => ?_⟩
    · obtain ⟨b, hb, rfl⟩ := List.mem_map.1 hc
      split
      · exact Or.inr rfl
      · exact Or.inl hb
    · obtain ⟨b, hb, rfl⟩ := List.mem_map.1 hc
      split
      · decide
      · assumption
  · rename_i h
    exact ⟨fun c hc => Or.inl hc, fun h2 => absurd h2 h⟩
theorem cutSlash_mem (t : Bs) : (∀ c ∈ (cutSlash t).2, c ∈ t) ∧ ∀ c ∈ (cutSlash t).1, c ∈ t := by
  unfold cutSlash
  exact ⟨fun c hc => (List.dropWhile_sublist _).subset hc, fun c hc => (List.takeWhile_sublist _).subset hc⟩

section
variable (H : Bs → Bool → Option Bs)

theorem readPort_keep (t s : Bs) (p : Int) (h : readPort t s = some p) : p = -1 ∨ (0 ≤ p ∧ p ≤ 65535 ∧ p ≠ (ownPort s).1) := by
  unfold readPort at h
  split at h
  · simp only [Option.some.injEq] at h; exact Or.inl h.symm
  · split at h
    · rename_i h1
      simp only [Bool.and_eq_true, decide_eq_true_eq] at h1
      split at h
      · simp only [Option.some.injEq] at h; exact Or.inl h.symm
      · rename_i h2
        simp only [Option.some.injEq] at h
        subst h
        exact Or.inr ⟨by omega, by omega, h2⟩
    · cases h

/-- What holds of an authority that was read. -/
structure GoodAuth (s : Bs) (a : Auth) : Prop where
  user : ∀ c ∈ a.user, holdsB 5 c.toNat = false
  pass : ∀ c ∈ a.pass, holdsB 5 c.toNat = false
  has : a.has = true
  host : H a.host (special s) = some a.host
  empty : a.host = [] → a.user = [] ∧ a.pass = [] ∧ a.port = -1
  port : a.port = -1 ∨ (0 ≤ a.port ∧ a.port ≤ 65535 ∧ a.port ≠ (ownPort s).1)

theorem readAuth_keep (hl : HostLaws H) (t s : Bs) (a : Auth) (h : readAuth H t s = .ok a) : GoodAuth H s a := by
  unfold readAuth at h
  simp only at h
  cases hh : tellHost H (cutPort (cutLogin t).2).1 t s with
  | none => rw [hh] at h; cases h
  | some x =>
    rw [hh] at h
    simp only at h
    cases hp : readPort (cutPort (cutLogin t).2).2 s with
    | none => rw [hp] at h; cases h
    | some n =>
      rw [hp] at h
      simp only [Except.ok.injEq] at h
      subst h
      have hx : H (cutPort (cutLogin t).2).1 (special s) = some x ∧ ((cutPort (cutLogin t).2).1 = [] → t = []) := by
        unfold tellHost at hh
        split at hh
        · cases hh
        · rename_i h2
          refine ⟨hh, fun he => ?_⟩
          cases Classical.em (t = []) with
          | inl h => exact h
          | inr h => exact absurd ⟨he, h⟩ h2
      refine ⟨fun c hc => esc_out 5 (by omega) _ c hc, fun c hc => esc_out 5 (by omega) _ c hc, rfl, hl.again _ _ _ hx.1, fun he => ?_, readPort_keep _ s n hp⟩
      have he2 : x = [] := he
      subst he2
      have ht := hx.2 (hl.nil _ _ hx.1)
      subst ht
      refine ⟨rfl, rfl, ?_⟩
      have : readPort (cutPort (cutLogin []).2).2 s = some (-1) := rfl
      rw [this] at hp
      simp only [Option.some.injEq] at hp
      exact hp.symm

theorem fileHost_keep (hl : HostLaws H) (t h : Bs) (hh : fileHost H t = some h) : fileHost H h = some h := by
  unfold fileHost at hh
  split at hh
  · simp only [Option.some.injEq] at hh; subst hh; rfl
  · cases hx : H t true with
    | none => rw [hx] at hh; cases hh
    | some y =>
      rw [hx] at hh
      simp only at hh
      split at hh
      · simp only [Option.some.injEq] at hh; subst hh; rfl
      · rename_i h2
        simp only [Option.some.injEq] at hh
        subst hh
        unfold fileHost
        rw [if_neg (hl.ne _ _ hx), hl.again _ _ _ hx]
        simp only [h2, if_false]

/-- Good, out of an authority that was read. -/
theorem good_auth (s : Bs) (hs : isSchemeB s = true) (hlow : Lib.toLowerA s = s) (hf : s ≠ sFile) (a : Auth) (ha : GoodAuth H s a) (l : List Bs) (hg : GoodSegs s l) (hn : special s = true → l ≠ []) (q f : Option Bs)
    (hq : ∀ x, q = some x → ∀ c ∈ x, holdsB (querySet s) c.toNat = false) (hfr : ∀ x, f = some x → ∀ c ∈ x, holdsB 1 c.toNat = false) : Good H ⟨s, a, ⟨false, [], l⟩, q, f⟩ :=
  ⟨hs, hlow, ha.user, ha.pass, fun h => (by rw [ha.has] at h; cases h), fun _ _ => ha.host, fun h => absurd h hf, ha.empty, fun h => absurd h hf, ha.port, fun h => ⟨ha.has, rfl, hn h⟩, fun h => (by cases h), fun _ => ⟨rfl, fun h => (by rw [ha.has] at h; cases h)⟩, hg.1, fun h => absurd h hf, hq, hfr⟩
/-- Good, of a file. -/
theorem good_file (h : Bs) (hh : fileHost H h = some h) (l : List Bs) (hg : GoodSegs sFile l) (hn : l ≠ []) (q f : Option Bs)
    (hq : ∀ x, q = some x → ∀ c ∈ x, holdsB (querySet sFile) c.toNat = false) (hfr : ∀ x, f = some x → ∀ c ∈ x, holdsB 1 c.toNat = false) : Good H ⟨sFile, fileAuth h, ⟨false, [], l⟩, q, f⟩ :=
  ⟨file_scheme.1, file_scheme.2.1, fun c hc => (by cases hc), fun c hc => (by cases hc), fun h => (by cases h), fun _ h => absurd rfl h, fun _ => hh, fun _ => ⟨rfl, rfl, rfl⟩, fun _ => ⟨rfl, rfl, rfl⟩, Or.inl rfl, fun _ => ⟨rfl, rfl, hn⟩, fun h => (by cases h), fun _ => ⟨rfl, fun h => (by cases h)⟩, hg.1, hg.2, hq, hfr⟩
/-- Good, with another path beside the same authority. -/
theorem good_way (b : Adr) (hb : Good H b) (l : List Bs) (hg : GoodSegs b.scheme l) (hn : l ≠ []) (q f : Option Bs) (hq : ∀ x, q = some x → ∀ c ∈ x, holdsB (querySet b.scheme) c.toNat = false) (hfr : ∀ x, f = some x → ∀ c ∈ x, holdsB 1 c.toNat = false) : Good H ⟨b.scheme, b.auth, ⟨false, [], l⟩, q, f⟩ :=
  ⟨hb.scheme, hb.low, hb.user, hb.pass, hb.bare, hb.host, hb.hostF, hb.empty, hb.file, hb.port, fun h => ⟨(hb.spec h).1, rfl, hn⟩, fun h => (by cases h), fun _ => ⟨rfl, fun _ => hn⟩, hg.1, hg.2, hq, hfr⟩
theorem good_rest (b : Adr) (hb : Good H b) (q f : Option Bs) (hq : ∀ x, q = some x → ∀ c ∈ x, holdsB (querySet b.scheme) c.toNat = false) (hfr : ∀ x, f = some x → ∀ c ∈ x, holdsB 1 c.toNat = false) : Good H ⟨b.scheme, b.auth, b.way, q, f⟩ :=
  ⟨hb.scheme, hb.low, hb.user, hb.pass, hb.bare, hb.host, hb.hostF, hb.empty, hb.file, hb.port, hb.spec, hb.opaq, hb.text, hb.seg, hb.drive, hq, hfr⟩
theorem Good.segs (b : Adr) (hb : Good H b) : GoodSegs b.scheme b.way.segs := ⟨hb.seg, hb.drive⟩

theorem fromAuth_keep (hl : HostLaws H) (s : Bs) (hs : isSchemeB s = true) (hlow : Lib.toLowerA s = s) (hf : s ≠ sFile) (t : Bs) (ht : special s = true → ∀ c ∈ t, c ≠ 92) (a : Auth) (w : Way) (h : fromAuth H s t = .ok (a, w)) (q f : Option Bs)
    (hq : ∀ x, q = some x → ∀ c ∈ x, holdsB (querySet s) c.toNat = false) (hfr : ∀ x, f = some x → ∀ c ∈ x, holdsB 1 c.toNat = false) : Good H ⟨s, a, w, q, f⟩ := by
  unfold fromAuth at h
  simp only at h
  cases hr : readAuth H (cutSlash t).1 s with
  | error e => rw [hr] at h; cases h
  | ok x =>
    rw [hr] at h
    simp only [Except.ok.injEq, Prod.mk.injEq] at h
    obtain ⟨rfl, rfl⟩ := h
    have hk := segs_keep s [] (cutSlash t).2 (goodSegs_nil s) (fun hs c hc => ht hs c ((cutSlash_mem t).1 c hc))
    exact good_auth H s hs hlow hf x (readAuth_keep H hl _ s x hr) _ hk.1 (fun hs => hk.2 (Or.inl hs)) q f hq hfr

theorem goOn_keep (m : Bs) (b : Adr) (hb : Good H b) (hm : special b.scheme = true → ∀ c ∈ m, c ≠ 92) (q f : Option Bs)
    (hq : ∀ x, q = some x → ∀ c ∈ x, holdsB (querySet b.scheme) c.toNat = false) (hfr : ∀ x, f = some x → ∀ c ∈ x, holdsB 1 c.toNat = false) : Good H ⟨b.scheme, b.auth, (goOn b.scheme m q b).1, (goOn b.scheme m q b).2, f⟩ := by
  unfold goOn
  split
  · rename_i hne
    have hk := segs_keep b.scheme (withoutLast b.scheme b.way.segs) m (withoutLast_good _ _ (Good.segs H b hb)) hm
    exact good_way H b hb _ hk.1 (hk.2 (Or.inr hne)) q f hq hfr
  · refine good_rest H b hb _ f ?_ hfr
    split
    · exact hq
    · exact hb.query
theorem driveOf_good (l : List Bs) (h : GoodSegs sFile l) : GoodSegs sFile (driveOf l) := by
  unfold driveOf
  split
  · refine ⟨fun p hp => h.1 p (List.mem_of_mem_take hp), fun hs => ?_⟩
    cases l with
    | nil => exact fun h => by cases h
    | cons x l => exact h.2 hs
  · exact goodSegs_nil _
theorem file_auth (b : Adr) (hb : Good H b) (hs : b.scheme = sFile) : fileAuth b.auth.host = b.auth := by
  obtain ⟨h1, h2, h3⟩ := hb.file hs
  have h4 := (hb.spec (by rw [hs]; decide)).1
  cases ha : b.auth with
  | mk u p h o n => rw [ha] at h1 h2 h3 h4; simp only at h1 h2 h3 h4; subst h1; subst h2; subst h3; subst h4; rfl

theorem readFile_keep (hl : HostLaws H) (m : Bs) (hm : ∀ c ∈ m, c ≠ 92) (base : Option Adr) (hb : ∀ b, base = some b → Good H b ∧ b.scheme = sFile) (q f : Option Bs)
    (hq : ∀ x, q = some x → ∀ c ∈ x, holdsB (querySet sFile) c.toNat = false) (hfr : ∀ x, f = some x → ∀ c ∈ x, holdsB 1 c.toNat = false) (a : Auth) (w : Way) (q2 : Option Bs) (h : readFile H m q base = .ok (a, w, q2)) : Good H ⟨sFile, a, w, q2, f⟩ := by
  have hsp : special sFile = true := by decide
  unfold readFile at h
  simp only at h
  split at h
  · split at h
    · simp only [Except.ok.injEq, Prod.mk.injEq] at h
      obtain ⟨rfl, rfl, rfl⟩ := h
      have hk := segs_keep sFile [] (m.drop 2) (goodSegs_nil _) (fun _ c hc => hm c (List.mem_of_mem_drop hc))
      exact good_file H [] rfl _ hk.1 (hk.2 (Or.inl hsp)) q f hq hfr
    · cases hx : fileHost H (cutSlash (m.drop 2)).1 with
      | none => rw [hx] at h; cases h
      | some x =>
        rw [hx] at h
        simp only [Except.ok.injEq, Prod.mk.injEq] at h
        obtain ⟨rfl, rfl, rfl⟩ := h
        have hk := segs_keep sFile [] (cutSlash (m.drop 2)).2 (goodSegs_nil _) (fun _ c hc => hm c (List.mem_of_mem_drop ((cutSlash_mem _).1 c hc)))
        exact good_file H x (fileHost_keep H hl _ x hx) _ hk.1 (hk.2 (Or.inl hsp)) q f hq hfr
  · cases base with
    | none =>
      simp only [Except.ok.injEq, Prod.mk.injEq] at h
      obtain ⟨rfl, rfl, rfl⟩ := h
      have hk := segs_keep sFile [] m (goodSegs_nil _) (fun _ => hm)
      exact good_file H [] rfl _ hk.1 (hk.2 (Or.inl hsp)) q f hq hfr
    | some b =>
      obtain ⟨hg, hbs⟩ := hb b rfl
      have hgs := Good.segs H b hg
      rw [hbs] at hgs
      simp only at h
      split at h
      · simp only [Except.ok.injEq, Prod.mk.injEq] at h
        obtain ⟨rfl, rfl, rfl⟩ := h
        have hk := segs_keep sFile [] m (goodSegs_nil _) (fun _ => hm)
        exact good_file H _ (hg.hostF hbs) _ hk.1 (hk.2 (Or.inl hsp)) q f hq hfr
      · split at h
        · simp only [Except.ok.injEq, Prod.mk.injEq] at h
          obtain ⟨rfl, rfl, rfl⟩ := h
          have hk := segs_keep sFile (driveOf b.way.segs) m (driveOf_good _ hgs) (fun _ => hm)
          exact good_file H _ (hg.hostF hbs) _ hk.1 (hk.2 (Or.inl hsp)) q f hq hfr
        · simp only [Except.ok.injEq, Prod.mk.injEq] at h
          obtain ⟨rfl, rfl, rfl⟩ := h
          have hk := goOn_keep H m b hg (fun _ => hm) q f (by rw [hbs]; exact hq) hfr
          rw [file_auth H b hg hbs]
          rw [hbs] at hk
          exact hk

theorem head_prefix (m : Bs) (h : ¬ m.head? = some 47) (hm : m ≠ []) : ∃ c r, m = c :: r ∧ c ≠ 47 := by
  cases m with
  | nil => exact absurd rfl hm
  | cons c r => exact ⟨c, r, rfl, fun e => h (by rw [e]; rfl)⟩

theorem readRelative_keep (hl : HostLaws H) (m : Bs) (b : Adr) (hb : Good H b) (hf : b.scheme ≠ sFile) (hm : special b.scheme = true → ∀ c ∈ m, c ≠ 92) (q f : Option Bs)
    (hq : ∀ x, q = some x → ∀ c ∈ x, holdsB (querySet b.scheme) c.toNat = false) (hfr : ∀ x, f = some x → ∀ c ∈ x, holdsB 1 c.toNat = false) (a : Auth) (w : Way) (q2 : Option Bs) (h : readRelative H b.scheme m q b = .ok (a, w, q2)) : Good H ⟨b.scheme, a, w, q2, f⟩ := by
  unfold readRelative at h
  simp only at h
  split at h
  · cases hx : fromAuth H b.scheme (if special b.scheme = true then trimSlashes (m.drop 2) else m.drop 2) with
    | error e => rw [hx] at h; cases h
    | ok p =>
      obtain ⟨x, y⟩ := p
      rw [hx] at h
      simp only [Except.ok.injEq, Prod.mk.injEq] at h
      obtain ⟨rfl, rfl, rfl⟩ := h
      refine fromAuth_keep H hl b.scheme hb.scheme hb.low hf _ (fun hs c hc => hm hs c ?_) x y hx q f hq hfr
      rw [if_pos hs] at hc
      exact List.mem_of_mem_drop ((List.dropWhile_sublist _).subset hc)
  · split at h
    · rename_i h1
      simp only [Except.ok.injEq, Prod.mk.injEq] at h
      obtain ⟨rfl, rfl, rfl⟩ := h
      have hk := segs_keep b.scheme [] m (goodSegs_nil _) hm
      exact good_way H b hb _ hk.1 (hk.2 (Or.inr (fun e => by rw [e] at h1; cases h1))) q f hq hfr
    · simp only [Except.ok.injEq, Prod.mk.injEq] at h
      obtain ⟨rfl, rfl, rfl⟩ := h
      exact goOn_keep H m b hb hm q f hq hfr

theorem escOpaque_bytes (m : Bs) (hm : ∀ c ∈ m, c ≠ 35 ∧ c ≠ 63) : ∀ c ∈ escOpaque m, 33 ≤ c.toNat ∧ c.toNat ≤ 126 ∧ c ≠ 35 ∧ c ≠ 63 := by
  have f0 : ∀ c : Fin 256, holdsB 0 c.val = false → 32 ≤ c.val ∧ c.val ≤ 126 := by decide +kernel
  have fh : ∀ k : Fin 16, 33 ≤ (hexCap k.val).toNat ∧ (hexCap k.val).toNat ≤ 126 ∧ hexCap k.val ≠ 35 ∧ hexCap k.val ≠ 63 := by decide +kernel
  intro c hc
  unfold escOpaque at hc
  obtain ⟨b, hb, hc⟩ := List.mem_flatMap.1 hc
  split at hc
  · simp only [List.mem_cons, List.not_mem_nil, or_false] at hc
    rcases hc with rfl | rfl | rfl <;> decide
  · rename_i h32
    rw [List.mem_singleton] at hc
    subst hc
    rcases esc_mem 0 m c hb with ⟨h1, h2⟩ | rfl | ⟨k, rfl⟩
    · have := f0 ⟨c.toNat, c.toNat_lt⟩ h2
      have hne : c.toNat ≠ 32 := fun e => h32 (of_toNat c 32 e)
      have h32 : 32 ≤ c.toNat := this.1
      exact ⟨by omega, this.2, hm c h1⟩
    · decide
    · exact fh k
theorem escOpaque_head (m : Bs) (h : ¬ m.head? = some 47) : (escOpaque m).head? ≠ some 47 := by
  cases m with
  | nil => intro h; cases h
  | cons c m =>
    have hc : c ≠ 47 := fun e => h (by rw [e]; rfl)
    unfold escOpaque
    cases hb : holdsB 0 c.toNat with
    | true => rw [esc_cons_in 0 c m hb]; simp [List.flatMap_cons]
    | false =>
      rw [esc_cons_out 0 c m hb, List.flatMap_cons]
      split
      · simp
      · simpa using hc

theorem readOther_keep (hl : HostLaws H) (s m : Bs) (hs : isSchemeB s = true) (hlow : Lib.toLowerA s = s) (hsp : special s = false) (hm : ∀ c ∈ m, c ≠ 35 ∧ c ≠ 63) (q f : Option Bs)
    (hq : ∀ x, q = some x → ∀ c ∈ x, holdsB (querySet s) c.toNat = false) (hfr : ∀ x, f = some x → ∀ c ∈ x, holdsB 1 c.toNat = false) (a : Auth) (w : Way) (h : readOther H s m = .ok (a, w)) : Good H ⟨s, a, w, q, f⟩ := by
  have hf : s ≠ sFile := by rintro rfl; exact absurd hsp (by decide)
  unfold readOther at h
  split at h
  · exact fromAuth_keep H hl s hs hlow hf _ (fun h2 => by rw [hsp] at h2; cases h2) a w h q f hq hfr
  · split at h
    · rename_i h1
      simp only [Except.ok.injEq, Prod.mk.injEq] at h
      obtain ⟨rfl, rfl⟩ := h
      have hk := segs_keep s [] m (goodSegs_nil _) (fun h2 => by rw [hsp] at h2; cases h2)
      have hn := hk.2 (Or.inr (fun e => by rw [e] at h1; cases h1))
      exact ⟨hs, hlow, fun c hc => (by cases hc), fun c hc => (by cases hc), fun _ => rfl, fun h => (by cases h), fun h => absurd h hf, fun _ => ⟨rfl, rfl, rfl⟩, fun h => absurd h hf, Or.inl rfl, fun h => (by rw [hsp] at h; cases h), fun h => (by cases h), fun _ => ⟨rfl, fun _ => hn⟩, hk.1.1, fun h => absurd h hf, hq, hfr⟩
    · rename_i h1
      simp only [Except.ok.injEq, Prod.mk.injEq] at h
      obtain ⟨rfl, rfl⟩ := h
      exact ⟨hs, hlow, fun c hc => (by cases hc), fun c hc => (by cases hc), fun _ => rfl, fun h => (by cases h), fun h => absurd h hf, fun _ => ⟨rfl, rfl, rfl⟩, fun h => absurd h hf, Or.inl rfl, fun h => (by rw [hsp] at h; cases h), fun _ => ⟨rfl, rfl, escOpaque_bytes m hm, escOpaque_head m h1⟩, fun h => (by cases h), fun p hp => (by cases hp), fun h => absurd h hf, hq, hfr⟩

theorem readMarked_keep (hl : HostLaws H) (s m : Bs) (hs : isSchemeB s = true) (hlow : Lib.toLowerA s = s) (hm : ∀ c ∈ m, c ≠ 35 ∧ c ≠ 63) (q f : Option Bs) (base : Option Adr) (hb : ∀ b, base = some b → Good H b ∧ b.scheme = s) (a : Adr) (h : readMarked H s m q f base = .ok a) : Good H a := by
  unfold readMarked at h
  have hq : ∀ x, q.map (esc (querySet s)) = some x → ∀ c ∈ x, holdsB (querySet s) c.toNat = false := by
    intro x hx
    cases q with
    | none => cases hx
    | some y =>
      simp only [Option.map_some, Option.some.injEq] at hx
      subst hx
      exact fun c hc => escQ_out s y c hc
  have hfr : ∀ x, f.map (esc 1) = some x → ∀ c ∈ x, holdsB 1 c.toNat = false := by
    intro x hx
    cases f with
    | none => cases hx
    | some y =>
      simp only [Option.map_some, Option.some.injEq] at hx
      subst hx
      exact fun c hc => esc_out 1 (by omega) y c hc
  have hm2 : ∀ c ∈ evenSlashes s m, c ≠ 35 ∧ c ≠ 63 := by
    intro c hc
    rcases (even_bytes s m).1 c hc with h | rfl
    · exact hm c h
    · decide
  have hm3 := (even_bytes s m).2
  cases hr : readMiddle H s (evenSlashes s m) (q.map (esc (querySet s))) base with
  | error e => rw [hr] at h; cases h
  | ok p =>
    obtain ⟨x, y, q2⟩ := p
    rw [hr] at h
    simp only [Except.ok.injEq] at h
    subst h
    unfold readMiddle at hr
    split at hr
    · rename_i hsf
      subst hsf
      exact readFile_keep H hl _ (hm3 (by decide)) base (fun b hx => ⟨(hb b hx).1, (hb b hx).2⟩) _ _ hq hfr x y q2 hr
    · rename_i hsf
      cases base with
      | some b =>
        obtain ⟨hg, rfl⟩ := hb b rfl
        exact readRelative_keep H hl _ b hg hsf hm3 _ _ hq hfr x y q2 hr
      | none =>
        simp only at hr
        split at hr
        · cases hr
        · rename_i a2 w2 hx
          simp only [Except.ok.injEq, Prod.mk.injEq] at hr
          obtain ⟨rfl, rfl, rfl⟩ := hr
          split at hx
          · rename_i hsp
            exact fromAuth_keep H hl s hs hlow hsf _ (fun hs2 c hc => hm3 hs2 c ((List.dropWhile_sublist _).subset hc)) _ _ hx _ _ hq hfr
          · rename_i hsp
            exact readOther_keep H hl s _ hs hlow (by simpa using hsp) hm2 _ _ hq hfr _ _ hx

theorem good_read (hl : HostLaws H) (t : Bs) (base : Option Adr) (hb : ∀ b, base = some b → Good H b) (a : Adr) (h : readAddr H t base = .ok a) : Good H a := by
  unfold readAddr readCuts at h
  have hc := cutMarks_good (stripB t)
  generalize cutMarks (stripB t) = c at *
  split at h
  · rename_i hs
    refine readMarked_keep H hl c.scheme c.middle (hc.1 hs).1 (hc.1 hs).2 hc.2 c.query c.frag _ (fun b hx => ?_) a h
    cases base with
    | none => cases hx
    | some d =>
      have hx : (if d.scheme = c.scheme ∧ special c.scheme = true then some d else none) = some b := hx
      split at hx
      · rename_i h2
        simp only [Option.some.injEq] at hx
        subst hx
        exact ⟨hb d rfl, h2.1⟩
      · cases hx
  · cases base with
    | none => cases h
    | some b =>
      have hg := hb b rfl
      simp only at h
      split at h
      · rename_i ho
        split at h
        · simp only [Except.ok.injEq] at h
          subst h
          refine good_rest H b hg _ _ hg.query ?_
          intro x hx
          cases hf : c.frag with
          | none => rw [hf] at hx; cases hx
          | some y =>
            rw [hf] at hx
            simp only [Option.map_some, Option.some.injEq] at hx
            subst hx
            exact fun d hd => esc_out 1 (by omega) y d hd
        · cases h
      · rename_i ho
        exact readMarked_keep H hl b.scheme c.middle hg.scheme hg.low hc.2 c.query c.frag (some b) (fun d hd => by simp only [Option.some.injEq] at hd; subst hd; exact ⟨hg, rfl⟩) a h

theorem good_beside (hl : HostLaws H) (t base : Bs) (a : Adr) (h : readBeside H t base = .ok a) : Good H a := by
  unfold readBeside at h
  split at h
  · exact good_read H hl t none (fun b hb => by cases hb) a h
  · cases hb : readAddr H base none with
    | error e => rw [hb] at h; cases h
    | ok b =>
      rw [hb] at h
      exact good_read H hl t (some b) (fun d hd => by simp only [Option.some.injEq] at hd; subst hd; exact good_read H hl base none (fun b hb => by cases hb) b hb) a h
end
end Go.Moor
/-
  Plain mathematics: an address with another part; it is good again; what it has already changes nothing.
-/
namespace Go.Moor
open Go

def portBesideP (p : Int) (s : Bs) : Int := if p = (ownPort s).1 then -1 else p
def trimMark (c : UInt8) (v : Bs) : Bs := match v with | [] => [] | b :: l => if b = c then l else b :: l
def markOpt (c : UInt8) (set : Int) (v : Bs) : Option Bs := if v = [] then none else some (esc set (trimMark c v))

section
variable (H : Bs → Bool → Option Bs)

def setScheme (a : Adr) (v : Bs) : Except Int Adr :=
  let sc := (cutScheme (v ++ [58])).1
  if sc = [] then .error 6
  else if special sc ≠ special a.scheme ∨ (decide (sc = sFile)) ≠ (decide (a.scheme = sFile)) then .error 6
  else .ok { a with scheme := sc, auth := { a.auth with port := portBesideP a.auth.port sc } }
def setBeside (a : Adr) (part : Int) (v : Bs) : Except Int Adr :=
  if a.auth.host = [] ∨ a.scheme = sFile then .error 6
  else if part = 2 then .ok { a with auth := { a.auth with user := esc 5 v } }
  else if part = 3 then .ok { a with auth := { a.auth with pass := esc 5 v } }
  else match readPort v a.scheme with
    | none => .error 5
    | some p => .ok { a with auth := { a.auth with port := p } }
def hostAlone (v s : Bs) : Option Bs := if s = sFile then fileHost H v else H v (special s)
def setHost (a : Adr) (v : Bs) : Except Int Adr :=
  if a.way.opaq = true then .error 6
  else if v = [] ∧ special a.scheme = false ∧ (a.auth.user ≠ [] ∨ a.auth.pass ≠ [] ∨ a.auth.port ≠ -1) then .error 6
  else match hostAlone H v a.scheme with
    | none => .error 4
    | some h => .ok { a with auth := { a.auth with has := true, host := h } }
def setPath (a : Adr) (v : Bs) : Except Int Adr :=
  if a.way.opaq = true then .error 6
  else if a.auth.has = false ∧ v = [] then .error 6
  else .ok { a with way := readWay a.scheme [] (evenSlashes a.scheme v) }
def setPart (a : Adr) (part : Int) (v : Bs) : Except Int Adr :=
  if part = 1 then setScheme a v
  else if part = 2 ∨ part = 3 ∨ part = 5 then setBeside a part v
  else if part = 4 then setHost H a v
  else if part = 6 then setPath a v
  else if part = 7 then .ok { a with query := markOpt 63 (querySet a.scheme) v }
  else if part = 8 then .ok { a with frag := markOpt 35 1 v }
  else .error 6
def bareB (v : Bs) : Bs := v.filter fun c => !breakB c
def readAlone (t : Bs) : Except Int Adr := if t.length > 2000 then .error 1 else readAddr H t none
def withPart (t : Bs) (part : Int) (v : Bs) : Except Int Bs :=
  if v.length > 2000 then .error 1
  else match readAlone H t with
    | .error e => .error e
    | .ok a => match setPart H a part (bareB v) with
      | .error e => .error e
      | .ok b => .ok (tellAddr b)

theorem markOpt_out (c : UInt8) (k : Nat) (hk : k < 6) (v x : Bs) (h : markOpt c (k : Int) v = some x) : ∀ b ∈ x, holdsB (k : Int) b.toNat = false := by
  unfold markOpt at h
  split at h
  · cases h
  · simp only [Option.some.injEq] at h
    subst h
    exact fun b hb => esc_out k hk _ b hb

theorem setScheme_good (a b : Adr) (v : Bs) (ha : Good H a) (h : setScheme a v = .ok b) : Good H b := by
  unfold setScheme at h
  simp only at h
  split at h
  · cases h
  · rename_i hne
    split at h
    · cases h
    · rename_i hx
      have hx1 : special (cutScheme (v ++ [58])).1 = special a.scheme := Classical.byContradiction fun h => hx (Or.inl h)
      have hx2 : decide ((cutScheme (v ++ [58])).1 = sFile) = decide (a.scheme = sFile) := Classical.byContradiction fun h => hx (Or.inr h)
      have hg := cutScheme_good (v ++ [58]) hne
      simp only [Except.ok.injEq] at h
      subst h
      generalize (cutScheme (v ++ [58])).1 = sc at *
      have hfile : sc = sFile ↔ a.scheme = sFile := by
        have := decide_eq_decide.1 hx2
        exact this
      have hq : querySet sc = querySet a.scheme := by unfold querySet; rw [hx1]
      refine ⟨hg.1, hg.2, ha.user, ha.pass, fun h => ?_, fun h h2 => ?_, fun h => ha.hostF (hfile.1 h), fun h => ?_, fun h => ?_, ?_, fun h => ha.spec (by rw [← hx1]; exact h), ha.opaq, ha.text, fun p hp => ?_, fun h => ha.drive (hfile.1 h), ?_, ha.frag⟩
      · have hb := ha.bare h
        show ({ a.auth with port := portBesideP a.auth.port sc } : Auth) = _
        rw [hb]
        show ({ noAuth with port := portBesideP (-1) sc } : Auth) = _
        unfold portBesideP
        split <;> rfl
      · show H a.auth.host (special sc) = _
        rw [hx1]
        exact ha.host h (fun h3 => h2 (hfile.2 h3))
      · obtain ⟨h1, h2, h3⟩ := ha.empty h
        refine ⟨h1, h2, ?_⟩
        show portBesideP a.auth.port sc = -1
        rw [h3]
        unfold portBesideP
        split <;> rfl
      · obtain ⟨h1, h2, h3⟩ := ha.file (hfile.1 h)
        refine ⟨h1, h2, ?_⟩
        show portBesideP a.auth.port sc = -1
        rw [h3]
        unfold portBesideP
        split <;> rfl
      · show portBesideP a.auth.port sc = -1 ∨ _
        unfold portBesideP
        split
        · exact Or.inl rfl
        · rename_i hp
          rcases ha.port with h | h
          · exact Or.inl h
          · exact Or.inr ⟨h.1, h.2.1, hp⟩
      · have := ha.seg p hp
        exact ⟨this.1, fun c hc => ⟨(this.2 c hc).1, (this.2 c hc).2.1, fun h => (this.2 c hc).2.2 (by rw [← hx1]; exact h)⟩⟩
      · show ∀ q, a.query = some q → ∀ c ∈ q, holdsB (querySet sc) c.toNat = false
        rw [hq]
        exact ha.query

theorem setBeside_good (a b : Adr) (part : Int) (v : Bs) (ha : Good H a) (h : setBeside a part v = .ok b) : Good H b := by
  unfold setBeside at h
  split at h
  · cases h
  · rename_i hx
    have hx1 : a.auth.host ≠ [] := fun h => hx (Or.inl h)
    have hx2 : a.scheme ≠ sFile := fun h => hx (Or.inr h)
    have hhas : a.auth.has = true := by
      cases hh : a.auth.has with
      | true => rfl
      | false => exact absurd (by rw [ha.bare hh]; rfl) hx1
    split at h
    · simp only [Except.ok.injEq] at h
      subst h
      exact ⟨ha.scheme, ha.low, fun c hc => esc_out 5 (by omega) v c hc, ha.pass, fun h => absurd h (by rw [hhas]; simp), ha.host, fun h => absurd h hx2, fun h => absurd h hx1, fun h => absurd h hx2, ha.port, ha.spec, ha.opaq, ha.text, ha.seg, ha.drive, ha.query, ha.frag⟩
    · split at h
      · simp only [Except.ok.injEq] at h
        subst h
        exact ⟨ha.scheme, ha.low, ha.user, fun c hc => esc_out 5 (by omega) v c hc, fun h => absurd h (by rw [hhas]; simp), ha.host, fun h => absurd h hx2, fun h => absurd h hx1, fun h => absurd h hx2, ha.port, ha.spec, ha.opaq, ha.text, ha.seg, ha.drive, ha.query, ha.frag⟩
      · cases hp : readPort v a.scheme with
        | none => rw [hp] at h; cases h
        | some n =>
          rw [hp] at h
          simp only [Except.ok.injEq] at h
          subst h
          exact ⟨ha.scheme, ha.low, ha.user, ha.pass, fun h => absurd h (by rw [hhas]; simp), ha.host, fun h => absurd h hx2, fun h => absurd h hx1, fun h => absurd h hx2, readPort_keep v a.scheme n hp, ha.spec, ha.opaq, ha.text, ha.seg, ha.drive, ha.query, ha.frag⟩

theorem setHost_good (hl : HostLaws H) (a b : Adr) (v : Bs) (ha : Good H a) (h : setHost H a v = .ok b) : Good H b := by
  unfold setHost at h
  split at h
  · cases h
  · rename_i ho
    have ho : a.way.opaq = false := by simpa using ho
    split at h
    · cases h
    · rename_i hx
      cases hh : hostAlone H v a.scheme with
      | none => rw [hh] at h; cases h
      | some n =>
        rw [hh] at h
        simp only [Except.ok.injEq] at h
        subst h
        unfold hostAlone at hh
        have hrest : n = [] → a.auth.user = [] ∧ a.auth.pass = [] ∧ a.auth.port = -1 := by
          rintro rfl
          split at hh
          · rename_i hf; exact ha.file hf
          · have hv := hl.nil _ _ hh
            cases hs : special a.scheme with
            | true => rw [hs] at hh; exact absurd rfl (hl.ne _ _ hh)
            | false =>
              refine ⟨?_, ?_, ?_⟩
              · exact Classical.byContradiction fun h => hx ⟨hv, hs, Or.inl h⟩
              · exact Classical.byContradiction fun h => hx ⟨hv, hs, Or.inr (Or.inl h)⟩
              · exact Classical.byContradiction fun h => hx ⟨hv, hs, Or.inr (Or.inr h)⟩
        refine ⟨ha.scheme, ha.low, ha.user, ha.pass, fun h => (by cases h), fun _ h2 => ?_, fun h => ?_, hrest, ha.file, ha.port, fun h => ⟨rfl, (ha.spec h).2⟩, fun h => (by rw [show a.way.opaq = true from h] at ho; cases ho), fun _ => ⟨(ha.text ho).1, fun h => (by cases h)⟩, ha.seg, ha.drive, ha.query, ha.frag⟩
        · rw [if_neg h2] at hh
          exact hl.again _ _ _ hh
        · rw [if_pos h] at hh
          exact fileHost_keep H hl _ _ hh

theorem even_nil (s v : Bs) (h : v ≠ []) : evenSlashes s v ≠ [] := by
  unfold evenSlashes
  split
  · simpa using h
  · exact h
theorem setPath_good (a b : Adr) (v : Bs) (ha : Good H a) (h : setPath a v = .ok b) : Good H b := by
  unfold setPath at h
  split at h
  · cases h
  · split at h
    · cases h
    · rename_i hx
      simp only [Except.ok.injEq] at h
      subst h
      have hk := segs_keep a.scheme [] (evenSlashes a.scheme v) (goodSegs_nil _) (even_bytes a.scheme v).2
      refine ⟨ha.scheme, ha.low, ha.user, ha.pass, ha.bare, ha.host, ha.hostF, ha.empty, ha.file, ha.port, fun h => ⟨(ha.spec h).1, rfl, hk.2 (Or.inl h)⟩, fun h => (by cases h), fun _ => ⟨rfl, fun h => hk.2 (Or.inr (even_nil _ _ fun hv => hx ⟨h, hv⟩))⟩, hk.1.1, hk.1.2, ha.query, ha.frag⟩

theorem setPart_good (hl : HostLaws H) (a b : Adr) (part : Int) (v : Bs) (ha : Good H a) (h : setPart H a part v = .ok b) : Good H b := by
  unfold setPart at h
  split at h
  · exact setScheme_good H a b v ha h
  · split at h
    · exact setBeside_good H a b part v ha h
    · split at h
      · exact setHost_good H hl a b v ha h
      · split at h
        · exact setPath_good H a b v ha h
        · split at h
          · simp only [Except.ok.injEq] at h
            subst h
            refine ⟨ha.scheme, ha.low, ha.user, ha.pass, ha.bare, ha.host, ha.hostF, ha.empty, ha.file, ha.port, ha.spec, ha.opaq, ha.text, ha.seg, ha.drive, fun q hq => ?_, ha.frag⟩
            obtain ⟨k, hk, e⟩ := querySet_lt a.scheme
            have hq : markOpt 63 (querySet a.scheme) v = some q := hq
            show ∀ c ∈ q, holdsB (querySet a.scheme) c.toNat = false
            rw [e] at hq ⊢
            exact markOpt_out 63 k hk v q hq
          · split at h
            · simp only [Except.ok.injEq] at h
              subst h
              exact ⟨ha.scheme, ha.low, ha.user, ha.pass, ha.bare, ha.host, ha.hostF, ha.empty, ha.file, ha.port, ha.spec, ha.opaq, ha.text, ha.seg, ha.drive, ha.query, fun q hq => markOpt_out 35 1 (by omega) v q hq⟩
            · cases h

/-- What is not named stays as it was. -/
theorem setPart_rest (a b : Adr) (part : Int) (v : Bs) (h : setPart H a part v = .ok b) :
    (part = 1 ∨ a.scheme = b.scheme) ∧ (part = 2 ∨ a.auth.user = b.auth.user) ∧ (part = 3 ∨ a.auth.pass = b.auth.pass) ∧ (part = 4 ∨ (a.auth.host = b.auth.host ∧ a.auth.has = b.auth.has)) ∧ (part = 5 ∨ a.auth.port = b.auth.port ∨ (part = 1 ∧ b.auth.port = -1)) ∧ (part = 6 ∨ a.way = b.way) ∧ (part = 7 ∨ a.query = b.query) ∧ (part = 8 ∨ a.frag = b.frag) := by
  unfold setPart at h
  split at h
  · rename_i h1
    unfold setScheme at h
    simp only at h
    split at h
    · cases h
    · split at h
      · cases h
      · simp only [Except.ok.injEq] at h
        subst h
        refine ⟨Or.inl h1, Or.inr rfl, Or.inr rfl, Or.inr ⟨rfl, rfl⟩, Or.inr ?_, Or.inr rfl, Or.inr rfl, Or.inr rfl⟩
        show a.auth.port = portBesideP a.auth.port _ ∨ part = 1 ∧ portBesideP a.auth.port _ = -1
        unfold portBesideP
        split
        · exact Or.inr ⟨h1, rfl⟩
        · exact Or.inl rfl
  · split at h
    · rename_i h1
      unfold setBeside at h
      split at h
      · cases h
      · split at h
        · rename_i h2
          simp only [Except.ok.injEq] at h
          subst h
          exact ⟨Or.inr rfl, Or.inl h2, Or.inr rfl, Or.inr ⟨rfl, rfl⟩, Or.inr (Or.inl rfl), Or.inr rfl, Or.inr rfl, Or.inr rfl⟩
        · split at h
          · rename_i h2
            simp only [Except.ok.injEq] at h
            subst h
            exact ⟨Or.inr rfl, Or.inr rfl, Or.inl h2, Or.inr ⟨rfl, rfl⟩, Or.inr (Or.inl rfl), Or.inr rfl, Or.inr rfl, Or.inr rfl⟩
          · rename_i h2 h3
            have h5 : part = 5 := by omega
            cases hp : readPort v a.scheme with
            | none => rw [hp] at h; cases h
            | some n =>
              rw [hp] at h
              simp only [Except.ok.injEq] at h
              subst h
              exact ⟨Or.inr rfl, Or.inr rfl, Or.inr rfl, Or.inr ⟨rfl, rfl⟩, Or.inl h5, Or.inr rfl, Or.inr rfl, Or.inr rfl⟩
    · split at h
      · rename_i h4
        unfold setHost at h
        split at h
        · cases h
        · split at h
          · cases h
          · cases hh : hostAlone H v a.scheme with
            | none => rw [hh] at h; cases h
            | some n =>
              rw [hh] at h
              simp only [Except.ok.injEq] at h
              subst h
              exact ⟨Or.inr rfl, Or.inr rfl, Or.inr rfl, Or.inl h4, Or.inr (Or.inl rfl), Or.inr rfl, Or.inr rfl, Or.inr rfl⟩
      · split at h
        · rename_i h6
          unfold setPath at h
          split at h
          · cases h
          · split at h
            · cases h
            · simp only [Except.ok.injEq] at h
              subst h
              exact ⟨Or.inr rfl, Or.inr rfl, Or.inr rfl, Or.inr ⟨rfl, rfl⟩, Or.inr (Or.inl rfl), Or.inl h6, Or.inr rfl, Or.inr rfl⟩
        · split at h
          · rename_i h7
            simp only [Except.ok.injEq] at h
            subst h
            exact ⟨Or.inr rfl, Or.inr rfl, Or.inr rfl, Or.inr ⟨rfl, rfl⟩, Or.inr (Or.inl rfl), Or.inr rfl, Or.inl h7, Or.inr rfl⟩
          · split at h
            · rename_i h8
              simp only [Except.ok.injEq] at h
              subst h
              exact ⟨Or.inr rfl, Or.inr rfl, Or.inr rfl, Or.inr ⟨rfl, rfl⟩, Or.inr (Or.inl rfl), Or.inr rfl, Or.inr rfl, Or.inl h8⟩
            · cases h

/-- The text of a part, as Given asks for it again. -/
def partText (a : Adr) (part : Int) : Bs :=
  if part = 1 then a.scheme else if part = 2 then a.auth.user else if part = 3 then a.auth.pass else if part = 4 then a.auth.host
  else if part = 5 then (if 0 ≤ a.auth.port then decB a.auth.port else []) else tellWay a.way

theorem portBeside_same (s : Bs) (p : Int) (h : p = -1 ∨ (0 ≤ p ∧ p ≤ 65535 ∧ p ≠ (ownPort s).1)) : portBesideP p s = p := by
  unfold portBesideP
  split
  · rename_i h2
    rcases h with h | h
    · exact h.symm
    · exact absurd h2 h.2.2
  · rfl
theorem adr_auth (a : Adr) (u : Auth) (h : u = a.auth) : ({ a with auth := u } : Adr) = a := by subst h; rfl

theorem setPart_same (hl : HostLaws H) (a b : Adr) (part : Int) (v : Bs) (ha : Good H a) (h : setPart H a part v = .ok b) (hp : 1 ≤ part ∧ part ≤ 6) : setPart H b part (partText b part) = .ok b := by
  have hb := setPart_good H hl a b part v ha h
  have hr := setPart_rest H a b part v h
  unfold setPart at h ⊢
  unfold partText
  by_cases h1 : part = 1
  · rw [if_pos h1, if_pos h1]
    have hs := scheme_bytes b.scheme hb.scheme
    have e : cutScheme (b.scheme ++ [58]) = (b.scheme, []) := by
      unfold cutScheme
      rw [cutB_some 58 [] b.scheme (fun c hc => (hs.2 c hc).2.2)]
      show (if isSchemeB b.scheme = true then (Lib.toLowerA b.scheme, _) else _) = _
      rw [if_pos hb.scheme, hb.low]
    unfold setScheme
    simp only [e]
    rw [if_neg hs.1, if_neg (by simp), portBeside_same _ _ hb.port]
  · rw [if_neg h1, if_neg h1]
    rw [if_neg h1] at h
    by_cases h2 : part = 2 ∨ part = 3 ∨ part = 5
    · rw [if_pos h2]
      rw [if_pos h2] at h
      have hc : ¬ (b.auth.host = [] ∨ b.scheme = sFile) := by
        unfold setBeside at h
        split at h
        · cases h
        · rename_i hx
          have e1 := hr.1.resolve_left h1
          have e2 := (hr.2.2.2.1.resolve_left (by omega)).1
          rw [← e1, ← e2]
          exact hx
      unfold setBeside
      rw [if_neg hc]
      by_cases p2 : part = 2
      · rw [if_pos p2, if_pos p2, esc_same 5 _ hb.user]
      · rw [if_neg p2, if_neg p2]
        by_cases p3 : part = 3
        · rw [if_pos p3, if_pos p3, esc_same 5 _ hb.pass]
        · rw [if_neg p3, if_neg p3, if_neg (show ¬ part = 4 by omega), if_pos (show part = 5 by omega)]
          have : readPort (if 0 ≤ b.auth.port then decB b.auth.port else []) b.scheme = some b.auth.port := by
            rcases hb.port with h | h
            · rw [if_neg (by omega), h]; rfl
            · rw [if_pos h.1]; exact readPort_told _ _ h
          rw [this]
    · rw [if_neg h2]
      rw [if_neg h2] at h
      have n2 : ¬ part = 2 := fun h => h2 (Or.inl h)
      have n3 : ¬ part = 3 := fun h => h2 (Or.inr (Or.inl h))
      have n5 : ¬ part = 5 := fun h => h2 (Or.inr (Or.inr h))
      rw [if_neg n2, if_neg n3]
      by_cases h4 : part = 4
      · rw [if_pos h4, if_pos h4]
        rw [if_pos h4] at h
        have ho : b.way.opaq = false := by
          unfold setHost at h
          split at h
          · cases h
          · rename_i hx
            rw [← hr.2.2.2.2.2.1.resolve_left (by omega)]
            simpa using hx
        have hhas : b.auth.has = true := by
          unfold setHost at h
          split at h
          · cases h
          · split at h
            · cases h
            · cases hh : hostAlone H v a.scheme with
              | none => rw [hh] at h; cases h
              | some n =>
                rw [hh] at h
                simp only [Except.ok.injEq] at h
                subst h
                rfl
        unfold setHost
        rw [if_neg (by simp [ho]), if_neg]
        · have : hostAlone H b.auth.host b.scheme = some b.auth.host := by
            unfold hostAlone
            split
            · rename_i hf; exact hb.hostF hf
            · rename_i hf; exact hb.host hhas hf
          rw [this]
          simp only [Except.ok.injEq]
          exact adr_auth b _ (by rw [← hhas])
        · rintro ⟨x1, _, x3⟩
          obtain ⟨y1, y2, y3⟩ := hb.empty x1
          rcases x3 with h | h | h
          · exact h y1
          · exact h y2
          · exact h y3
      · rw [if_neg h4, if_neg h4, if_neg n5]
        have h6 : part = 6 := by omega
        rw [if_pos h6]
        rw [if_neg h4, if_pos h6] at h
        have ho : b.way.opaq = false := by
          unfold setPath at h
          split at h
          · cases h
          · split at h
            · cases h
            · simp only [Except.ok.injEq] at h
              subst h
              rfl
        have ew : tellWay b.way = tellSegs b.way.segs := by unfold tellWay; rw [ho]; rfl
        unfold setPath
        rw [if_neg (by simp [ho]), if_neg, ew]
        · have : evenSlashes b.scheme (tellSegs b.way.segs) = tellSegs b.way.segs := by
            cases hs : special b.scheme with
            | true => exact even_same _ _ (fun c hc => (way_bytes H b hb c (by rw [ew]; exact hc)).2.2.2.2 hs)
            | false => unfold evenSlashes; rw [hs]; rfl
          rw [this, way_told H b hb ho]
        · rintro ⟨x1, x2⟩
          rw [ew] at x2
          have := (hb.text ho).2 x1
          rcases tellSegs_head b.way.segs with ⟨h, _⟩ | ⟨r, hr⟩
          · exact this h
          · rw [hr] at x2; cases x2

theorem bareB_same (v : Bs) (h : ∀ c ∈ v, 33 ≤ c.toNat) : bareB v = v := by
  have := strip_same v h
  unfold stripB trimB at this
  unfold bareB
  rw [List.filter_eq_self]
  intro c hc
  have := h c hc
  have e : ∀ k : Nat, k < 33 → c ≠ k.toUInt8 := fun k hk e => by
    rw [e] at this
    have h2 : (k.toUInt8).toNat = k := by rw [show k.toUInt8.toNat = k % 256 from rfl]; omega
    omega
  have e9 : c ≠ 9 := e 9 (by omega)
  have e10 : c ≠ 10 := e 10 (by omega)
  have e13 : c ≠ 13 := e 13 (by omega)
  simp [breakB, e9, e10, e13]
end
end Go.Moor
/-
  Plain mathematics for texts of pieces with colons between: what is read of them, with or without two colons beside one another.
-/
namespace Go.Moor
open Go

/-- Do two colons stand beside one another? -/
def hasCC : List UInt8 → Bool
  | [] => false
  | a :: l => (a == 58 && l.head? == some 58) || hasCC l

theorem pre_cc (a : UInt8) (l : List UInt8) (h : (a == 58 && l.head? == some 58) = false) : List.isPrefixOf [58, 58] (a :: l) = false := by
  cases l with
  | nil => simp [List.isPrefixOf]
  | cons b l =>
    simp only [List.head?_cons, Bool.and_eq_false_iff] at h
    simp only [List.isPrefixOf, Bool.and_true, Bool.and_eq_false_iff]
    rcases h with h | h
    · left
      rw [beq_eq_false_iff_ne] at h ⊢
      exact fun e => h e.symm
    · right
      rw [beq_eq_false_iff_ne] at h ⊢
      exact fun e => h (by rw [e])

theorem index_cc_none : ∀ l : List UInt8, hasCC l = false → Lib.index l [58, 58] = -1
  | [], _ => by simp [Lib.index]
  | a :: l, h => by
    rw [hasCC, Bool.or_eq_false_iff] at h
    rw [Lib.index, pre_cc a l h.1, index_cc_none l h.2]
    rfl
theorem cut_none (l : List UInt8) (h : hasCC l = false) : Lib.cut l [58, 58] = (l, [], false) := by
  unfold Lib.cut
  rw [index_cc_none l h]
  rfl
theorem head_app (q r : List UInt8) (x : UInt8) : (q ++ x :: r).head? = (q ++ [x]).head? := by cases q <;> rfl
theorem index_cc_hit (r : List UInt8) : ∀ p : List UInt8, hasCC (p ++ [58]) = false → Lib.index (p ++ 58 :: 58 :: r) [58, 58] = p.length
  | [], _ => by
    show Lib.index (58 :: 58 :: r) [58, 58] = 0
    rw [Lib.index]
    simp [List.isPrefixOf]
  | a :: q, h => by
    rw [List.cons_append, hasCC, Bool.or_eq_false_iff] at h
    have ih := index_cc_hit r q h.2
    show Lib.index (a :: (q ++ 58 :: 58 :: r)) [58, 58] = _
    rw [Lib.index, pre_cc a _ (by rw [head_app]; exact h.1), ih]
    simp only [Bool.false_eq_true, if_false]
    rw [if_neg (by simp)]
    simp
theorem cut_hit (p r : List UInt8) (h : hasCC (p ++ [58]) = false) : Lib.cut (p ++ 58 :: 58 :: r) [58, 58] = (p, r, true) := by
  unfold Lib.cut
  rw [index_cc_hit r p h, if_pos (by omega)]
  simp

/-- Texts with colons between. -/
def joinC : List (List UInt8) → List UInt8
  | [] => []
  | [x] => x
  | x :: y :: l => x ++ 58 :: joinC (y :: l)
theorem split_joinC : ∀ ls : List (List UInt8), ls ≠ [] → (∀ x ∈ ls, ∀ c ∈ x, c ≠ 58) → splitOn 58 (joinC ls) = ls
  | [], h, _ => absurd rfl h
  | [x], _, h => splitOn_miss 58 x (h x (by simp))
  | x :: y :: l, _, h => by
    rw [joinC, splitOn_hit 58 _ x (h x (by simp)), split_joinC (y :: l) (by simp) (fun z hz => h z (by simp [hz]))]

/-- A text with no colon in it, and not empty. -/
def plainTxt (x : List UInt8) : Prop := x ≠ [] ∧ ∀ c ∈ x, c ≠ 58

theorem cc_app (r : List UInt8) (hr : hasCC r = false) : ∀ x : List UInt8, (∀ c ∈ x, c ≠ 58) → hasCC (x ++ r) = false
  | [], _ => hr
  | a :: x, h => by
    rw [List.cons_append, hasCC, Bool.or_eq_false_iff]
    refine ⟨?_, cc_app r hr x (fun c hc => h c (by simp [hc]))⟩
    have : (a == 58) = false := by rw [beq_eq_false_iff_ne]; exact h a (by simp)
    rw [this]; rfl
theorem joinC_head : ∀ ls : List (List UInt8), ls ≠ [] → (∀ x ∈ ls, plainTxt x) → ∀ r, (joinC ls ++ r).head? ≠ some 58
  | [], h, _, _ => absurd rfl h
  | [x], _, h, r => by
    obtain ⟨h1, h2⟩ := h x (by simp)
    cases x with
    | nil => exact absurd rfl h1
    | cons a x => simp [joinC]; exact h2 a (by simp)
  | x :: y :: l, _, h, r => by
    obtain ⟨h1, h2⟩ := h x (by simp)
    cases x with
    | nil => exact absurd rfl h1
    | cons a x => simp [joinC]; exact h2 a (by simp)
theorem cc_joinC (r : List UInt8) (hr : hasCC r = false) : ∀ ls : List (List UInt8), (∀ x ∈ ls, plainTxt x) → hasCC (joinC ls ++ r) = false
  | [], _ => hr
  | [x], h => cc_app r hr x (h x (by simp)).2
  | x :: y :: l, h => by
    have ih := cc_joinC r hr (y :: l) (fun z hz => h z (by simp [hz]))
    rw [joinC, List.append_assoc]
    refine cc_app _ ?_ x (h x (by simp)).2
    rw [List.cons_append, hasCC, Bool.or_eq_false_iff]
    refine ⟨?_, ih⟩
    have := joinC_head (y :: l) (by simp) (fun z hz => h z (by simp [hz])) r
    rw [Bool.and_eq_false_iff]
    right
    rw [beq_eq_false_iff_ne]
    exact this

/-- Texts and the pieces that they are. -/
def readsAs (ls : List (List UInt8 × Nat)) : Prop := ∀ y ∈ ls, plainTxt y.1 ∧ sixPiece y.1 = some (y.2 : Int) ∧ ¬ 0 ≤ Lib.indexByte y.1 46
theorem sixAcc_reads : ∀ (ls : List (List UInt8 × Nat)) (ps : List Int), readsAs ls → sixAcc ps (ls.map (·.1)) = some (ps ++ ls.map fun y => (y.2 : Int))
  | [], ps, _ => by simp [sixAcc]
  | y :: ls, ps, h => by
    have h1 := (h y (by simp)).2.1
    have ih := sixAcc_reads ls (ps ++ [(y.2 : Int)]) (fun z hz => h z (by simp [hz]))
    simp only [List.map_cons, sixAcc, h1, ih, List.append_assoc, List.singleton_append]
theorem sixLast_reads (ls : List (List UInt8 × Nat)) (h : readsAs ls) : sixLast (ls.map (·.1)) = some (ls.map fun y => (y.2 : Int)) := by
  unfold sixLast
  cases hl : (ls.map (·.1)).getLast? with
  | none =>
    have : ls = [] := by simpa using hl
    subst this
    rfl
  | some x =>
    have hm := List.mem_of_getLast? hl
    obtain ⟨y, hy, rfl⟩ := List.mem_map.1 hm
    simp only [(h y hy).2.2, if_false]
    exact sixAcc_reads ls [] h
theorem split_reads (ls : List (List UInt8 × Nat)) (h : readsAs ls) : sixSplit (joinC (ls.map (·.1))) = ls.map (·.1) := by
  unfold sixSplit
  cases ls with
  | nil => rfl
  | cons y l =>
    have hne : joinC ((y :: l).map (·.1)) ≠ [] := by
      intro e
      have h2 := (h y (by simp)).1.1
      cases l with
      | nil => simp [joinC] at e; exact h2 e
      | cons z l => simp [joinC] at e
    rw [if_neg hne]
    exact split_joinC _ (by simp) (fun x hx => by
      obtain ⟨z, hz, rfl⟩ := List.mem_map.1 hx
      exact (h z hz).1.2)

/-- Eight pieces in full. -/
theorem sixOf_full (ls : List (List UInt8 × Nat)) (h : readsAs ls) (h8 : ls.length = 8) : sixOf (joinC (ls.map (·.1))) = some (ls.map fun y => (y.2 : Int)) := by
  have hp : ∀ x ∈ ls.map (·.1), plainTxt x := fun x hx => by
    obtain ⟨z, hz, rfl⟩ := List.mem_map.1 hx
    exact (h z hz).1
  have hc := cc_joinC [] rfl (ls.map (·.1)) hp
  rw [List.append_nil] at hc
  unfold sixOf
  rw [cut_none _ hc]
  simp only [split_reads ls h, sixLast_reads ls h]
  rw [show sixPieces (sixSplit []) = some [] from rfl]
  simp [sixFill, h8]

/-- Pieces ahead and behind two colons. -/
theorem sixOf_short (fs gs : List (List UInt8 × Nat)) (hf : readsAs fs) (hg : readsAs gs) (h8 : fs.length + gs.length < 8) :
    sixOf (joinC (fs.map (·.1)) ++ 58 :: 58 :: joinC (gs.map (·.1))) = some ((fs.map fun y => (y.2 : Int)) ++ (List.replicate (8 - fs.length - gs.length) 0 ++ gs.map fun y => (y.2 : Int))) := by
  have hp : ∀ x ∈ fs.map (·.1), plainTxt x := fun x hx => by
    obtain ⟨z, hz, rfl⟩ := List.mem_map.1 hx
    exact (hf z hz).1
  have hc := cc_joinC [58] (by decide) (fs.map (·.1)) hp
  unfold sixOf
  rw [cut_hit _ _ hc]
  simp only [split_reads fs hf, split_reads gs hg, sixLast_reads gs hg]
  rw [show sixPieces (fs.map (·.1)) = some (fs.map fun y => (y.2 : Int)) from sixAcc_reads fs [] hf]
  have : (fs.length : Int) + (gs.length : Int) < 8 := by omega
  simp [sixFill, this]
end Go.Moor
/-
  Plain mathematics for the texts that are made of eight pieces: each is told in one way.
-/
namespace Go.Moor
open Go

theorem hexL_plain : ∀ d : Fin 16, hexL d.val ≠ 58 ∧ hexL d.val ≠ 46 := by decide +kernel
theorem piece_mem (n : Nat) (hn : n < 65536) (c : UInt8) (hc : c ∈ digsF 16 3 n) : c ≠ 58 ∧ c ≠ 46 := by
  obtain ⟨d, hd, rfl⟩ := digs_mem 16 (by omega) 3 n hn c hc
  exact hexL_plain ⟨d, hd⟩
theorem piece_ne (n : Nat) (hn : n < 65536) : digsF 16 3 n ≠ [] := by
  obtain ⟨d, r, h, _⟩ := digs_head 16 (by omega) 3 n hn
  rw [h]; simp
theorem no_dot (l : List UInt8) (h : ∀ c ∈ l, c ≠ 46) : ¬ 0 ≤ Lib.indexByte l 46 := by
  rcases indexByte_split 46 l with ⟨h1, _⟩ | ⟨p, r, rfl, _, _⟩
  · rw [h1]; decide
  · exact absurd rfl (h 46 (by simp))
theorem piece_reads (n : Nat) (hn : n < 65536) : plainTxt (digsF 16 3 n) ∧ sixPiece (digsF 16 3 n) = some (n : Int) ∧ ¬ 0 ≤ Lib.indexByte (digsF 16 3 n) 46 := by
  refine ⟨⟨piece_ne n hn, fun c hc => (piece_mem n hn c hc).1⟩, ?_, no_dot _ fun c hc => (piece_mem n hn c hc).2⟩
  have h1 := digs_len 16 3 n
  have h2 : 0 < (digsF 16 3 n).length := List.length_pos_iff.2 (piece_ne n hn)
  unfold sixPiece
  rw [if_neg (by omega)]
  exact digs_val 16 65535 (by omega) (by omega) 3 n hn (by omega)
theorem piece_reads0 (n : Nat) (hn : n < 65536) (h4 : (digsF 16 3 n).length < 4) : plainTxt (48 :: digsF 16 3 n) ∧ sixPiece (48 :: digsF 16 3 n) = some (n : Int) ∧ ¬ 0 ≤ Lib.indexByte (48 :: digsF 16 3 n) 46 := by
  have hm : ∀ c ∈ (48 :: digsF 16 3 n : List UInt8), c ≠ 58 ∧ c ≠ 46 := by
    intro c hc
    rcases List.mem_cons.1 hc with rfl | hc
    · decide
    · exact piece_mem n hn c hc
  refine ⟨⟨by simp, fun c hc => (hm c hc).1⟩, ?_, no_dot _ fun c hc => (hm c hc).2⟩
  unfold sixPiece
  rw [if_neg (by simp; omega)]
  have := digs_val 16 65535 (by omega) (by omega) 3 n hn (by omega)
  show digAcc 16 65535 0 (48 :: digsF 16 3 n) = _
  rw [digAcc, show hexVal (48 : UInt8).toNat = 0 by decide]
  exact this

/-- The pieces as they are told, with their numbers. -/
def toldRow (ns : List Nat) : List (List UInt8 × Nat) := ns.map fun n => (digsF 16 3 n, n)
theorem toldRow_reads (ns : List Nat) (h : ∀ n ∈ ns, n < 65536) : readsAs (toldRow ns) := by
  intro y hy
  obtain ⟨n, hn, rfl⟩ := List.mem_map.1 hy
  exact piece_reads n (h n hn)
theorem toldRow_fst (ns : List Nat) : (toldRow ns).map (·.1) = ns.map pieceTxt := by
  unfold toldRow
  rw [List.map_map]; rfl
theorem toldRow_snd (ns : List Nat) : ((toldRow ns).map fun y => (y.2 : Int)) = ns.map fun n : Nat => (n : Int) := by
  unfold toldRow
  rw [List.map_map]; rfl
theorem join_C : ∀ ls : List (List UInt8), Lib.join ls [58] = joinC ls
  | [] => rfl
  | [x] => Lib.join_one x [58]
  | x :: y :: l => by
    have ih := join_C (y :: l)
    rw [Lib.join_cons] at ih ⊢
    rw [joinC, ← ih]
    simp [Lib.joinTail]
theorem tellRow_C (ns : List Nat) : tellRow ns = joinC ((toldRow ns).map (·.1)) := by
  rw [toldRow_fst]
  exact join_C _

theorem back_nats (ns : List Nat) : (ns.map fun n : Nat => (n : Int)).map Int.toNat = ns := by
  rw [List.map_map]
  refine (List.map_congr_left fun n _ => ?_).trans (List.map_id ns)
  simp

/-- What is read of a text without brackets, told. -/
theorem bracketed_of (l : List UInt8) (ns : List Nat) (h : sixOf l = some (ns.map fun n : Nat => (n : Int))) : bracketed (l ++ [93]) = some ([91] ++ (sixTell ns ++ [93])) := by
  have hs : Lib.hasSuffix (l ++ [93]) [93] = true := by simp [Lib.hasSuffix]
  unfold bracketed
  rw [if_pos hs]
  have ht : Lib.trimSuffix (l ++ [93]) [93] = l := by
    unfold Lib.trimSuffix
    rw [if_pos hs]
    simp
  rw [ht, h]
  simp only [back_nats]

/-- The row that is found is one of noughts. -/
theorem noughts_zero (ns : List Nat) : ∀ (k i row s l : Nat), i + k = ns.length → row ≤ i → (∀ j, i - row ≤ j → j < i → ns[j]? = some 0) → (∀ j, s ≤ j → j < s + l → ns[j]? = some 0) → ∀ j, (noughts (ns.drop i) i row s l).1 ≤ j → j < (noughts (ns.drop i) i row s l).1 + (noughts (ns.drop i) i row s l).2 → ns[j]? = some 0
  | 0, i, row, s, l, hi, _, _, h2 => by
    rw [List.drop_eq_nil_of_le (by omega)]
    exact h2
  | k + 1, i, row, s, l, hi, hr, h1, h2 => by
    obtain ⟨x, hx⟩ : ∃ x, ns[i]? = some x := ⟨ns[i]'(by omega), by simp⟩
    obtain ⟨hlt, he⟩ := List.getElem?_eq_some_iff.1 hx
    rw [List.drop_eq_getElem_cons hlt, he]
    unfold noughts
    split
    · exact noughts_zero ns k (i + 1) 0 s l (by omega) (by omega) (fun j a b => absurd b (by omega)) h2
    · rename_i h0
      have hx0 : x = 0 := Decidable.not_not.1 h0
      subst hx0
      have h3 : ∀ j, i - row ≤ j → j < i + 1 → ns[j]? = some 0 := by
        intro j a b
        by_cases hj : j = i
        · rw [hj]; exact hx
        · exact h1 j a (by omega)
      split
      · exact noughts_zero ns k (i + 1) (row + 1) (i - row) (row + 1) (by omega) (by omega) (fun j a b => h3 j (by omega) b) (fun j a b => h3 j a (by omega))
      · exact noughts_zero ns k (i + 1) (row + 1) s l (by omega) (by omega) (fun j a b => h3 j (by omega) b) h2

theorem zero_mid (ns : List Nat) (s l : Nat) (h : ∀ j, s ≤ j → j < s + l → ns[j]? = some 0) : ns = ns.take s ++ (List.replicate l 0 ++ ns.drop (s + l)) := by
  have e : (ns.drop s).take l = List.replicate l 0 := by
    apply List.ext_getElem?
    intro j
    rw [List.getElem?_take, List.getElem?_replicate]
    by_cases hj : j < l
    · rw [if_pos hj, if_pos hj, List.getElem?_drop]
      exact h (s + j) (by omega) (by omega)
    · rw [if_neg hj, if_neg hj]
  rw [← e, show s + l = s + l from rfl, ← List.drop_drop, List.take_append_drop, List.take_append_drop]

/-- What two colons stand for. -/
theorem sixOf_gap (ns : List Nat) (s l : Nat) (h8 : ns.length = 8) (hn : ∀ n ∈ ns, n < 65536) (hl : s + l ≤ 8) (hl1 : 1 ≤ l) (h : ∀ j, s ≤ j → j < s + l → ns[j]? = some 0) :
    sixOf (tellRow (ns.take s) ++ 58 :: 58 :: tellRow (ns.drop (s + l))) = some (ns.map fun n : Nat => (n : Int)) := by
  rw [tellRow_C, tellRow_C, sixOf_short _ _ (toldRow_reads _ fun n hm => hn n (List.mem_of_mem_take hm)) (toldRow_reads _ fun n hm => hn n (List.mem_of_mem_drop hm)) (by simp [toldRow]; omega), toldRow_snd, toldRow_snd]
  have e := zero_mid ns s l h
  have hk : 8 - (toldRow (ns.take s)).length - (toldRow (ns.drop (s + l))).length = l := by simp [toldRow]; omega
  rw [hk]
  conv => rhs; rw [e]
  simp

theorem sixOf_whole (ns : List Nat) (h8 : ns.length = 8) (hn : ∀ n ∈ ns, n < 65536) : sixOf (tellRow ns) = some (ns.map fun n : Nat => (n : Int)) := by
  rw [tellRow_C, sixOf_full _ (toldRow_reads ns hn) (by simp [toldRow, h8]), toldRow_snd]

/-- What is told is read as itself. -/
theorem sixOf_told (ns : List Nat) (h8 : ns.length = 8) (hn : ∀ n ∈ ns, n < 65536) : sixOf (sixTell ns) = some (ns.map fun n : Nat => (n : Int)) := by
  unfold sixTell
  split
  · exact sixOf_whole ns h8 hn
  · rename_i hl
    have hb := noughts_bound 8 ns 0 0 0 0 (by omega) (by omega) (by omega)
    have hz := noughts_zero ns 8 0 0 0 0 (by omega) (by omega) (fun j a b => absurd b (by omega)) (fun j a b => absurd b (by omega))
    rw [List.drop_zero] at hz
    exact sixOf_gap ns _ _ h8 hn hb (by omega) hz
end Go.Moor
/-
  Plain mathematics for six pieces and an IP4's end.
-/
namespace Go.Moor
open Go

theorem dec_plain (b : Nat) (hb : b < 256) : plainDec (Lib.decDigits b) = some (b : Int) ∧ (∀ c ∈ Lib.decDigits b, c ≠ 58 ∧ c ≠ 46) ∧ Lib.decDigits b ≠ [] := by
  rw [← digs_dec 2 b (by omega)]
  obtain ⟨d, r, he, hd, h0, h1⟩ := digs_head 10 (by omega) 2 b (by omega)
  have hne : digsF 10 2 b ≠ [] := by rw [he]; simp
  refine ⟨?_, fun c hc => ?_, hne⟩
  · unfold plainDec
    rw [if_neg hne, if_neg]
    · exact digs_val 10 255 (by omega) (by omega) 2 b (by omega) (by omega)
    · rintro ⟨h2, h3⟩
      rw [he] at h2 h3
      simp at h2 h3
      by_cases hd0 : d = 0
      · rw [h1 hd0] at h3; simp at h3
      · exact hexL_ne48 ⟨d, by omega⟩ hd0 h2
  · obtain ⟨e, hed, rfl⟩ := digs_mem 10 (by omega) 2 b (by omega) c hc
    exact hexL_plain ⟨e, by omega⟩

theorem join_D : ∀ ls : List (List UInt8), Lib.join ls [46] = joinDots ls
  | [] => rfl
  | [x] => Lib.join_one x [46]
  | x :: y :: l => by
    have ih := join_D (y :: l)
    rw [Lib.join_cons] at ih ⊢
    rw [joinDots, ← ih]
    simp [Lib.joinTail]

theorem four_bytes (n : Nat) (hn : n < 4294967296) : ((byte4 n 0 * 256 + byte4 n 1) * 256 + byte4 n 2) * 256 + byte4 n 3 = n := by
  have e0 : byte4 n 0 = n / 16777216 % 256 := rfl
  have e1 : byte4 n 1 = n / 65536 % 256 := rfl
  have e2 : byte4 n 2 = n / 256 % 256 := rfl
  have e3 : byte4 n 3 = n / 1 % 256 := rfl
  rw [e0, e1, e2, e3]
  omega

theorem dotted_tell4 (n : Nat) (hn : n < 4294967296) : sixDotted (tell4 n) = some (n : Int) ∧ plainTxt (tell4 n) ∧ 0 ≤ Lib.indexByte (tell4 n) 46 := by
  have h0 := dec_plain (byte4 n 0) (byte4_lt n 0)
  have h1 := dec_plain (byte4 n 1) (byte4_lt n 1)
  have h2 := dec_plain (byte4 n 2) (byte4_lt n 2)
  have h3 := dec_plain (byte4 n 3) (byte4_lt n 3)
  have ht : tell4 n = joinDots [Lib.decDigits (byte4 n 0), Lib.decDigits (byte4 n 1), Lib.decDigits (byte4 n 2), Lib.decDigits (byte4 n 3)] := join_D _
  have hm : ∀ x ∈ [Lib.decDigits (byte4 n 0), Lib.decDigits (byte4 n 1), Lib.decDigits (byte4 n 2), Lib.decDigits (byte4 n 3)], ∀ c ∈ x, c ≠ 58 ∧ c ≠ 46 := by
    intro x hx
    simp at hx
    rcases hx with rfl | rfl | rfl | rfl
    · exact h0.2.1
    · exact h1.2.1
    · exact h2.2.1
    · exact h3.2.1
  have hs : splitOn 46 (tell4 n) = [Lib.decDigits (byte4 n 0), Lib.decDigits (byte4 n 1), Lib.decDigits (byte4 n 2), Lib.decDigits (byte4 n 3)] := by
    rw [ht]
    exact split_joinDots _ (by simp) fun x hx c hc => (hm x hx c hc).2
  refine ⟨?_, ⟨?_, ?_⟩, ?_⟩
  · unfold sixDotted
    rw [hs, if_pos (by rfl)]
    simp only [dotAcc, h0.1, h1.1, h2.1, h3.1]
    have := four_bytes n hn
    congr 1
    omega
  · rw [ht]; simp [joinDots]
  · intro c hc
    rw [ht] at hc
    rcases joinDots_mem _ c hc with rfl | ⟨x, hx, hcx⟩
    · decide
    · exact (hm x hx c hcx).1
  · rcases indexByte_split 46 (tell4 n) with ⟨_, h⟩ | ⟨p, r, _, _, h⟩
    · exact absurd rfl (h 46 (by rw [ht]; simp [joinDots]))
    · rw [h]; omega

/-- Six pieces, and numbers with dots for two. -/
theorem sixOf_dots (ns : List Nat) (n : Nat) (h6 : ns.length = 6) (hs : ∀ k ∈ ns, k < 65536) (hn : n < 4294967296) :
    sixOf (joinC (ns.map pieceTxt ++ [tell4 n])) = some ((ns ++ [n / 65536, n % 65536]).map fun n : Nat => (n : Int)) := by
  obtain ⟨hd1, hd2, hd3⟩ := dotted_tell4 n hn
  have hr := toldRow_reads ns hs
  have hp : ∀ x ∈ ns.map pieceTxt ++ [tell4 n], plainTxt x := by
    intro x hx
    rcases List.mem_append.1 hx with hx | hx
    · obtain ⟨k, hk, rfl⟩ := List.mem_map.1 hx
      exact (piece_reads k (hs k hk)).1
    · simp at hx; subst hx; exact hd2
  have hc := cc_joinC [] rfl _ hp
  rw [List.append_nil] at hc
  have hne : joinC (ns.map pieceTxt ++ [tell4 n]) ≠ [] := by
    intro e
    have := split_joinC _ (by simp) fun x hx => (hp x hx).2
    rw [e] at this
    have := congrArg List.length this
    simp [splitOn, h6] at this
  unfold sixOf
  rw [cut_none _ hc]
  simp only []
  rw [show sixPieces (sixSplit []) = some [] from rfl]
  have hsp : sixSplit (joinC (ns.map pieceTxt ++ [tell4 n])) = ns.map pieceTxt ++ [tell4 n] := by
    unfold sixSplit
    rw [if_neg hne]
    exact split_joinC _ (by simp) fun x hx => (hp x hx).2
  have hl : sixLast (ns.map pieceTxt ++ [tell4 n]) = some ((ns ++ [n / 65536, n % 65536]).map fun n : Nat => (n : Int)) := by
    unfold sixLast
    rw [List.getLast?_append]
    simp only [List.getLast?_singleton, Option.some_or, hd3, if_true, List.dropLast_concat]
    rw [← toldRow_fst, show sixPieces ((toldRow ns).map (·.1)) = some ((toldRow ns).map fun y => (y.2 : Int)) from sixAcc_reads _ [] hr, hd1, toldRow_snd]
    simp [sixJoin]
  rw [hsp, hl]
  simp [sixFill, h6]
end Go.Moor
