/-
  Plain mathematics: what escaping leaves of a segment: it stands for dots only if it did before; what stands in an escaped text; lists of good segments.
-/
import Derived.Test.YtkcnageeamappaaGreatDoorJGBack
import Derived.Test.YtkcnageeamappaaGreatDoorJABridge
namespace Go.Moor
open Go

theorem hexCap_out : ∀ (s : Fin 6) (k : Fin 16), holdsB (s.val : Int) (hexCap k.val).toNat = false := by decide +kernel
theorem pct_out : ∀ (s : Fin 6), holdsB (s.val : Int) 37 = false := by decide +kernel
theorem esc_mem (s : Int) : ∀ (l : Bs) (c : UInt8), c ∈ esc s l → (c ∈ l ∧ holdsB s c.toNat = false) ∨ c = 37 ∨ ∃ k : Fin 16, c = hexCap k.val
  | [], c, h => by cases h
  | b :: l, c, h => by
    have e : esc s (b :: l) = escB s b ++ esc s l := rfl
    rw [e] at h
    rcases List.mem_append.1 h with h | h
    · unfold escB at h
      cases hb : holdsB s b.toNat with
      | true =>
        rw [hb] at h
        simp only [if_true, List.mem_cons, List.not_mem_nil, or_false] at h
        rcases h with rfl | rfl | rfl
        · exact Or.inr (Or.inl rfl)
        · exact Or.inr (Or.inr ⟨⟨b.toNat / 16, by have := b.toNat_lt; omega⟩, rfl⟩)
        · exact Or.inr (Or.inr ⟨⟨b.toNat % 16, by omega⟩, rfl⟩)
      | false =>
        rw [hb] at h
        simp at h
        subst h
        exact Or.inl ⟨by simp, hb⟩
    · rcases esc_mem s l c h with ⟨h1, h2⟩ | h
      · exact Or.inl ⟨by simp [h1], h2⟩
      · exact Or.inr h
theorem esc_out (s : Nat) (hs : s < 6) (l : Bs) (c : UInt8) (h : c ∈ esc (s : Int) l) : holdsB (s : Int) c.toNat = false := by
  rcases esc_mem _ l c h with ⟨_, h⟩ | rfl | ⟨k, rfl⟩
  · exact h
  · exact pct_out ⟨s, hs⟩
  · exact hexCap_out ⟨s, hs⟩ k
theorem querySet_lt (s : Bs) : ∃ k : Nat, k < 6 ∧ querySet s = (k : Int) := by
  unfold querySet
  split
  · exact ⟨3, by omega, rfl⟩
  · exact ⟨2, by omega, rfl⟩
theorem escQ_out (s : Bs) (l : Bs) (c : UInt8) (h : c ∈ esc (querySet s) l) : holdsB (querySet s) c.toNat = false := by
  obtain ⟨k, hk, e⟩ := querySet_lt s
  rw [e] at h ⊢
  exact esc_out k hk l c h

-- unescaping what was escaped by a set without the percent sign
theorem hex_fin : ∀ c : Fin 256, hexVal c.val < 16 → holdsB 4 c.val = false ∧ c.val ≠ 37 := by decide +kernel
theorem hex_byte (c : UInt8) (h : hexVal c.toNat < 16) : holdsB 4 c.toNat = false ∧ c ≠ 37 := by
  have := hex_fin ⟨c.toNat, c.toNat_lt⟩ h
  exact ⟨this.1, ne_toNat c 37 this.2 (by omega)⟩
theorem hexCap_two (c : UInt8) (l : Bs) : twoHex (hexCap (c.toNat / 16) :: hexCap (c.toNat % 16) :: l) = true := by
  have := pair_back' c
  simp only [twoHex, Bool.and_eq_true, decide_eq_true_eq]
  exact this.2
theorem esc_cons_in (s : Int) (c : UInt8) (l : Bs) (h : holdsB s c.toNat = true) : esc s (c :: l) = 37 :: hexCap (c.toNat / 16) :: hexCap (c.toNat % 16) :: esc s l := by
  show escB s c ++ esc s l = _
  unfold escB
  rw [h]
  rfl
theorem esc_cons_out (s : Int) (c : UInt8) (l : Bs) (h : holdsB s c.toNat = false) : esc s (c :: l) = c :: esc s l := by
  show escB s c ++ esc s l = _
  unfold escB
  rw [h]
  rfl
theorem twoHex_esc (l : Bs) (h : twoHex l = false) : twoHex (esc 4 l) = false := by
  match l with
  | [] => rfl
  | [a] =>
    cases ha : holdsB 4 a.toNat with
    | true => rw [esc_cons_in 4 a [] ha]; rfl
    | false => rw [esc_cons_out 4 a [] ha]; rfl
  | a :: b :: r =>
    cases ha : holdsB 4 a.toNat with
    | true => rw [esc_cons_in 4 a _ ha]; rfl
    | false =>
      rw [esc_cons_out 4 a _ ha]
      cases hb : holdsB 4 b.toNat with
      | true => rw [esc_cons_in 4 b _ hb]; simp [twoHex]; intro _; decide
      | false => rw [esc_cons_out 4 b _ hb]; exact h
theorem unesc_esc4 : ∀ (n : Nat) (l : Bs), l.length ≤ n → unesc (esc 4 l) = unesc l
  | _, [], _ => rfl
  | 0, c :: l, h => by simp at h
  | n + 1, c :: l, h => by
    have hl : l.length ≤ n := by simpa using h
    cases hc : holdsB 4 c.toNat with
    | true =>
      have h37 : c ≠ 37 := by rintro rfl; exact absurd hc (by decide +kernel)
      rw [esc_cons_in 4 c l hc, unesc_hex _ _ _ (hexCap_two c _), (pair_back' c).1, unesc_ne c l h37, unesc_esc4 n l hl]
    | false =>
      rw [esc_cons_out 4 c l hc]
      by_cases h37 : c = 37
      · subst h37
        cases ht : twoHex l with
        | false => rw [unesc_not _ (twoHex_esc l ht), unesc_not _ ht, unesc_esc4 n l hl]
        | true =>
          match l, ht, hl with
          | a :: b :: r, ht, hl =>
            have ht2 := ht
            simp only [twoHex, Bool.and_eq_true, decide_eq_true_eq] at ht2
            rw [esc_cons_out 4 a _ (hex_byte a ht2.1).1, esc_cons_out 4 b _ (hex_byte b ht2.2).1, unesc_hex a b _ (by simp [twoHex, ht2]), unesc_hex a b r ht, unesc_esc4 n r (by simp at hl; omega)]
      · rw [unesc_ne c _ h37, unesc_ne c l h37, unesc_esc4 n l hl]

theorem unesc_nil (l : Bs) (h : unesc l = []) : l = [] := by
  match l with
  | [] => rfl
  | c :: l =>
    by_cases h37 : c = 37
    · subst h37
      cases ht : twoHex l with
      | false => rw [unesc_not _ ht] at h; cases h
      | true =>
        match l, ht with
        | a :: b :: r, ht => rw [unesc_hex a b r ht] at h; cases h
    · rw [unesc_ne c l h37] at h; cases h
theorem two_fin : ∀ c : Fin 256, hexVal c.val = 2 → c.val = 50 := by decide +kernel
theorem e_fin : ∀ c : Fin 256, hexVal c.val = 14 → c.val = 69 ∨ c.val = 101 := by decide +kernel
theorem of_toNat (c : UInt8) (k : Nat) (h : c.toNat = k) : c = k.toUInt8 := by
  subst h
  simp
theorem pair_46 (a b : UInt8) (ha : hexVal a.toNat < 16) (hb : hexVal b.toNat < 16) (h : pairB a b = 46) : a = 50 ∧ (b = 69 ∨ b = 101) := by
  have h1 := hexVal_range (a.toNat : Int)
  have h2 := hexVal_range (b.toNat : Int)
  have hx : (16 * (hexVal a.toNat).toNat + (hexVal b.toNat).toNat) % 256 = 46 := by
    have := congrArg UInt8.toNat h
    exact this
  have e1 : hexVal a.toNat = 2 := by omega
  have e2 : hexVal b.toNat = 14 := by omega
  refine ⟨of_toNat a 50 (two_fin ⟨a.toNat, a.toNat_lt⟩ e1), ?_⟩
  rcases e_fin ⟨b.toNat, b.toNat_lt⟩ e2 with h | h
  · exact Or.inl (of_toNat b 69 h)
  · exact Or.inr (of_toNat b 101 h)
theorem unesc_46 (l r : Bs) (h : unesc l = 46 :: r) : ∃ l', unesc l' = r ∧ (l = 46 :: l' ∨ l = 37 :: 50 :: 69 :: l' ∨ l = 37 :: 50 :: 101 :: l') := by
  match l with
  | [] => cases h
  | c :: l =>
    by_cases h37 : c = 37
    · subst h37
      cases ht : twoHex l with
      | false => rw [unesc_not _ ht] at h; injection h with h _; exact absurd h (by decide)
      | true =>
        match l, ht with
        | a :: b :: q, ht =>
          rw [unesc_hex a b q ht] at h
          injection h with h h2
          simp only [twoHex, Bool.and_eq_true, decide_eq_true_eq] at ht
          obtain ⟨rfl, hb⟩ := pair_46 a b ht.1 ht.2 h
          refine ⟨q, h2, ?_⟩
          rcases hb with rfl | rfl
          · exact Or.inr (Or.inl rfl)
          · exact Or.inr (Or.inr rfl)
    · rw [unesc_ne c l h37] at h
      injection h with h h2
      subst h
      exact ⟨l, h2, Or.inl rfl⟩
theorem dots_of_unesc (l : Bs) (h : unesc l = [46] ∨ unesc l = [46, 46]) : dots l ≠ 0 := by
  rcases h with h | h
  · obtain ⟨l', h1, h2⟩ := unesc_46 l _ h
    have := unesc_nil l' h1
    subst this
    rcases h2 with rfl | rfl | rfl <;> decide
  · obtain ⟨l', h1, h2⟩ := unesc_46 l _ h
    obtain ⟨l2, h3, h4⟩ := unesc_46 l' _ h1
    have := unesc_nil l2 h3
    subst this
    rcases h2 with rfl | rfl | rfl <;> rcases h4 with rfl | rfl | rfl <;> decide
theorem low_head (c : UInt8) (l : Bs) : ∃ r, lowDots (c :: l) = c :: r := by
  by_cases h : pE.isPrefixOf (c :: l) = false
  · exact ⟨_, low_step c l h⟩
  · have h : pE.isPrefixOf (c :: l) = true := by simpa using h
    obtain ⟨t, ht⟩ := List.isPrefixOf_iff_prefix.1 h
    injection ht with h1 h2
    subst h1
    rw [← h2]
    exact ⟨_, rfl⟩
theorem low_ne (c : UInt8) (l : Bs) (h : c ≠ 37) : lowDots (c :: l) = c :: lowDots l := by
  refine low_step c l ?_
  simp [pE, List.isPrefixOf]
  intro h2
  exact absurd h2.symm h
theorem twoHex_low (l : Bs) (h : twoHex l = false) : twoHex (lowDots l) = false := by
  match l with
  | [] => rfl
  | [a] =>
    by_cases ha : a = 37
    · subst ha; rfl
    · rw [low_ne a [] ha]; rfl
  | a :: b :: r =>
    by_cases ha : a = 37
    · subst ha
      obtain ⟨q, hq⟩ := low_head 37 (b :: r)
      rw [hq]
      cases q with
      | nil => rfl
      | cons x q => rfl
    · rw [low_ne a _ ha]
      obtain ⟨q, hq⟩ := low_head b r
      rw [hq]
      exact h
theorem unesc_low : ∀ (n : Nat) (l : Bs), l.length ≤ n → unesc (lowDots l) = unesc l
  | _, [], _ => rfl
  | 0, c :: l, h => by simp at h
  | n + 1, c :: l, h => by
    have hl : l.length ≤ n := by simpa using h
    by_cases hp : pE.isPrefixOf (c :: l) = false
    · rw [low_step c l hp]
      by_cases h37 : c = 37
      · subst h37
        cases ht : twoHex l with
        | false => rw [unesc_not _ (twoHex_low l ht), unesc_not _ ht, unesc_low n l hl]
        | true =>
          match l, ht, hl with
          | a :: b :: r, ht, hl =>
            have ht2 := ht
            simp only [twoHex, Bool.and_eq_true, decide_eq_true_eq] at ht2
            rw [low_ne a _ (hex_byte a ht2.1).2, low_ne b _ (hex_byte b ht2.2).2, unesc_hex a b _ (by simp [twoHex, ht2]), unesc_hex a b r ht, unesc_low n r (by simp at hl; omega)]
      · rw [unesc_ne c _ h37, unesc_ne c l h37, unesc_low n l hl]
    · have hp : pE.isPrefixOf (c :: l) = true := by simpa using hp
      obtain ⟨t, ht⟩ := List.isPrefixOf_iff_prefix.1 hp
      rw [← ht]
      show unesc (37 :: 50 :: 101 :: lowDots t) = unesc (37 :: 50 :: 69 :: t)
      rw [unesc_hex _ _ _ (by simp [twoHex]; decide), unesc_hex _ _ _ (by simp [twoHex]; decide), unesc_low n t]
      · rfl
      · have := congrArg List.length ht
        simp [pE] at this
        omega
theorem unesc_of_dots (l : Bs) (h : dots l ≠ 0) : unesc l = [46] ∨ unesc l = [46, 46] := by
  rw [← unesc_low l.length l (Nat.le_refl _)]
  unfold dots at h
  simp only at h
  split at h
  · rename_i h1; rcases h1 with h1 | h1 <;> rw [h1] <;> decide
  · split at h
    · rename_i h1; rcases h1 with h1 | h1 | h1 | h1 <;> rw [h1] <;> decide
    · exact absurd rfl h
theorem dots_esc (p : Bs) (h : dots p = 0) : dots (esc 4 p) = 0 := by
  cases Nat.decEq (dots (esc 4 p)) 0 with
  | isTrue h => exact h
  | isFalse h2 =>
    have := unesc_of_dots _ h2
    rw [unesc_esc4 p.length p (Nat.le_refl _)] at this
    exact absurd h (dots_of_unesc p this)

theorem drive_esc (p : Bs) (h : isDrive (esc 4 p) = true) : isDrive p = true := by
  match p with
  | [] => exact h
  | [a] =>
    cases ha : holdsB 4 a.toNat with
    | true => rw [esc_cons_in 4 a _ ha] at h; cases h
    | false => rw [esc_cons_out 4 a _ ha] at h; exact h
  | [a, b] =>
    cases ha : holdsB 4 a.toNat with
    | true => rw [esc_cons_in 4 a _ ha] at h; cases h
    | false =>
      rw [esc_cons_out 4 a _ ha] at h
      cases hb : holdsB 4 b.toNat with
      | true => rw [esc_cons_in 4 b _ hb] at h; cases h
      | false => rw [esc_cons_out 4 b _ hb] at h; exact h
  | a :: b :: c :: r =>
    have hl := esc_len 4 (a :: b :: c :: r)
    match hx : esc 4 (a :: b :: c :: r), h with
    | [x, y], _ => rw [hx] at hl; simp at hl; omega

-- lists of good segments
def GoodSegs (s : Bs) (l : List Bs) : Prop := (∀ p ∈ l, goodSeg s p) ∧ (s = sFile → isDrive (l.headD []) = true → toldDrive (l.headD []) = true)
theorem goodSegs_nil (s : Bs) : GoodSegs s [] := ⟨fun p hp => (by cases hp), fun _ h => (by cases h)⟩
theorem goodSeg_nil (s : Bs) : goodSeg s [] := ⟨rfl, fun c hc => by cases hc⟩
theorem hexCap_fin : ∀ k : Fin 16, hexCap k.val ≠ 47 ∧ hexCap k.val ≠ 92 := by decide +kernel
theorem letter_fin : ∀ c : Fin 256, isLetter c.val.toUInt8 = true → holdsB 4 c.val = false ∧ c.val ≠ 47 ∧ c.val ≠ 92 ∧ c.val ≠ 37 ∧ c.val ≠ 46 := by decide +kernel
theorem letter_out (c : UInt8) (h : isLetter c = true) : holdsB 4 c.toNat = false ∧ c ≠ 47 ∧ c ≠ 92 ∧ c ≠ 37 ∧ c ≠ 46 := by
  have := letter_fin ⟨c.toNat, c.toNat_lt⟩ (by simpa using h)
  exact ⟨this.1, ne_toNat c 47 this.2.1 (by omega), ne_toNat c 92 this.2.2.1 (by omega), ne_toNat c 37 this.2.2.2.1 (by omega), ne_toNat c 46 this.2.2.2.2 (by omega)⟩
theorem drive_good (s : Bs) (a : UInt8) (h : isLetter a = true) : goodSeg s [a, 58] := by
  have ha := letter_out a h
  refine ⟨?_, fun c hc => ?_⟩
  · unfold dots
    rw [low_ne a _ ha.2.2.2.1, low_ne 58 _ (by decide)]
    have : a ≠ 46 := ha.2.2.2.2
    have h37 : a ≠ 37 := ha.2.2.2.1
    simp [lowDots, this, h37]
  · simp only [List.mem_cons, List.not_mem_nil, or_false] at hc
    rcases hc with rfl | rfl
    · exact ⟨ha.1, ha.2.1, fun _ => ha.2.2.1⟩
    · exact ⟨by decide +kernel, by decide, fun _ => by decide⟩
theorem tellSeg_good (s p : Bs) (first : Bool) (hd : dots p = 0) (hb : ∀ c ∈ p, c ≠ 47 ∧ (special s = true → c ≠ 92)) : goodSeg s (tellSeg s p first) ∧ (first = true → s = sFile → isDrive (tellSeg s p first) = true → toldDrive (tellSeg s p first) = true) := by
  unfold tellSeg
  cases hx : (first && decide (s = sFile) && isDrive p) with
  | true =>
    rw [if_pos rfl]
    simp only [Bool.and_eq_true, decide_eq_true_eq] at hx
    match p, hx.2 with
    | [a, b], h2 =>
      simp [isDrive] at h2
      refine ⟨drive_good s a h2.1, fun _ _ _ => ?_⟩
      simp [toldDrive, isDrive, h2.1]
  | false =>
    rw [if_neg (by simp)]
    refine ⟨⟨dots_esc p hd, fun c hc => ?_⟩, fun h1 h2 h3 => ?_⟩
    · refine ⟨esc_out 4 (by omega) p c hc, ?_⟩
      rcases esc_mem _ p c hc with ⟨h, _⟩ | rfl | ⟨k, rfl⟩
      · exact hb c h
      · exact ⟨by decide, fun _ => by decide⟩
      · exact ⟨(hexCap_fin k).1, fun _ => (hexCap_fin k).2⟩
    · rw [h1, h2] at hx
      have := drive_esc p h3
      rw [this] at hx
      simp at hx
theorem goodSegs_snoc (s : Bs) (l : List Bs) (p : Bs) (h : GoodSegs s l) (hp : goodSeg s p) (hd : l = [] → s = sFile → isDrive p = true → toldDrive p = true) : GoodSegs s (l ++ [p]) := by
  refine ⟨fun q hq => ?_, ?_⟩
  · rcases List.mem_append.1 hq with hq | hq
    · exact h.1 q hq
    · rw [List.mem_singleton] at hq; subst hq; exact hp
  · cases l with
    | nil => exact hd rfl
    | cons x l => exact h.2
theorem goodSegs_dropLast (s : Bs) (l : List Bs) (h : GoodSegs s l) : GoodSegs s l.dropLast := by
  refine ⟨fun p hp => h.1 p (List.dropLast_subset l hp), ?_⟩
  match l, h with
  | [], _ => exact fun _ h => by cases h
  | [x], _ => exact fun _ h => by cases h
  | x :: y :: l, h => exact h.2
theorem withoutLast_good (s : Bs) (l : List Bs) (h : GoodSegs s l) : GoodSegs s (withoutLast s l) := by
  unfold withoutLast
  split
  · exact h
  · exact goodSegs_dropLast s l h
theorem segLoop_keep (s : Bs) : ∀ (ps segs : List Bs), GoodSegs s segs → (∀ p ∈ ps, ∀ c ∈ p, c ≠ 47 ∧ (special s = true → c ≠ 92)) → GoodSegs s (segLoop s segs ps) ∧ (ps ≠ [] → segLoop s segs ps ≠ [])
  | [], segs, h, _ => ⟨h, fun h => absurd rfl h⟩
  | p :: ps, segs, h, hb => by
    have hrec := fun segs h => segLoop_keep s ps segs h (fun q hq => hb q (by simp [hq]))
    by_cases hd : dots p = 0
    · rw [segLoop, if_pos hd]
      have ht := tellSeg_good s p segs.isEmpty hd (hb p (by simp))
      have h2 := hrec _ (goodSegs_snoc s segs _ h ht.1 (fun he => by subst he; exact ht.2 rfl))
      refine ⟨h2.1, fun _ => ?_⟩
      cases ps with
      | nil => simp [segLoop]
      | cons q ps => exact h2.2 (by simp)
    · rw [segLoop, if_neg hd]
      have hw : GoodSegs s (if dots p = 2 then withoutLast s segs else segs) := by
        split
        · exact withoutLast_good s segs h
        · exact h
      cases ps with
      | nil =>
        have h2 := hrec _ (goodSegs_snoc s _ [] hw (goodSeg_nil s) (fun _ _ h => by cases h))
        exact ⟨h2.1, fun _ => by simp [segLoop]⟩
      | cons q ps =>
        have h2 := hrec _ hw
        have e : (if List.isEmpty (q :: ps) = true then [([] : Bs)] else []) = [] := rfl
        rw [e, List.append_nil]
        exact ⟨h2.1, fun _ => h2.2 (by simp)⟩
theorem splitOn_bytes (c : UInt8) : ∀ (l x : Bs), x ∈ splitOn c l → ∀ b ∈ x, b ∈ l ∧ b ≠ c
  | [], x, h => by
    simp [splitOn] at h
    subst h
    exact fun b hb => by cases hb
  | a :: l, x, h => by
    intro b hb
    by_cases ha : a = c
    · rw [splitOn, if_pos ha] at h
      rcases List.mem_cons.1 h with rfl | h
      · cases hb
      · have := splitOn_bytes c l x h b hb
        exact ⟨by simp [this.1], this.2⟩
    · rw [splitOn, if_neg ha] at h
      cases hs : splitOn c l with
      | nil => exact absurd hs (splitOn_ne c l)
      | cons y ys =>
        rw [hs] at h
        rcases List.mem_cons.1 h with rfl | h
        · rcases List.mem_cons.1 hb with rfl | hb
          · exact ⟨by simp, ha⟩
          · have := splitOn_bytes c l y (by rw [hs]; simp) b hb
            exact ⟨by simp [this.1], this.2⟩
        · have := splitOn_bytes c l x (by rw [hs]; simp [h]) b hb
          exact ⟨by simp [this.1], this.2⟩
theorem trimSlash_mem (t : Bs) (c : UInt8) (h : c ∈ trimSlash t) : c ∈ t := by
  unfold trimSlash at h
  split at h
  · simp [h]
  · exact h
/-- The path of a text in which there is no backslash, if the scheme is special. -/
theorem segs_keep (s : Bs) (begun : List Bs) (t : Bs) (h : GoodSegs s begun) (ht : special s = true → ∀ c ∈ t, c ≠ 92) : GoodSegs s (readSegs s begun t) ∧ (special s = true ∨ t ≠ [] → readSegs s begun t ≠ []) := by
  unfold readSegs
  split
  · rename_i hx
    refine ⟨h, fun h2 => ?_⟩
    rcases h2 with h2 | h2
    · rw [hx.2] at h2; cases h2
    · exact absurd hx.1 h2
  · have := segLoop_keep s (splitOn 47 (trimSlash t)) begun h (fun p hp c hc => by
      have hb := splitOn_bytes 47 _ p hp c hc
      exact ⟨hb.2, fun hs => ht hs c (trimSlash_mem t c hb.1)⟩)
    exact ⟨this.1, fun _ => this.2 (splitOn_ne 47 _)⟩
end Go.Moor
