/-
  Plain mathematics: what escaping leaves of a segment: it stands for dots only if it did before; what stands in an escaped text; lists of good segments.
-/
import Derived.Test.YtkcnageeamappabGreatDoorJGBack
import Derived.Test.YtkcnageeamappabGreatDoorJAScheme2
namespace Go.Moor
open Go

theorem hexCap_out : ∀ (s : Fin 6) (k : Fin 16), holdsB (s.val : Int) (hexCap k.val).toNat = false := by decide +kernel
theorem pct_out : ∀ (s : Fin 6), holdsB (s.val : Int) 37 = false := by decide +kernel
theorem esc_mem (s : Int) : ∀ (l : Bs) (c : UInt8), c ∈ esc s l → (c ∈ l ∧ holdsB s c.toNat = false) ∨ c = 37 ∨ ∃ k : Fin 16, c = hexCap k.val
  | [], c, h => by cases h
  | b :: l, c, h => by
    have e : esc s (b :: l) = escB s b ++ esc s l := rfl
    rw [e] at h
    rcases List.mem_append.1 h with h | h
    · unfold escB at h
      cases hb : holdsB s b.toNat with
      | true =>
        rw [hb] at h
        simp only [if_true, List.mem_cons, List.not_mem_nil, or_false] at h
        rcases h with rfl | rfl | rfl
        · exact Or.inr (Or.inl rfl)
        · exact Or.inr (Or.inr ⟨⟨b.toNat / 16, by have := b.toNat_lt; omega⟩, rfl⟩)
        · exact Or.inr (Or.inr ⟨⟨b.toNat % 16, by omega⟩, rfl⟩)
      | false =>
        rw [hb] at h
        simp at h
        subst h
        exact Or.inl ⟨by simp, hb⟩
    · rcases esc_mem s l c h with ⟨h1, h2⟩ | h
      · exact Or.inl ⟨by simp [h1], h2⟩
      · exact Or.inr h
theorem esc_out (s : Nat) (hs : s < 6) (l : Bs) (c : UInt8) (h : c ∈ esc (s : Int) l) : holdsB (s : Int) c.toNat = false := by
  rcases esc_mem _ l c h with ⟨_, h⟩ | rfl | ⟨k, rfl⟩
  · exact h
  · exact pct_out ⟨s, hs⟩
  · exact hexCap_out ⟨s, hs⟩ k
theorem querySet_lt (s : Bs) : ∃ k : Nat, k < 6 ∧ querySet s = (k : Int) := by
  unfold querySet
  split
  · exact ⟨3, by omega, rfl⟩
  · exact ⟨2, by omega, rfl⟩
theorem escQ_out (s : Bs) (l : Bs) (c : UInt8) (h : c ∈ esc (querySet s) l) : holdsB (querySet s) c.toNat = false := by
  obtain ⟨k, hk, e⟩ := querySet_lt s
  rw [e] at h ⊢
  exact esc_out k hk l c h

-- unescaping what was escaped by a set without the percent sign
theorem hex_fin : ∀ c : Fin 256, hexVal c.val < 16 → holdsB 4 c.val = false ∧ c.val ≠ 37 := by decide +kernel
theorem hex_byte (c : UInt8) (h : hexVal c.toNat < 16) : holdsB 4 c.toNat = false ∧ c ≠ 37 := by
  have := hex_fin ⟨c.toNat, c.toNat_lt⟩ h
  exact ⟨this.1, ne_toNat c 37 this.2 (by omega)⟩
theorem hexCap_two (c : UInt8) (l : Bs) : twoHex (hexCap (c.toNat / 16) :: hexCap (c.toNat % 16) :: l) = true := by
  have := pair_back' c
  simp only [twoHex, Bool.and_eq_true, decide_eq_true_eq]
  exact this.2
theorem esc_cons_in (s : Int) (c : UInt8) (l : Bs) (h : holdsB s c.toNat = true) : esc s (c :: l) = 37 :: hexCap (c.toNat / 16) :: hexCap (c.toNat % 16) :: esc s l := by
  show escB s c ++ esc s l = _
  unfold escB
  rw [h]
  rfl
theorem esc_cons_out (s : Int) (c : UInt8) (l : Bs) (h : holdsB s c.toNat = false) : esc s (c :: l) = c :: esc s l := by
  show escB s c ++ esc s l = _
  unfold escB
  rw [h]
  rfl
theorem twoHex_esc (l : Bs) (h : twoHex l = false) : twoHex (esc 4 l) = false := by
  match l with
  | [] => rfl
  | [a] =>
    cases ha : holdsB 4 a.toNat with
    | true => rw [esc_cons_in 4 a [] ha]; rfl
    | false => rw [esc_cons_out 4 a [] ha]; rfl
  | a :: b :: r =>
    cases ha : holdsB 4 a.toNat with
    | true => rw [esc_cons_in 4 a _ ha]; rfl
    | false =>
      rw [esc_cons_out 4 a _ ha]
      cases hb : holdsB 4 b.toNat with
      | true => rw [esc_cons_in 4 b _ hb]; simp [twoHex]; intro _; decide
      | false => rw [esc_cons_out 4 b _ hb]; exact h
theorem unesc_esc4 : ∀ (n : Nat) (l : Bs), l.length ≤ n → unesc (esc 4 l) = unesc l
  | _, [], _ => rfl
  | 0, c :: l, h => by simp at h
  | n + 1, c :: l, h => by
    have hl : l.length ≤ n := by simpa using h
    cases hc : holdsB 4 c.toNat with
    | true =>
      have h37 : c ≠ 37 := by rintro rfl; exact absurd hc (by decide +kernel)
      rw [esc_cons_in 4 c l hc, unesc_hex _ _ _ (hexCap_two c _), (pair_back' c).1, unesc_ne c l h37, unesc_esc4 n l hl]
    | false =>
      rw [esc_cons_out 4 c l hc]
      by_cases h37 : c = 37
      · subst h37
        cases ht : twoHex l with
        | false => rw [unesc_not _ (twoHex_esc l ht), unesc_not _ ht, unesc_esc4 n l hl]
        | true =>
          match l, ht, hl with
          | a :: b :: r, ht, hl =>
            have ht2 := ht
            simp only [twoHex, Bool.and_eq_true, decide_eq_true_eq] at ht2
            rw [esc_cons_out 4 a _ (hex_byte a ht2.1).1, esc_cons_out 4 b _ (hex_byte b ht2.2).1, unesc_hex a b _ (by simp [twoHex, ht2]), unesc_hex a b r ht, unesc_esc4 n r (by simp at hl; omega)]
      · rw [unesc_ne c _ h37, unesc_ne c l h37, unesc_esc4 n l hl]

theorem unesc_nil (l : Bs) (h : unesc l = []) : l = [] := by
  match l with
  | [] => rfl
  | c :: l =>
    by_cases h37 : c = 37
    · subst h37
      cases ht : twoHex l with
      | false => rw [unesc_not _ ht] at h; cases h
      | true =>
        match l, ht with
        | a :: b :: r, ht => rw [unesc_hex a b r ht] at h; cases h
    · rw [unesc_ne c l h37] at h; cases h
theorem two_fin : ∀ c : Fin 256, hexVal c.val = 2 → c.val = 50 := by decide +kernel
theorem e_fin : ∀ c : Fin 256, hexVal c.val = 14 → c.val = 69 ∨ c.val = 101 := by decide +kernel
theorem of_toNat (c : UInt8) (k : Nat) (h : c.toNat = k) : c = k.toUInt8 := by
  subst h
  simp
theorem pair_46 (a b : UInt8) (ha : hexVal a.toNat < 16) (hb : hexVal b.toNat < 16) (h : pairB a b = 46) : a = 50 ∧ (b = 69 ∨ b = 101) := by
  have h1 := hexVal_range (a.toNat : Int)
  have h2 := hexVal_range (b.toNat : Int)
  have hx : (16 * (hexVal a.toNat).toNat + (hexVal b.toNat).toNat) % 256 = 46 := by
    have := congrArg UInt8.toNat h
    exact this
  have e1 : hexVal a.toNat = 2 := by omega
  have e2 : hexVal b.toNat = 14 := by omega
  refine ⟨of_toNat a 50 (two_fin ⟨a.toNat, a.toNat_lt⟩ e1), ?_⟩
  rcases e_fin ⟨b.toNat, b.toNat_lt⟩ e2 with h | h
  · exact Or.inl (of_toNat b 69 h)
  · exact Or.inr (of_toNat b 101 h)
theorem unesc_46 (l r : Bs) (h : unesc l = 46 :: r) : ∃ l', unesc l' = r ∧ (l = 46 :: l' ∨ l = 37 :: 50 :: 69 :: l' ∨ l = 37 :: 50 :: 101 :: l') := by
  match l with
  | [] => cases h
  | c :: l =>
    by_cases h37 : c = 37
    · subst h37
      cases ht : twoHex l with
      | false => rw [unesc_not _ ht] at h; injection h with h _; exact absurd h (by decide)
      | true =>
        match l, ht with
        | a :: b :: q, ht =>
          rw [unesc_hex a b q ht] at h
          injection h with h h2
          simp only [twoHex, Bool.and_eq_true, decide_eq_true_eq] at ht
          obtain ⟨rfl, hb⟩ := pair_46 a b ht.1 ht.2 h
          refine ⟨q, h2, ?_⟩
          rcases hb with rfl | rfl
          · exact Or.inr (Or.inl rfl)
          · exact Or.inr (Or.inr rfl)
    · rw [unesc_ne c l h37] at h
      injection h with h h2
      subst h
      exact ⟨l, h2, Or.inl rfl⟩
theorem dots_of_unesc (l : Bs) (h : unesc l = [46] ∨ unesc l = [46, 46]) : dots l ≠ 0 := by
  rcases h with h | h
  · obtain ⟨l', h1, h2⟩ := unesc_46 l _ h
    have := unesc_nil l' h1
    subst this
    rcases h2 with rfl | rfl | rfl <;> decide
  · obtain ⟨l', h1, h2⟩ := unesc_46 l _ h
    obtain ⟨l2, h3, h4⟩ := unesc_46 l' _ h1
    have := unesc_nil l2 h3
    subst this
    rcases h2 with rfl | rfl | rfl <;> rcases h4 with rfl | rfl | rfl <;> decide
theorem low_head (c : UInt8) (l : Bs) : ∃ r, lowDots (c :: l) = c :: r := by
  by_cases h : pE.isPrefixOf (c :: l) = false
  · exact ⟨_, low_step c l h⟩
  · have h : pE.isPrefixOf (c :: l) = true := by simpa using h
    obtain ⟨t, ht⟩ := List.isPrefixOf_iff_prefix.1 h
    injection ht with h1 h2
    subst h1
    rw [← h2]
    exact ⟨_, rfl⟩
theorem low_ne (c : UInt8) (l : Bs) (h : c ≠ 37) : lowDots (c :: l) = c :: lowDots l := by
  refine low_step c l ?_
  simp [pE, List.isPrefixOf]
  intro h2
  exact absurd h2.symm h
theorem twoHex_low (l : Bs) (h : twoHex l = false) : twoHex (lowDots l) = false := by
  match l with
  | [] => rfl
  | [a] =>
    by_cases ha : a = 37
    · subst ha; rfl
    · rw [low_ne a [] ha]; rfl
  | a :: b :: r =>
    by_cases ha : a = 37
    · subst ha
      obtain ⟨q, hq⟩ := low_head 37 (b :: r)
      rw [hq]
      cases q with
      | nil => rfl
      | cons x q => rfl
    · rw [low_ne a _ ha]
      obtain ⟨q, hq⟩ := low_head b r
      rw [hq]
      exact h
theorem unesc_low : ∀ (n : Nat) (l : Bs), l.length ≤ n → unesc (lowDots l) = unesc l
  | _, [], _ => rfl
  | 0, c :: l, h => by simp at h
  | n + 1, c :: l, h => by
    have hl : l.length ≤ n := by simpa using h
    by_cases hp : pE.isPrefixOf (c :: l) = false
    · rw [low_step c l hp]
      by_cases h37 : c = 37
      · subst h37
        cases ht : twoHex l with
        | false => rw [unesc_not _ (twoHex_low l ht), unesc_not _ ht, unesc_low n l hl]
        | true =>
          match l, ht, hl with
          | a :: b :: r, ht, hl =>
            have ht2 := ht
            simp only [twoHex, Bool.and_eq_true, decide_eq_true_eq] at ht2
            rw [low_ne a _ (hex_byte a ht2.1).2, low_ne b _ (hex_byte b ht2.2).2, unesc_hex a b _ (by simp [twoHex, ht2]), unesc_hex a b r ht, unesc_low n r (by simp at hl; omega)]
      · rw [unesc_ne c _ h37, unesc_ne c l h37, unesc_low n l hl]
    · have hp : pE.isPrefixOf (c :: l) = true := by simpa using hp
      obtain ⟨t, ht⟩ := List.isPrefixOf_iff_prefix.1 hp
      rw [← ht]
      show unesc (37 :: 50 :: 101 :: lowDots t) = unesc (37 :: 50 :: 69 :: t)
      rw [unesc_hex _ _ _ (by simp [twoHex]; decide), unesc_hex _ _ _ (by simp [twoHex]; decide), unesc_low n t]
      · rfl
      · have := congrArg List.length ht
        simp [pE] at this
        omega
theorem unesc_of_dots (l : Bs) (h : dots l ≠ 0) : unesc l = [46] ∨ unesc l = [46, 46] := by
  rw [← unesc_low l.length l (Nat.le_refl _)]
  unfold dots at h
  simp only at h
  split at h
  · rename_i h1; rcases h1 with h1 | h1 <;> rw [h1] <;> decide
  · split at h
    · rename_i h1; rcases h1 with h1 | h1 | h1 | h1 <;> rw [h1] <;> decide
    · exact absurd rfl h
theorem dots_esc (p : Bs) (h : dots p = 0) : dots (esc 4 p) = 0 := by
  cases Nat.decEq (dots (esc 4 p)) 0 with
  | isTrue h => exact h
  | isFalse h2 =>
    have := unesc_of_dots _ h2
    rw [unesc_esc4 p.length p (Nat.le_refl _)] at this
    exact absurd h (dots_of_unesc p this)

theorem drive_esc (p : Bs) (h : isDrive (esc 4 p) = true) : isDrive p = true := by
  match p with
  | [] => exact h
  | [a] =>
    cases ha : holdsB 4 a.toNat with
    | true => rw [esc_cons_in 4 a _ ha] at h; cases h
    | false => rw [esc_cons_out 4 a _ ha] at h; exact h
  | [a, b] =>
    cases ha : holdsB 4 a.toNat with
    | true => rw [esc_cons_in 4 a _ ha] at h; cases h
    | false =>
      rw [esc_cons_out 4 a _ ha] at h
      cases hb : holdsB 4 b.toNat with
      | true => rw [esc_cons_in 4 b _ hb] at h; cases h
      | false => rw [esc_cons_out 4 b _ hb] at h; exact h
  | a :: b :: c :: r =>
    have hl := esc_len 4 (a :: b :: c :: r)
    match hx : esc 4 (a :: b :: c :: r), h with
    | [x, y], _ => rw [hx] at hl; simp at hl; omega

-- lists of good segments
def GoodSegs (s : Bs) (l : List Bs) : Prop := (∀ p ∈ l, goodSeg s p) ∧ (s = sFile → isDrive (l.headD []) = true → toldDrive (l.headD []) = true)
theorem goodSegs_nil (s : Bs) : GoodSegs s [] := ⟨fun p hp => (by cases hp), fun _ h => (by cases h)⟩
theorem goodSeg_nil (s : Bs) : goodSeg s [] := ⟨rfl, fun c hc => by cases hc⟩
theorem hexCap_fin : ∀ k : Fin 16, hexCap k.val ≠ 47 ∧ hexCap k.val ≠ 92 := by decide +kernel
theorem letter_fin : ∀ c : Fin 256, isLetter c.val.toUInt8 = true → holdsB 4 c.val = false ∧ c.val ≠ 47 ∧ c.val ≠ 92 ∧ c.val ≠ 37 ∧ c.val ≠ 46 := by decide +kernel
theorem letter_out (c : UInt8) (h : isLetter c = true) : holdsB 4 c.toNat = false ∧ c ≠ 47 ∧ c ≠ 92 ∧ c ≠ 37 ∧ c ≠ 46 := by
  have := letter_fin ⟨c.toNat, c.toNat_lt⟩ (by simpa using h)
  exact ⟨this.1, ne_toNat c 47 this.2.1 (by omega), ne_toNat c 92 this.2.2.1 (by omega), ne_toNat c 37 this.2.2.2.1 (by omega), ne_toNat c 46 this.2.2.2.2 (by omega)⟩
theorem drive_good (s : Bs) (a : UInt8) (h : isLetter a = true) : goodSeg s [a, 58] := by
  have ha := letter_out a h
  refine ⟨?_, fun c hc => ?_⟩
  · unfold dots
    rw [low_ne a _ ha.2.2.2.1, low_ne 58 _ (by decide)]
    have : a ≠ 46 := ha.2.2.2.2
    have h37 : a ≠ 37 := ha.2.2.2.1
    simp [lowDots, this, h37]
  · simp only [List.mem_cons, List.not_mem_nil, or_false] at hc
    rcases hc with rfl | rfl
    · exact ⟨ha.1, ha.2.1, fun _ => ha.2.2.1⟩
    · exact ⟨by decide +kernel, by decide, fun _ => by decide⟩
theorem tellSeg_good (s p : Bs) (first : Bool) (hd : dots p = 0) (hb : ∀ c ∈ p, c ≠ 47 ∧ (special s = true → c ≠ 92)) : goodSeg s (tellSeg s p first) ∧ (first = true → s = sFile → isDrive (tellSeg s p first) = true → toldDrive (tellSeg s p first) = true) := by
  unfold tellSeg
  cases hx : (first && decide (s = sFile) && isDrive p) with
  | true =>
    rw [if_pos rfl]
    simp only [Bool.and_eq_true, decide_eq_true_eq] at hx
    match p, hx.2 with
    | [a, b], h2 =>
      simp [isDrive] at h2
      refine ⟨drive_good s a h2.1, fun _ _ _ => ?_⟩
      simp [toldDrive, isDrive, h2.1]
  | false =>
    rw [if_neg (by simp)]
    refine ⟨⟨dots_esc p hd, fun c hc => ?_⟩, fun h1 h2 h3 => ?_⟩
    · refine ⟨esc_out 4 (by omega) p c hc, ?_⟩
      rcases esc_mem _ p c hc with ⟨h, _⟩ | rfl | ⟨k, rfl⟩
      · exact hb c h
      · exact ⟨by decide, fun _ => by decide⟩
      · exact ⟨(hexCap_fin k).1, fun _ => (hexCap_fin k).2⟩
    · rw [h1, h2] at hx
      have := drive_esc p h3
      rw [this] at hx
      simp at hx
theorem goodSegs_snoc (s : Bs) (l : List Bs) (p : Bs) (h : GoodSegs s l) (hp : goodSeg s p) (hd : l = [] → s = sFile → isDrive p = true → toldDrive p = true) : GoodSegs s (l ++ [p]) := by
  refine ⟨fun q hq => ?_, ?_⟩
  · rcases List.mem_append.1 hq with hq | hq
    · exact h.1 q hq
    · rw [List.mem_singleton] at hq; subst hq; exact hp
  · cases l with
    | nil => exact hd rfl
    | cons x l => exact h.2
theorem goodSegs_dropLast (s : Bs) (l : List Bs) (h : GoodSegs s l) : GoodSegs s l.dropLast := by
  refine ⟨fun p hp => h.1 p (List.dropLast_subset l hp), ?_⟩
  match l, h with
  | [], _ => exact fun _ h => by cases h
  | [x], _ => exact fun _ h => by cases h
  | x :: y :: l, h => exact h.2
theorem withoutLast_good (s : Bs) (l : List Bs) (h : GoodSegs s l) : GoodSegs s (withoutLast s l) := by
  unfold withoutLast
  split
  · exact h
  · exact goodSegs_dropLast s l h
theorem segLoop_keep (s : Bs) : ∀ (ps segs : List Bs), GoodSegs s segs → (∀ p ∈ ps, ∀ c ∈ p, c ≠ 47 ∧ (special s = true → c ≠ 92)) → GoodSegs s (segLoop s segs ps) ∧ (ps ≠ [] → segLoop s segs ps ≠ [])
  | [], segs, h, _ => ⟨h, fun h => absurd rfl h⟩
  | p :: ps, segs, h, hb => by
    have hrec := fun segs h => segLoop_keep s ps segs h (fun q hq => hb q (by simp [hq]))
    by_cases hd : dots p = 0
    · rw [segLoop, if_pos hd]
      have ht := tellSeg_good s p segs.isEmpty hd (hb p (by simp))
      have h2 := hrec _ (goodSegs_snoc s segs _ h ht.1 (fun he => by subst he; exact ht.2 rfl))
      refine ⟨h2.1, fun _ => ?_⟩
      cases ps with
      | nil => simp [segLoop]
      | cons q ps => exact h2.2 (by simp)
    · rw [segLoop, if_neg hd]
      have hw : GoodSegs s (if dots p = 2 then withoutLast s segs else segs) := by
        split
        · exact withoutLast_good s segs h
        · exact h
      cases ps with
      | nil =>
        have h2 := hrec _ (goodSegs_snoc s _ [] hw (goodSeg_nil s) (fun _ _ h => by cases h))
        exact ⟨h2.1, fun _ => by simp [segLoop]⟩
      | cons q ps =>
        have h2 := hrec _ hw
        have e : (if List.isEmpty (q :: ps) = true then [([] : Bs)] else []) = [] := rfl
        rw [e, List.append_nil]
        exact ⟨h2.1, fun _ => h2.2 (by simp)⟩
theorem splitOn_bytes (c : UInt8) : ∀ (l x : Bs), x ∈ splitOn c l → ∀ b ∈ x, b ∈ l ∧ b ≠ c
  | [], x, h => by
    simp [splitOn] at h
    subst h
    exact fun b hb => by cases hb
  | a :: l, x, h => by
    intro b hb
    by_cases ha : a = c
    · rw [splitOn, if_pos ha] at h
      rcases List.mem_cons.1 h with rfl | h
      · cases hb
      · have := splitOn_bytes c l x h b hb
        exact ⟨by simp [this.1], this.2⟩
    · rw [splitOn, if_neg ha] at h
      cases hs : splitOn c l with
      | nil => exact absurd hs (splitOn_ne c l)
      | cons y ys =>
        rw [hs] at h
        rcases List.mem_cons.1 h with rfl | h
        · rcases List.mem_cons.1 hb with rfl | hb
          · exact ⟨by simp, ha⟩
          · have := splitOn_bytes c l y (by rw [hs]; simp) b hb
            exact ⟨by simp [this.1], this.2⟩
        · have := splitOn_bytes c l x (by rw [hs]; simp [h]) b hb
          exact ⟨by simp [this.1], this.2⟩
theorem trimSlash_mem (t : Bs) (c : UInt8) (h : c ∈ trimSlash t) : c ∈ t := by
  unfold trimSlash at h
  split at h
  · simp [h]
  · exact h
/-- The path of a text in which there is no backslash, if the scheme is special. -/
theorem segs_keep (s : Bs) (begun : List Bs) (t : Bs) (h : GoodSegs s begun) (ht : special s = true → ∀ c ∈ t, c ≠ 92) : GoodSegs s (readSegs s begun t) ∧ (special s = true ∨ t ≠ [] → readSegs s begun t ≠ []) := by
  unfold readSegs
  split
  · rename_i hx
    refine ⟨h, fun h2 => ?_⟩
    rcases h2 with h2 | h2
    · rw [hx.2] at h2; cases h2
    · exact absurd hx.1 h2
  · have := segLoop_keep s (splitOn 47 (trimSlash t)) begun h (fun p hp c hc => by
      have hb := splitOn_bytes 47 _ p hp c hc
      exact ⟨hb.2, fun hs => ht hs c (trimSlash_mem t c hb.1)⟩)
    exact ⟨this.1, fun _ => this.2 (splitOn_ne 47 _)⟩
end Go.Moor
/-
  Plain mathematics: whatever is read, beside a good base or none, is good.
-/
namespace Go.Moor
open Go

theorem cutB_inv (c : UInt8) : ∀ (t : Bs), match cutB c t with | some (a, b) => t = a ++ c :: b ∧ ∀ x ∈ a, x ≠ c | none => ∀ x ∈ t, x ≠ c
  | [] => fun x hx => by cases hx
  | d :: t => by
    have ih := cutB_inv c t
    by_cases hd : d = c
    · rw [cutB, if_pos hd]
      subst hd
      exact ⟨rfl, fun x hx => by cases hx⟩
    · rw [cutB, if_neg hd]
      cases hc : cutB c t with
      | none =>
        rw [hc] at ih
        intro x hx
        rcases List.mem_cons.1 hx with rfl | hx
        · exact hd
        · exact ih x hx
      | some p =>
        obtain ⟨a, b⟩ := p
        rw [hc] at ih
        refine ⟨by rw [ih.1]; rfl, fun x hx => ?_⟩
        rcases List.mem_cons.1 hx with rfl | hx
        · exact hd
        · exact ih.2 x hx
theorem cutOpt_bytes (c : UInt8) (t : Bs) : (∀ x ∈ (cutOpt c t).1, x ∈ t ∧ x ≠ c) ∧ ∀ q, (cutOpt c t).2 = some q → ∀ x ∈ q, x ∈ t := by
  have h := cutB_inv c t
  unfold cutOpt
  cases hc : cutB c t with
  | none => rw [hc] at h; exact ⟨fun x hx => ⟨hx, h x hx⟩, fun q hq => by cases hq⟩
  | some p =>
    obtain ⟨a, b⟩ := p
    rw [hc] at h
    refine ⟨fun x hx => ⟨by rw [h.1]; exact List.mem_append_left _ hx, h.2 x hx⟩, fun q hq x hx => ?_⟩
    simp only [Option.some.injEq] at hq
    subst hq
    rw [h.1]
    simp [hx]
theorem lower_fin : ∀ c : Fin 256, (schemeByte c.val.toUInt8 = true → schemeByte (Lib.lowerB c.val.toUInt8) = true) ∧ (isLetter c.val.toUInt8 = true → isLetter (Lib.lowerB c.val.toUInt8) = true) ∧ Lib.lowerB (Lib.lowerB c.val.toUInt8) = Lib.lowerB c.val.toUInt8 := by decide +kernel
theorem lower_byte (c : UInt8) : (schemeByte c = true → schemeByte (Lib.lowerB c) = true) ∧ (isLetter c = true → isLetter (Lib.lowerB c) = true) ∧ Lib.lowerB (Lib.lowerB c) = Lib.lowerB c := by
  have := lower_fin ⟨c.toNat, c.toNat_lt⟩
  simpa using this
theorem lower_lower (l : Bs) : Lib.toLowerA (Lib.toLowerA l) = Lib.toLowerA l := by
  unfold Lib.toLowerA
  rw [List.map_map]
  exact List.map_congr_left fun c _ => (lower_byte c).2.2
theorem scheme_lower (l : Bs) (h : isSchemeB l = true) : isSchemeB (Lib.toLowerA l) = true := by
  unfold isSchemeB at *
  rw [Bool.and_eq_true] at *
  refine ⟨?_, ?_⟩
  · cases l with
    | nil => exact h.1
    | cons c l => exact (lower_byte c).2.1 h.1
  · rw [List.all_eq_true] at *
    intro x hx
    obtain ⟨c, hc, rfl⟩ := List.mem_map.1 hx
    exact (lower_byte c).1 (h.2 c hc)
theorem cutScheme_good (t : Bs) : (cutScheme t).1 ≠ [] → isSchemeB (cutScheme t).1 = true ∧ Lib.toLowerA (cutScheme t).1 = (cutScheme t).1 := by
  unfold cutScheme
  split
  · split
    · rename_i hs; exact fun _ => ⟨scheme_lower _ hs, lower_lower _⟩
    · exact fun h => absurd rfl h
  · exact fun h => absurd rfl h
theorem cutMarks_good (t : Bs) : ((cutMarks t).scheme ≠ [] → isSchemeB (cutMarks t).scheme = true ∧ Lib.toLowerA (cutMarks t).scheme = (cutMarks t).scheme) ∧ ∀ c ∈ (cutMarks t).middle, c ≠ 35 ∧ c ≠ 63 := by
  refine ⟨cutScheme_good t, fun c hc => ?_⟩
  have h1 := (cutOpt_bytes 63 (cutOpt 35 (cutScheme t).2).1).1 c hc
  exact ⟨((cutOpt_bytes 35 (cutScheme t).2).1 c h1.1).2, h1.2⟩
theorem even_bytes (s t : Bs) : (∀ c ∈ evenSlashes s t, c ∈ t ∨ c = 47) ∧ (special s = true → ∀ c ∈ evenSlashes s t, c ≠ 92) := by
  unfold evenSlashes
  split
  · refine ⟨fun c hc => ?_, fun _ c hc => ?_⟩
    · obtain ⟨b, hb, rfl⟩ := List.mem_map.1 hc
      split
      · exact Or.inr rfl
      · exact Or.inl hb
    · obtain ⟨b, hb, rfl⟩ := List.mem_map.1 hc
      split
      · decide
      · assumption
  · rename_i h
    exact ⟨fun c hc => Or.inl hc, fun h2 => absurd h2 h⟩
theorem cutSlash_mem (t : Bs) : (∀ c ∈ (cutSlash t).2, c ∈ t) ∧ ∀ c ∈ (cutSlash t).1, c ∈ t := by
  unfold cutSlash
  exact ⟨fun c hc => (List.dropWhile_sublist _).subset hc, fun c hc => (List.takeWhile_sublist _).subset hc⟩

section
variable (H : Bs → Bool → Option Bs)

theorem readPort_keep (t s : Bs) (p : Int) (h : readPort t s = some p) : p = -1 ∨ (0 ≤ p ∧ p ≤ 65535 ∧ p ≠ (ownPort s).1) := by
  unfold readPort at h
  split at h
  · simp only [Option.some.injEq] at h; exact Or.inl h.symm
  · split at h
    · rename_i h1
      simp only [Bool.and_eq_true, decide_eq_true_eq] at h1
      split at h
      · simp only [Option.some.injEq] at h; exact Or.inl h.symm
      · rename_i h2
        simp only [Option.some.injEq] at h
        subst h
        exact Or.inr ⟨by omega, by omega, h2⟩
    · cases h

/-- What holds of an authority that was read. -/
structure GoodAuth (s : Bs) (a : Auth) : Prop where
  user : ∀ c ∈ a.user, holdsB 5 c.toNat = false
  pass : ∀ c ∈ a.pass, holdsB 5 c.toNat = false
  has : a.has = true
  host : H a.host (special s) = some a.host
  empty : a.host = [] → a.user = [] ∧ a.pass = [] ∧ a.port = -1
  port : a.port = -1 ∨ (0 ≤ a.port ∧ a.port ≤ 65535 ∧ a.port ≠ (ownPort s).1)

theorem readAuth_keep (hl : HostLaws H) (t s : Bs) (a : Auth) (h : readAuth H t s = .ok a) : GoodAuth H s a := by
  unfold readAuth at h
  simp only at h
  cases hh : tellHost H (cutPort (cutLogin t).2).1 t s with
  | none => rw [hh] at h; cases h
  | some x =>
    rw [hh] at h
    simp only at h
    cases hp : readPort (cutPort (cutLogin t).2).2 s with
    | none => rw [hp] at h; cases h
    | some n =>
      rw [hp] at h
      simp only [Except.ok.injEq] at h
      subst h
      have hx : H (cutPort (cutLogin t).2).1 (special s) = some x ∧ ((cutPort (cutLogin t).2).1 = [] → t = []) := by
        unfold tellHost at hh
        split at hh
        · cases hh
        · rename_i h2
          refine ⟨hh, fun he => ?_⟩
          cases Classical.em (t = []) with
          | inl h => exact h
          | inr h => exact absurd ⟨he, h⟩ h2
      refine ⟨fun c hc => esc_out 5 (by omega) _ c hc, fun c hc => esc_out 5 (by omega) _ c hc, rfl, hl.again _ _ _ hx.1, fun he => ?_, readPort_keep _ s n hp⟩
      have he2 : x = [] := he
      subst he2
      have ht := hx.2 (hl.nil _ _ hx.1)
      subst ht
      refine ⟨rfl, rfl, ?_⟩
      have : readPort (cutPort (cutLogin []).2).2 s = some (-1) := rfl
      rw [this] at hp
      simp only [Option.some.injEq] at hp
      exact hp.symm

theorem fileHost_keep (hl : HostLaws H) (t h : Bs) (hh : fileHost H t = some h) : fileHost H h = some h := by
  unfold fileHost at hh
  split at hh
  · simp only [Option.some.injEq] at hh; subst hh; rfl
  · cases hx : H t true with
    | none => rw [hx] at hh; cases hh
    | some y =>
      rw [hx] at hh
      simp only at hh
      split at hh
      · simp only [Option.some.injEq] at hh; subst hh; rfl
      · rename_i h2
        simp only [Option.some.injEq] at hh
        subst hh
        unfold fileHost
        rw [if_neg (hl.ne _ _ hx), hl.again _ _ _ hx]
        simp only [h2, if_false]

/-- Good, out of an authority that was read. -/
theorem good_auth (s : Bs) (hs : isSchemeB s = true) (hlow : Lib.toLowerA s = s) (hf : s ≠ sFile) (a : Auth) (ha : GoodAuth H s a) (l : List Bs) (hg : GoodSegs s l) (hn : special s = true → l ≠ []) (q f : Option Bs)
    (hq : ∀ x, q = some x → ∀ c ∈ x, holdsB (querySet s) c.toNat = false) (hfr : ∀ x, f = some x → ∀ c ∈ x, holdsB 1 c.toNat = false) : Good H ⟨s, a, ⟨false, [], l⟩, q, f⟩ :=
  ⟨hs, hlow, ha.user, ha.pass, fun h => (by rw [ha.has] at h; cases h), fun _ _ => ha.host, fun h => absurd h hf, ha.empty, fun h => absurd h hf, ha.port, fun h => ⟨ha.has, rfl, hn h⟩, fun h => (by cases h), fun _ => ⟨rfl, fun h => (by rw [ha.has] at h; cases h)⟩, hg.1, fun h => absurd h hf, hq, hfr⟩
/-- Good, of a file. -/
theorem good_file (h : Bs) (hh : fileHost H h = some h) (l : List Bs) (hg : GoodSegs sFile l) (hn : l ≠ []) (q f : Option Bs)
    (hq : ∀ x, q = some x → ∀ c ∈ x, holdsB (querySet sFile) c.toNat = false) (hfr : ∀ x, f = some x → ∀ c ∈ x, holdsB 1 c.toNat = false) : Good H ⟨sFile, fileAuth h, ⟨false, [], l⟩, q, f⟩ :=
  ⟨file_scheme.1, file_scheme.2.1, fun c hc => (by cases hc), fun c hc => (by cases hc), fun h => (by cases h), fun _ h => absurd rfl h, fun _ => hh, fun _ => ⟨rfl, rfl, rfl⟩, fun _ => ⟨rfl, rfl, rfl⟩, Or.inl rfl, fun _ => ⟨rfl, rfl, hn⟩, fun h => (by cases h), fun _ => ⟨rfl, fun h => (by cases h)⟩, hg.1, hg.2, hq, hfr⟩
/-- Good, with another path beside the same authority. -/
theorem good_way (b : Adr) (hb : Good H b) (l : List Bs) (hg : GoodSegs b.scheme l) (hn : l ≠ []) (q f : Option Bs) (hq : ∀ x, q = some x → ∀ c ∈ x, holdsB (querySet b.scheme) c.toNat = false) (hfr : ∀ x, f = some x → ∀ c ∈ x, holdsB 1 c.toNat = false) : Good H ⟨b.scheme, b.auth, ⟨false, [], l⟩, q, f⟩ :=
  ⟨hb.scheme, hb.low, hb.user, hb.pass, hb.bare, hb.host, hb.hostF, hb.empty, hb.file, hb.port, fun h => ⟨(hb.spec h).1, rfl, hn⟩, fun h => (by cases h), fun _ => ⟨rfl, fun _ => hn⟩, hg.1, hg.2, hq, hfr⟩
theorem good_rest (b : Adr) (hb : Good H b) (q f : Option Bs) (hq : ∀ x, q = some x → ∀ c ∈ x, holdsB (querySet b.scheme) c.toNat = false) (hfr : ∀ x, f = some x → ∀ c ∈ x, holdsB 1 c.toNat = false) : Good H ⟨b.scheme, b.auth, b.way, q, f⟩ :=
  ⟨hb.scheme, hb.low, hb.user, hb.pass, hb.bare, hb.host, hb.hostF, hb.empty, hb.file, hb.port, hb.spec, hb.opaq, hb.text, hb.seg, hb.drive, hq, hfr⟩
theorem Good.segs (b : Adr) (hb : Good H b) : GoodSegs b.scheme b.way.segs := ⟨hb.seg, hb.drive⟩

theorem fromAuth_keep (hl : HostLaws H) (s : Bs) (hs : isSchemeB s = true) (hlow : Lib.toLowerA s = s) (hf : s ≠ sFile) (t : Bs) (ht : special s = true → ∀ c ∈ t, c ≠ 92) (a : Auth) (w : Way) (h : fromAuth H s t = .ok (a, w)) (q f : Option Bs)
    (hq : ∀ x, q = some x → ∀ c ∈ x, holdsB (querySet s) c.toNat = false) (hfr : ∀ x, f = some x → ∀ c ∈ x, holdsB 1 c.toNat = false) : Good H ⟨s, a, w, q, f⟩ := by
  unfold fromAuth at h
  simp only at h
  cases hr : readAuth H (cutSlash t).1 s with
  | error e => rw [hr] at h; cases h
  | ok x =>
    rw [hr] at h
    simp only [Except.ok.injEq, Prod.mk.injEq] at h
    obtain ⟨rfl, rfl⟩ := h
    have hk := segs_keep s [] (cutSlash t).2 (goodSegs_nil s) (fun hs c hc => ht hs c ((cutSlash_mem t).1 c hc))
    exact good_auth H s hs hlow hf x (readAuth_keep H hl _ s x hr) _ hk.1 (fun hs => hk.2 (Or.inl hs)) q f hq hfr

theorem goOn_keep (m : Bs) (b : Adr) (hb : Good H b) (hm : special b.scheme = true → ∀ c ∈ m, c ≠ 92) (q f : Option Bs)
    (hq : ∀ x, q = some x → ∀ c ∈ x, holdsB (querySet b.scheme) c.toNat = false) (hfr : ∀ x, f = some x → ∀ c ∈ x, holdsB 1 c.toNat = false) : Good H ⟨b.scheme, b.auth, (goOn b.scheme m q b).1, (goOn b.scheme m q b).2, f⟩ := by
  unfold goOn
  split
  · rename_i hne
    have hk := segs_keep b.scheme (withoutLast b.scheme b.way.segs) m (withoutLast_good _ _ (Good.segs H b hb)) hm
    exact good_way H b hb _ hk.1 (hk.2 (Or.inr hne)) q f hq hfr
  · refine good_rest H b hb _ f ?_ hfr
    split
    · exact hq
    · exact hb.query
theorem driveOf_good (l : List Bs) (h : GoodSegs sFile l) : GoodSegs sFile (driveOf l) := by
  unfold driveOf
  split
  · refine ⟨fun p hp => h.1 p (List.mem_of_mem_take hp), fun hs => ?_⟩
    cases l with
    | nil => exact fun h => by cases h
    | cons x l => exact h.2 hs
  · exact goodSegs_nil _
theorem file_auth (b : Adr) (hb : Good H b) (hs : b.scheme = sFile) : fileAuth b.auth.host = b.auth := by
  obtain ⟨h1, h2, h3⟩ := hb.file hs
  have h4 := (hb.spec (by rw [hs]; decide)).1
  cases ha : b.auth with
  | mk u p h o n => rw [ha] at h1 h2 h3 h4; simp only at h1 h2 h3 h4; subst h1; subst h2; subst h3; subst h4; rfl

theorem readFile_keep (hl : HostLaws H) (m : Bs) (hm : ∀ c ∈ m, c ≠ 92) (base : Option Adr) (hb : ∀ b, base = some b → Good H b ∧ b.scheme = sFile) (q f : Option Bs)
    (hq : ∀ x, q = some x → ∀ c ∈ x, holdsB (querySet sFile) c.toNat = false) (hfr : ∀ x, f = some x → ∀ c ∈ x, holdsB 1 c.toNat = false) (a : Auth) (w : Way) (q2 : Option Bs) (h : readFile H m q base = .ok (a, w, q2)) : Good H ⟨sFile, a, w, q2, f⟩ := by
  have hsp : special sFile = true := by decide
  unfold readFile at h
  simp only at h
  split at h
  · split at h
    · simp only [Except.ok.injEq, Prod.mk.injEq] at h
      obtain ⟨rfl, rfl, rfl⟩ := h
      have hk := segs_keep sFile [] (m.drop 2) (goodSegs_nil _) (fun _ c hc => hm c (List.mem_of_mem_drop hc))
      exact good_file H [] rfl _ hk.1 (hk.2 (Or.inl hsp)) q f hq hfr
    · cases hx : fileHost H (cutSlash (m.drop 2)).1 with
      | none => rw [hx] at h; cases h
      | some x =>
        rw [hx] at h
        simp only [Except.ok.injEq, Prod.mk.injEq] at h
        obtain ⟨rfl, rfl, rfl⟩ := h
        have hk := segs_keep sFile [] (cutSlash (m.drop 2)).2 (goodSegs_nil _) (fun _ c hc => hm c (List.mem_of_mem_drop ((cutSlash_mem _).1 c hc)))
        exact good_file H x (fileHost_keep H hl _ x hx) _ hk.1 (hk.2 (Or.inl hsp)) q f hq hfr
  · cases base with
    | none =>
      simp only [Except.ok.injEq, Prod.mk.injEq] at h
      obtain ⟨rfl, rfl, rfl⟩ := h
      have hk := segs_keep sFile [] m (goodSegs_nil _) (fun _ => hm)
      exact good_file H [] rfl _ hk.1 (hk.2 (Or.inl hsp)) q f hq hfr
    | some b =>
      obtain ⟨hg, hbs⟩ := hb b rfl
      have hgs := Good.segs H b hg
      rw [hbs] at hgs
      simp only at h
      split at h
      · simp only [Except.ok.injEq, Prod.mk.injEq] at h
        obtain ⟨rfl, rfl, rfl⟩ := h
        have hk := segs_keep sFile [] m (goodSegs_nil _) (fun _ => hm)
        exact good_file H _ (hg.hostF hbs) _ hk.1 (hk.2 (Or.inl hsp)) q f hq hfr
      · split at h
        · simp only [Except.ok.injEq, Prod.mk.injEq] at h
          obtain ⟨rfl, rfl, rfl⟩ := h
          have hk := segs_keep sFile (driveOf b.way.segs) m (driveOf_good _ hgs) (fun _ => hm)
          exact good_file H _ (hg.hostF hbs) _ hk.1 (hk.2 (Or.inl hsp)) q f hq hfr
        · simp only [Except.ok.injEq, Prod.mk.injEq] at h
          obtain ⟨rfl, rfl, rfl⟩ := h
          have hk := goOn_keep H m b hg (fun _ => hm) q f (by rw [hbs]; exact hq) hfr
          rw [file_auth H b hg hbs]
          rw [hbs] at hk
          exact hk

theorem head_prefix (m : Bs) (h : ¬ m.head? = some 47) (hm : m ≠ []) : ∃ c r, m = c :: r ∧ c ≠ 47 := by
  cases m with
  | nil => exact absurd rfl hm
  | cons c r => exact ⟨c, r, rfl, fun e => h (by rw [e]; rfl)⟩

theorem readRelative_keep (hl : HostLaws H) (m : Bs) (b : Adr) (hb : Good H b) (hf : b.scheme ≠ sFile) (hm : special b.scheme = true → ∀ c ∈ m, c ≠ 92) (q f : Option Bs)
    (hq : ∀ x, q = some x → ∀ c ∈ x, holdsB (querySet b.scheme) c.toNat = false) (hfr : ∀ x, f = some x → ∀ c ∈ x, holdsB 1 c.toNat = false) (a : Auth) (w : Way) (q2 : Option Bs) (h : readRelative H b.scheme m q b = .ok (a, w, q2)) : Good H ⟨b.scheme, a, w, q2, f⟩ := by
  unfold readRelative at h
  simp only at h
  split at h
  · cases hx : fromAuth H b.scheme (if special b.scheme = true then trimSlashes (m.drop 2) else m.drop 2) with
    | error e => rw [hx] at h; cases h
    | ok p =>
      obtain ⟨x, y⟩ := p
      rw [hx] at h
      simp only [Except.ok.injEq, Prod.mk.injEq] at h
      obtain ⟨rfl, rfl, rfl⟩ := h
      refine fromAuth_keep H hl b.scheme hb.scheme hb.low hf _ (fun hs c hc => hm hs c ?_) x y hx q f hq hfr
      rw [if_pos hs] at hc
      exact List.mem_of_mem_drop ((List.dropWhile_sublist _).subset hc)
  · split at h
    · rename_i h1
      simp only [Except.ok.injEq, Prod.mk.injEq] at h
      obtain ⟨rfl, rfl, rfl⟩ := h
      have hk := segs_keep b.scheme [] m (goodSegs_nil _) hm
      exact good_way H b hb _ hk.1 (hk.2 (Or.inr (fun e => by rw [e] at h1; cases h1))) q f hq hfr
    · simp only [Except.ok.injEq, Prod.mk.injEq] at h
      obtain ⟨rfl, rfl, rfl⟩ := h
      exact goOn_keep H m b hb hm q f hq hfr

theorem escOpaque_bytes (m : Bs) (hm : ∀ c ∈ m, c ≠ 35 ∧ c ≠ 63) : ∀ c ∈ escOpaque m, 33 ≤ c.toNat ∧ c.toNat ≤ 126 ∧ c ≠ 35 ∧ c ≠ 63 := by
  have f0 : ∀ c : Fin 256, holdsB 0 c.val = false → 32 ≤ c.val ∧ c.val ≤ 126 := by decide +kernel
  have fh : ∀ k : Fin 16, 33 ≤ (hexCap k.val).toNat ∧ (hexCap k.val).toNat ≤ 126 ∧ hexCap k.val ≠ 35 ∧ hexCap k.val ≠ 63 := by decide +kernel
  intro c hc
  unfold escOpaque at hc
  obtain ⟨b, hb, hc⟩ := List.mem_flatMap.1 hc
  split at hc
  · simp only [List.mem_cons, List.not_mem_nil, or_false] at hc
    rcases hc with rfl | rfl | rfl <;> decide
  · rename_i h32
    rw [List.mem_singleton] at hc
    subst hc
    rcases esc_mem 0 m c hb with ⟨h1, h2⟩ | rfl | ⟨k, rfl⟩
    · have := f0 ⟨c.toNat, c.toNat_lt⟩ h2
      have hne : c.toNat ≠ 32 := fun e => h32 (of_toNat c 32 e)
      have h32 : 32 ≤ c.toNat := this.1
      exact ⟨by omega, this.2, hm c h1⟩
    · decide
    · exact fh k
theorem escOpaque_head (m : Bs) (h : ¬ m.head? = some 47) : (escOpaque m).head? ≠ some 47 := by
  cases m with
  | nil => intro h; cases h
  | cons c m =>
    have hc : c ≠ 47 := fun e => h (by rw [e]; rfl)
    unfold escOpaque
    cases hb : holdsB 0 c.toNat with
    | true => rw [esc_cons_in 0 c m hb]; simp [List.flatMap_cons]
    | false =>
      rw [esc_cons_out 0 c m hb, List.flatMap_cons]
      split
      · simp
      · simpa using hc

theorem readOther_keep (hl : HostLaws H) (s m : Bs) (hs : isSchemeB s = true) (hlow : Lib.toLowerA s = s) (hsp : special s = false) (hm : ∀ c ∈ m, c ≠ 35 ∧ c ≠ 63) (q f : Option Bs)
    (hq : ∀ x, q = some x → ∀ c ∈ x, holdsB (querySet s) c.toNat = false) (hfr : ∀ x, f = some x → ∀ c ∈ x, holdsB 1 c.toNat = false) (a : Auth) (w : Way) (h : readOther H s m = .ok (a, w)) : Good H ⟨s, a, w, q, f⟩ := by
  have hf : s ≠ sFile := by rintro rfl; exact absurd hsp (by decide)
  unfold readOther at h
  split at h
  · exact fromAuth_keep H hl s hs hlow hf _ (fun h2 => by rw [hsp] at h2; cases h2) a w h q f hq hfr
  · split at h
    · rename_i h1
      simp only [Except.ok.injEq, Prod.mk.injEq] at h
      obtain ⟨rfl, rfl⟩ := h
      have hk := segs_keep s [] m (goodSegs_nil _) (fun h2 => by rw [hsp] at h2; cases h2)
      have hn := hk.2 (Or.inr (fun e => by rw [e] at h1; cases h1))
      exact ⟨hs, hlow, fun c hc => (by cases hc), fun c hc => (by cases hc), fun _ => rfl, fun h => (by cases h), fun h => absurd h hf, fun _ => ⟨rfl, rfl, rfl⟩, fun h => absurd h hf, Or.inl rfl, fun h => (by rw [hsp] at h; cases h), fun h => (by cases h), fun _ => ⟨rfl, fun _ => hn⟩, hk.1.1, fun h => absurd h hf, hq, hfr⟩
    · rename_i h1
      simp only [Except.ok.injEq, Prod.mk.injEq] at h
      obtain ⟨rfl, rfl⟩ := h
      exact ⟨hs, hlow, fun c hc => (by cases hc), fun c hc => (by cases hc), fun _ => rfl, fun h => (by cases h), fun h => absurd h hf, fun _ => ⟨rfl, rfl, rfl⟩, fun h => absurd h hf, Or.inl rfl, fun h => (by rw [hsp] at h; cases h), fun _ => ⟨rfl, rfl, escOpaque_bytes m hm, escOpaque_head m h1⟩, fun h => (by cases h), fun p hp => (by cases hp), fun h => absurd h hf, hq, hfr⟩

theorem readMarked_keep (hl : HostLaws H) (s m : Bs) (hs : isSchemeB s = true) (hlow : Lib.toLowerA s = s) (hm : ∀ c ∈ m, c ≠ 35 ∧ c ≠ 63) (q f : Option Bs) (base : Option Adr) (hb : ∀ b, base = some b → Good H b ∧ b.scheme = s) (a : Adr) (h : readMarked H s m q f base = .ok a) : Good H a := by
  unfold readMarked at h
  have hq : ∀ x, q.map (esc (querySet s)) = some x → ∀ c ∈ x, holdsB (querySet s) c.toNat = false := by
    intro x hx
    cases q with
    | none => cases hx
    | some y =>
      simp only [Option.map_some, Option.some.injEq] at hx
      subst hx
      exact fun c hc => escQ_out s y c hc
  have hfr : ∀ x, f.map (esc 1) = some x → ∀ c ∈ x, holdsB 1 c.toNat = false := by
    intro x hx
    cases f with
    | none => cases hx
    | some y =>
      simp only [Option.map_some, Option.some.injEq] at hx
      subst hx
      exact fun c hc => esc_out 1 (by omega) y c hc
  have hm2 : ∀ c ∈ evenSlashes s m, c ≠ 35 ∧ c ≠ 63 := by
    intro c hc
    rcases (even_bytes s m).1 c hc with h | rfl
    · exact hm c h
    · decide
  have hm3 := (even_bytes s m).2
  cases hr : readMiddle H s (evenSlashes s m) (q.map (esc (querySet s))) base with
  | error e => rw [hr] at h; cases h
  | ok p =>
    obtain ⟨x, y, q2⟩ := p
    rw [hr] at h
    simp only [Except.ok.injEq] at h
    subst h
    unfold readMiddle at hr
    split at hr
    · rename_i hsf
      subst hsf
      exact readFile_keep H hl _ (hm3 (by decide)) base (fun b hx => ⟨(hb b hx).1, (hb b hx).2⟩) _ _ hq hfr x y q2 hr
    · rename_i hsf
      cases base with
      | some b =>
        obtain ⟨hg, rfl⟩ := hb b rfl
        exact readRelative_keep H hl _ b hg hsf hm3 _ _ hq hfr x y q2 hr
      | none =>
        simp only at hr
        split at hr
        · cases hr
        · rename_i a2 w2 hx
          simp only [Except.ok.injEq, Prod.mk.injEq] at hr
          obtain ⟨rfl, rfl, rfl⟩ := hr
          split at hx
          · rename_i hsp
            exact fromAuth_keep H hl s hs hlow hsf _ (fun hs2 c hc => hm3 hs2 c ((List.dropWhile_sublist _).subset hc)) _ _ hx _ _ hq hfr
          · rename_i hsp
            exact readOther_keep H hl s _ hs hlow (by simpa using hsp) hm2 _ _ hq hfr _ _ hx

theorem good_read (hl : HostLaws H) (t : Bs) (base : Option Adr) (hb : ∀ b, base = some b → Good H b) (a : Adr) (h : readAddr H t base = .ok a) : Good H a := by
  unfold readAddr readCuts at h
  have hc := cutMarks_good (stripB t)
  generalize cutMarks (stripB t) = c at *
  split at h
  · rename_i hs
    refine readMarked_keep H hl c.scheme c.middle (hc.1 hs).1 (hc.1 hs).2 hc.2 c.query c.frag _ (fun b hx => ?_) a h
    cases base with
    | none => cases hx
    | some d =>
      have hx : (if d.scheme = c.scheme ∧ special c.scheme = true then some d else none) = some b := hx
      split at hx
      · rename_i h2
        simp only [Option.some.injEq] at hx
        subst hx
        exact ⟨hb d rfl, h2.1⟩
      · cases hx
  · cases base with
    | none => cases h
    | some b =>
      have hg := hb b rfl
      simp only at h
      split at h
      · rename_i ho
        split at h
        · simp only [Except.ok.injEq] at h
          subst h
          refine good_rest H b hg _ _ hg.query ?_
          intro x hx
          cases hf : c.frag with
          | none => rw [hf] at hx; cases hx
          | some y =>
            rw [hf] at hx
            simp only [Option.map_some, Option.some.injEq] at hx
            subst hx
            exact fun d hd => esc_out 1 (by omega) y d hd
        · cases h
      · rename_i ho
        exact readMarked_keep H hl b.scheme c.middle hg.scheme hg.low hc.2 c.query c.frag (some b) (fun d hd => by simp only [Option.some.injEq] at hd; subst hd; exact ⟨hg, rfl⟩) a h

theorem good_beside (hl : HostLaws H) (t base : Bs) (a : Adr) (h : readBeside H t base = .ok a) : Good H a := by
  unfold readBeside at h
  split at h
  · exact good_read H hl t none (fun b hb => by cases hb) a h
  · cases hb : readAddr H base none with
    | error e => rw [hb] at h; cases h
    | ok b =>
      rw [hb] at h
      exact good_read H hl t (some b) (fun d hd => by simp only [Option.some.injEq] at hd; subst hd; exact good_read H hl base none (fun b hb => by cases hb) b hb) a h
end
end Go.Moor
