/-
  Plain mathematics for numbers that are written by a base: what is written is read as the number; the hosts that are made of such numbers are told as four bytes.
-/
import Derived.Test.YtkcnageeamappaaGreatDoorJEnv
namespace Go.Moor
open Go

def hexL (n : Nat) : UInt8 := if n < 10 then (48 + n).toUInt8 else (87 + n).toUInt8

/-- A number as it is written by a base, with so many digits at most and one more. -/
def digsF (b : Nat) : Nat → Nat → List UInt8
  | 0, n => [hexL n]
  | k + 1, n => if n < b then [hexL n] else digsF b k (n / b) ++ [hexL (n % b)]

theorem hexL_val : ∀ d : Fin 16, hexVal (hexL d.val).toNat = d.val := by decide +kernel

theorem digAcc_append (b m : Int) : ∀ (l r : List UInt8) (a : Int), digAcc b m a (l ++ r) = (digAcc b m a l).bind fun x => digAcc b m x r
  | [], r, a => rfl
  | c :: l, r, a => by
    rw [List.cons_append, digAcc, digAcc]
    split
    · split
      · exact digAcc_append b m l r _
      · rfl
    · rfl

theorem digAcc_one (b m a : Int) (d : Nat) (hd : d < 16) (hdb : (d : Int) < b) (hm : a * b + d ≤ m) : digAcc b m a [hexL d] = some (a * b + d) := by
  have h := hexL_val ⟨d, hd⟩
  simp only at h
  unfold digAcc
  rw [h, if_pos hdb, if_pos hm]
  rfl

theorem digs_val (b : Nat) (m : Int) (hb0 : 2 ≤ b) (hb : b ≤ 16) : ∀ (k n : Nat), n < b ^ (k + 1) → (n : Int) ≤ m → digAcc b m 0 (digsF b k n) = some (n : Int)
  | 0, n, hn, hm => by
    have hn' : n < b := by simpa using hn
    have := digAcc_one b m 0 n (by omega) (by omega) (by simpa using hm)
    simpa [digsF] using this
  | k + 1, n, hn, hm => by
    unfold digsF
    split
    · rename_i h
      have := digAcc_one b m 0 n (by omega) (by omega) (by simpa using hm)
      simpa using this
    · rename_i h
      have hq : n / b < b ^ (k + 1) := by
        rw [Nat.div_lt_iff_lt_mul (by omega)]
        rwa [Nat.pow_succ] at hn
      have hqn : n / b ≤ n := Nat.div_le_self _ _
      rw [digAcc_append, digs_val b m hb0 hb k (n / b) hq (by omega)]
      have hr : n % b < b := Nat.mod_lt _ (by omega)
      have e : (n / b : Nat) * b + n % b = n := Nat.div_add_mod' n b
      have e2 : ((n / b : Nat) : Int) * (b : Int) + ((n % b : Nat) : Int) = (n : Int) := by
        rw [← Int.natCast_mul, ← Int.natCast_add, e]
      show digAcc b m ((n / b : Nat) : Int) [hexL (n % b)] = _
      rw [digAcc_one b m _ (n % b) (by omega) (by omega) (by rw [e2]; exact hm), e2]

theorem digs_mem (b : Nat) (hb0 : 2 ≤ b) : ∀ (k n : Nat), n < b ^ (k + 1) → ∀ c ∈ digsF b k n, ∃ d, d < b ∧ c = hexL d
  | 0, n, hn, c, hc => by
    simp [digsF] at hc
    exact ⟨n, by simpa using hn, hc⟩
  | k + 1, n, hn, c, hc => by
    unfold digsF at hc
    split at hc
    · rename_i h
      simp at hc
      exact ⟨n, h, hc⟩
    · have hq : n / b < b ^ (k + 1) := by
        rw [Nat.div_lt_iff_lt_mul (by omega)]
        rwa [Nat.pow_succ] at hn
      rcases List.mem_append.1 hc with h | h
      · exact digs_mem b hb0 k (n / b) hq c h
      · simp at h
        exact ⟨n % b, Nat.mod_lt _ (by omega), h⟩

theorem digs_head (b : Nat) (hb0 : 2 ≤ b) : ∀ (k n : Nat), n < b ^ (k + 1) → ∃ d r, digsF b k n = hexL d :: r ∧ d < b ∧ (d = 0 → n = 0) ∧ (d = 0 → r = [])
  | 0, n, hn => ⟨n, [], rfl, by simpa using hn, fun h => h, fun _ => rfl⟩
  | k + 1, n, hn => by
    unfold digsF
    split
    · rename_i h
      exact ⟨n, [], rfl, h, fun h => h, fun _ => rfl⟩
    · rename_i h
      have hq : n / b < b ^ (k + 1) := by
        rw [Nat.div_lt_iff_lt_mul (by omega)]
        rwa [Nat.pow_succ] at hn
      have hq1 : 1 ≤ n / b := (Nat.le_div_iff_mul_le (by omega)).2 (by omega)
      obtain ⟨d, r, e, hd, h0, _⟩ := digs_head b hb0 k (n / b) hq
      exact ⟨d, r ++ [hexL (n % b)], by rw [e]; rfl, hd, fun h => by have := h0 h; omega, fun h => by have := h0 h; omega⟩

/-- A number of 32 bits as it is written by base 16, 8 or 10. -/
def numTxt (r n : Nat) : List UInt8 :=
  match r with
  | 0 => 48 :: 120 :: digsF 16 31 n
  | 1 => 48 :: digsF 8 31 n
  | _ => digsF 10 31 n

theorem pow_big (b : Nat) (hb : 8 ≤ b) : 4294967296 ≤ b ^ (31 + 1) :=
  Nat.le_trans (by decide : 4294967296 ≤ 8 ^ 32) (Nat.pow_le_pow_left hb 32)

theorem anyBase_oct' (m : Int) (c : UInt8) (l : List UInt8) (h : c ≠ 120) : anyBase m (48 :: c :: l) = digAcc 8 m 0 (c :: l) := by
  unfold anyBase
  split
  · rename_i h'; simp at h'
  · rename_i h'; simp at h'; exact absurd h'.1 h
  · rename_i _ h'; simp at h'; rw [h'.1, h'.2]
  · rename_i h1 h2; exact absurd rfl (h2 c l)
theorem anyBase_dec' (m : Int) (c : UInt8) (l : List UInt8) (h : c ≠ 48 ∨ l = []) : anyBase m (c :: l) = digAcc 10 m 0 (c :: l) := by
  unfold anyBase
  split
  · rename_i h'; simp at h'
  · rename_i h'
    simp at h'
    rcases h with h | h
    · exact absurd h'.1 h
    · rw [h] at h'; simp at h'
  · rename_i _ h'
    simp at h'
    rcases h with h | h
    · exact absurd h'.1 h
    · rw [h] at h'; simp at h'
  · rfl

theorem hexL_ne120 : ∀ d : Fin 16, hexL d.val ≠ 120 := by decide +kernel
theorem hexL_ne48 : ∀ d : Fin 16, d.val ≠ 0 → hexL d.val ≠ 48 := by decide +kernel

theorem anyBase_num (r n : Nat) (m : Int) (hn : n < 4294967296) (hm : (n : Int) ≤ m) : anyBase m (numTxt r n) = some (n : Int) := by
  match r with
  | 0 =>
    show anyBase m (48 :: 120 :: digsF 16 31 n) = _
    have e : anyBase m (48 :: 120 :: digsF 16 31 n) = digAcc 16 m 0 (digsF 16 31 n) := rfl
    rw [e]
    exact digs_val 16 m (by omega) (by omega) 31 n (Nat.lt_of_lt_of_le hn (pow_big 16 (by omega))) hm
  | 1 =>
    show anyBase m (48 :: digsF 8 31 n) = _
    obtain ⟨d, l, e, hd, _, _⟩ := digs_head 8 (by omega) 31 n (Nat.lt_of_lt_of_le hn (pow_big 8 (by omega)))
    have hv := digs_val 8 m (by omega) (by omega) 31 n (Nat.lt_of_lt_of_le hn (pow_big 8 (by omega))) hm
    rw [e] at hv ⊢
    rw [anyBase_oct' m _ _ (hexL_ne120 ⟨d, by omega⟩)]
    exact hv
  | r + 2 =>
    show anyBase m (digsF 10 31 n) = _
    obtain ⟨d, l, e, hd, _, hl⟩ := digs_head 10 (by omega) 31 n (Nat.lt_of_lt_of_le hn (pow_big 10 (by omega)))
    have hv := digs_val 10 m (by omega) (by omega) 31 n (Nat.lt_of_lt_of_le hn (pow_big 10 (by omega))) hm
    rw [e] at hv ⊢
    rw [anyBase_dec' m _ _ (by
      by_cases h0 : d = 0
      · exact Or.inr (hl h0)
      · exact Or.inl (hexL_ne48 ⟨d, by omega⟩ h0))]
    exact hv

/-- Bytes of such texts: digits, a to f, x. -/
def okT (c : UInt8) : Bool := (48 ≤ c && c ≤ 57) || (97 ≤ c && c ≤ 102) || c == 120
theorem hexL_ok : ∀ d : Fin 16, okT (hexL d.val) = true := by decide +kernel
theorem okT_fin : ∀ c : Fin 256, okT c.val.toUInt8 = true → badS c.val.toUInt8 = false ∧ c.val.toUInt8 ≠ 37 ∧ c.val.toUInt8 ≠ 46 ∧ Lib.lowerB c.val.toUInt8 = c.val.toUInt8 ∧ c.val.toUInt8 ≠ 91 := by decide +kernel
theorem okT_facts (c : UInt8) (h : okT c = true) : badS c = false ∧ c ≠ 37 ∧ c ≠ 46 ∧ Lib.lowerB c = c ∧ c ≠ 91 := by
  have := okT_fin ⟨c.toNat, c.toNat_lt⟩
  simp only [Nat.toUInt8_eq, UInt8.ofNat_toNat] at this
  exact this h

theorem digs_ok (b : Nat) (hb0 : 2 ≤ b) (hb : b ≤ 16) (k n : Nat) (hn : n < b ^ (k + 1)) : ∀ c ∈ digsF b k n, okT c = true := by
  intro c hc
  obtain ⟨d, hd, rfl⟩ := digs_mem b hb0 k n hn c hc
  exact hexL_ok ⟨d, by omega⟩

theorem num_ok (r n : Nat) (hn : n < 4294967296) : ∀ c ∈ numTxt r n, okT c = true := by
  intro c hc
  match r, hc with
  | 0, hc =>
    rcases List.mem_cons.1 hc with rfl | hc
    · decide
    · rcases List.mem_cons.1 hc with rfl | hc
      · decide
      · exact digs_ok 16 (by omega) (by omega) 31 n (Nat.lt_of_lt_of_le hn (pow_big 16 (by omega))) c hc
  | 1, hc =>
    rcases List.mem_cons.1 hc with rfl | hc
    · decide
    · exact digs_ok 8 (by omega) (by omega) 31 n (Nat.lt_of_lt_of_le hn (pow_big 8 (by omega))) c hc
  | r + 2, hc => exact digs_ok 10 (by omega) (by omega) 31 n (Nat.lt_of_lt_of_le hn (pow_big 10 (by omega))) c hc

theorem num_ne (r n : Nat) (hn : n < 4294967296) : numTxt r n ≠ [] := by
  match r with
  | 0 => simp [numTxt]
  | 1 => simp [numTxt]
  | r + 2 =>
    obtain ⟨d, l, e, _⟩ := digs_head 10 (by omega) 31 n (Nat.lt_of_lt_of_le hn (pow_big 10 (by omega)))
    show digsF 10 31 n ≠ []
    rw [e]; simp

theorem allB_digs (b : Nat) (hb0 : 2 ≤ b) (hb : b ≤ 16) (B : Int) (hB : (b : Int) ≤ B) (k n : Nat) (hn : n < b ^ (k + 1)) : allB B (digsF b k n) = true := by
  unfold allB
  rw [List.all_eq_true]
  intro c hc
  obtain ⟨d, hd, rfl⟩ := digs_mem b hb0 k n hn c hc
  have := hexL_val ⟨d, by omega⟩
  simp only at this
  rw [this]
  exact decide_eq_true (by omega)

theorem num_label (r n : Nat) (hn : n < 4294967296) : numLabel (numTxt r n) = true := by
  match r with
  | 0 =>
    show numLabel (48 :: 120 :: digsF 16 31 n) = true
    unfold numLabel
    rw [if_pos (by simp [Lib.hasPrefix, List.isPrefixOf])]
    exact allB_digs 16 (by omega) (by omega) 16 (by omega) 31 n (Nat.lt_of_lt_of_le hn (pow_big 16 (by omega)))
  | 1 =>
    show numLabel (48 :: digsF 8 31 n) = true
    obtain ⟨d, l, e, hd, _, _⟩ := digs_head 8 (by omega) 31 n (Nat.lt_of_lt_of_le hn (pow_big 8 (by omega)))
    have ha := allB_digs 8 (by omega) (by omega) 10 (by omega) 31 n (Nat.lt_of_lt_of_le hn (pow_big 8 (by omega)))
    rw [e] at ha ⊢
    have h120 := hexL_ne120 ⟨d, by omega⟩
    unfold numLabel
    rw [if_neg (by simp [Lib.hasPrefix, List.isPrefixOf]; exact fun h => h120 h.symm)]
    show (!(48 :: hexL d :: l).isEmpty && allB 10 (48 :: hexL d :: l)) = true
    have : allB 10 (48 :: hexL d :: l) = allB 10 (hexL d :: l) := rfl
    rw [this, ha]
    rfl
  | r + 2 =>
    show numLabel (digsF 10 31 n) = true
    obtain ⟨d, l, e, hd, _, hl⟩ := digs_head 10 (by omega) 31 n (Nat.lt_of_lt_of_le hn (pow_big 10 (by omega)))
    have ha := allB_digs 10 (by omega) (by omega) 10 (by omega) 31 n (Nat.lt_of_lt_of_le hn (pow_big 10 (by omega)))
    rw [e] at ha ⊢
    unfold numLabel
    rw [if_neg (by
      simp only [Lib.hasPrefix]
      by_cases h0 : d = 0
      · rw [hl h0]; simp [List.isPrefixOf]
      · have := hexL_ne48 ⟨d, by omega⟩ h0
        simp [List.isPrefixOf]
        exact fun h => absurd h.symm this)]
    rw [ha]
    rfl

theorem digs_dec : ∀ (k n : Nat), n < 10 ^ (k + 1) → digsF 10 k n = Lib.decDigits n
  | 0, n, h => by
    have h' : n < 10 := by simpa using h
    rw [Lib.decDigits_one h']
    simp [digsF, hexL, h']
  | k + 1, n, h => by
    unfold digsF
    split
    · rename_i h'
      rw [Lib.decDigits_one h']
      simp [hexL, h']
    · rename_i h'
      have hq : n / 10 < 10 ^ (k + 1) := by
        rw [Nat.div_lt_iff_lt_mul (by omega)]
        rwa [Nat.pow_succ] at h
      rw [Lib.decDigits, dif_neg h', digs_dec k (n / 10) hq]
      have : n % 10 < 10 := Nat.mod_lt _ (by omega)
      simp [hexL, this]

/-- Labels with dots between them. -/
def joinDots : List (List UInt8) → List UInt8
  | [] => []
  | [x] => x
  | x :: y :: r => x ++ 46 :: joinDots (y :: r)

theorem split_joinDots : ∀ ls : List (List UInt8), ls ≠ [] → (∀ x ∈ ls, ∀ c ∈ x, c ≠ 46) → splitOn 46 (joinDots ls) = ls
  | [], h, _ => absurd rfl h
  | [x], _, h => splitOn_miss 46 x (h x (by simp))
  | x :: y :: r, _, h => by
    show splitOn 46 (x ++ 46 :: joinDots (y :: r)) = _
    rw [splitOn_hit 46 _ x (h x (by simp)), split_joinDots (y :: r) (by simp) (fun z hz => h z (by simp [List.mem_cons.1 hz]))]

theorem labels_joinDots (ls : List (List UInt8)) (hne : ls ≠ []) (h : ∀ x ∈ ls, ∀ c ∈ x, c ≠ 46) (hx : ∀ x ∈ ls, x ≠ []) : labels (joinDots ls) = ls := by
  unfold labels
  rw [split_joinDots ls hne h, if_neg]
  rintro ⟨_, h2⟩
  exact hx [] (List.mem_of_getLast? h2) rfl

theorem joinDots_mem : ∀ (ls : List (List UInt8)) (c : UInt8), c ∈ joinDots ls → c = 46 ∨ ∃ x ∈ ls, c ∈ x
  | [], c, h => by simp [joinDots] at h
  | [x], c, h => Or.inr ⟨x, by simp, h⟩
  | x :: y :: r, c, h => by
    have h' : c ∈ x ++ 46 :: joinDots (y :: r) := h
    rcases List.mem_append.1 h' with h1 | h1
    · exact Or.inr ⟨x, by simp, h1⟩
    · rcases List.mem_cons.1 h1 with h2 | h2
      · exact Or.inl h2
      · rcases joinDots_mem (y :: r) c h2 with h3 | ⟨z, hz, h3⟩
        · exact Or.inl h3
        · exact Or.inr ⟨z, by simp [List.mem_cons.1 hz], h3⟩

theorem joinDots_ne : ∀ (ls : List (List UInt8)), ls ≠ [] → (∀ x ∈ ls, x ≠ []) → joinDots ls ≠ []
  | [], h, _ => absurd rfl h
  | [x], _, h => h x (by simp)
  | x :: y :: r, _, h => by show x ++ 46 :: joinDots (y :: r) ≠ []; simp

theorem lower_id (l : List UInt8) (h : ∀ c ∈ l, Lib.lowerB c = c) : Lib.toLowerA l = l := by
  unfold Lib.toLowerA
  conv => rhs; rw [← List.map_id l]
  exact List.map_congr_left h

theorem host_num (ls : List (List UInt8)) (a : Nat) (hne : ls ≠ []) (hok : ∀ x ∈ ls, (∀ c ∈ x, okT c = true) ∧ x ≠ []) (hl : numLabel (ls.getLastD []) = true) (hi : ip4 ls = some (a : Int)) :
    hostSpecial (unesc (joinDots ls)) = some (tell4 a) := by
  have hmem : ∀ c ∈ joinDots ls, badS c = false ∧ c ≠ 37 ∧ Lib.lowerB c = c := by
    intro c hc
    rcases joinDots_mem ls c hc with rfl | ⟨x, hx, hcx⟩
    · decide +kernel
    · have := okT_facts c ((hok x hx).1 c hcx)
      exact ⟨this.1, this.2.1, this.2.2.2.1⟩
  rw [unesc_plain _ (fun c hc => (hmem c hc).2.1)]
  have hlow := lower_id (joinDots ls) (fun c hc => (hmem c hc).2.2)
  have hlab := labels_joinDots ls hne (fun x hx c hc => (okT_facts c ((hok x hx).1 c hc)).2.2.1) (fun x hx => (hok x hx).2)
  unfold hostSpecial
  rw [if_neg (joinDots_ne ls hne (fun x hx => (hok x hx).2)), if_neg (by
    rw [Bool.not_eq_true, List.any_eq_false]
    intro c hc
    rw [(hmem c hc).1]; simp), hlow, hlab, if_pos hl, hi]
  rfl

theorem four_labels (r1 r2 r3 r4 : Nat) (n : Nat) (hn : n < 4294967296) :
    hostSpecial (unesc (joinDots [numTxt r1 (n / 16777216), numTxt r2 (n / 65536 % 256), numTxt r3 (n / 256 % 256), numTxt r4 (n % 256)])) = some (tell4 n) := by
  have a1 := anyBase_num r1 (n / 16777216) 255 (by omega) (by omega)
  have a2 := anyBase_num r2 (n / 65536 % 256) 255 (by omega) (by omega)
  have a3 := anyBase_num r3 (n / 256 % 256) 255 (by omega) (by omega)
  have a4 := anyBase_num r4 (n % 256) 255 (by omega) (by omega)
  refine host_num _ n (by simp) ?_ ?_ ?_
  · intro x hx
    simp only [List.mem_cons, List.not_mem_nil, or_false] at hx
    rcases hx with rfl | rfl | rfl | rfl
    · exact ⟨num_ok _ _ (by omega), num_ne _ _ (by omega)⟩
    · exact ⟨num_ok _ _ (by omega), num_ne _ _ (by omega)⟩
    · exact ⟨num_ok _ _ (by omega), num_ne _ _ (by omega)⟩
    · exact ⟨num_ok _ _ (by omega), num_ne _ _ (by omega)⟩
  · exact num_label r4 _ (by omega)
  · show (match front 0 [numTxt r1 (n / 16777216), numTxt r2 (n / 65536 % 256), numTxt r3 (n / 256 % 256)] with | none => none | some a => match anyBase 255 (numTxt r4 (n % 256)) with | none => none | some m => some (a * 256 + m)) = _
    simp only [front, a1, a2, a3, a4]
    congr 1
    omega

theorem three_labels (r1 r2 r4 : Nat) (n : Nat) (hn : n < 4294967296) :
    hostSpecial (unesc (joinDots [numTxt r1 (n / 16777216), numTxt r2 (n / 65536 % 256), numTxt r4 (n % 65536)])) = some (tell4 n) := by
  have a1 := anyBase_num r1 (n / 16777216) 255 (by omega) (by omega)
  have a2 := anyBase_num r2 (n / 65536 % 256) 255 (by omega) (by omega)
  have a4 := anyBase_num r4 (n % 65536) 65535 (by omega) (by omega)
  refine host_num _ n (by simp) ?_ ?_ ?_
  · intro x hx
    simp only [List.mem_cons, List.not_mem_nil, or_false] at hx
    rcases hx with rfl | rfl | rfl
    · exact ⟨num_ok _ _ (by omega), num_ne _ _ (by omega)⟩
    · exact ⟨num_ok _ _ (by omega), num_ne _ _ (by omega)⟩
    · exact ⟨num_ok _ _ (by omega), num_ne _ _ (by omega)⟩
  · exact num_label r4 _ (by omega)
  · show (match front 0 [numTxt r1 (n / 16777216), numTxt r2 (n / 65536 % 256)] with | none => none | some a => match anyBase 65535 (numTxt r4 (n % 65536)) with | none => none | some m => some (a * 65536 + m)) = _
    simp only [front, a1, a2, a4]
    congr 1
    omega

theorem two_labels (r1 r4 : Nat) (n : Nat) (hn : n < 4294967296) :
    hostSpecial (unesc (joinDots [numTxt r1 (n / 16777216), numTxt r4 (n % 16777216)])) = some (tell4 n) := by
  have a1 := anyBase_num r1 (n / 16777216) 255 (by omega) (by omega)
  have a4 := anyBase_num r4 (n % 16777216) 16777215 (by omega) (by omega)
  refine host_num _ n (by simp) ?_ ?_ ?_
  · intro x hx
    simp only [List.mem_cons, List.not_mem_nil, or_false] at hx
    rcases hx with rfl | rfl
    · exact ⟨num_ok _ _ (by omega), num_ne _ _ (by omega)⟩
    · exact ⟨num_ok _ _ (by omega), num_ne _ _ (by omega)⟩
  · exact num_label r4 _ (by omega)
  · show (match front 0 [numTxt r1 (n / 16777216)] with | none => none | some a => match anyBase 16777215 (numTxt r4 (n % 16777216)) with | none => none | some m => some (a * 16777216 + m)) = _
    simp only [front, a1, a4]
    congr 1
    omega

theorem ip4_one (r4 : Nat) (n : Nat) (hn : n < 4294967296) : ip4 [numTxt r4 n] = some (n : Int) := by
  have a4 := anyBase_num r4 n 4294967295 (by omega) (by omega)
  show (match front 0 [] with | none => none | some a => match anyBase 4294967295 (numTxt r4 n) with | none => none | some m => some (a * 4294967296 + m)) = _
  simp only [front, a4]
  congr 1
  omega

theorem one_label (r4 : Nat) (n : Nat) (hn : n < 4294967296) :
    hostSpecial (unesc (joinDots [numTxt r4 n])) = some (tell4 n) := by
  refine host_num _ n (by simp) ?_ (num_label r4 _ hn) (ip4_one r4 n hn)
  intro x hx
  simp only [List.mem_cons, List.not_mem_nil, or_false] at hx
  subst hx
  exact ⟨num_ok _ _ hn, num_ne _ _ hn⟩

theorem cap_label (n : Nat) (hn : n < 4294967296) : hostSpecial (unesc (48 :: 88 :: (digsF 16 31 n ++ [46]))) = some (tell4 n) := by
  have hok : ∀ c ∈ digsF 16 31 n, okT c = true := digs_ok 16 (by omega) (by omega) 31 n (Nat.lt_of_lt_of_le hn (pow_big 16 (by omega)))
  have hmem : ∀ c ∈ (48 :: 88 :: (digsF 16 31 n ++ [46]) : List UInt8), badS c = false ∧ c ≠ 37 := by
    intro c hc
    simp only [List.mem_cons, List.mem_append, List.not_mem_nil, or_false] at hc
    rcases hc with rfl | rfl | hc | rfl
    · decide +kernel
    · decide +kernel
    · have := okT_facts c (hok c hc); exact ⟨this.1, this.2.1⟩
    · decide +kernel
  have hlow : Lib.toLowerA (48 :: 88 :: (digsF 16 31 n ++ [46])) = numTxt 0 n ++ [46] := by
    have := lower_id (digsF 16 31 n) (fun c hc => (okT_facts c (hok c hc)).2.2.2.1)
    unfold Lib.toLowerA at this ⊢
    rw [List.map_cons, List.map_cons, List.map_append, this]
    rfl
  have hno : ∀ c ∈ numTxt 0 n, c ≠ 46 := fun c hc => (okT_facts c (num_ok 0 n hn c hc)).2.2.1
  have hlab : labels (numTxt 0 n ++ [46]) = [numTxt 0 n] := by
    unfold labels
    rw [splitOn_hit 46 [] _ hno]
    rfl
  rw [unesc_plain _ (fun c hc => (hmem c hc).2)]
  unfold hostSpecial
  rw [if_neg (by simp), if_neg (by
    rw [Bool.not_eq_true, List.any_eq_false]
    intro c hc
    rw [(hmem c hc).1]; simp), hlow, hlab, if_pos (show numLabel ([numTxt 0 n].getLastD []) = true from num_label 0 n hn), ip4_one 0 n hn]
  rfl

theorem digs_len (b : Nat) : ∀ (k n : Nat), (digsF b k n).length ≤ k + 1
  | 0, n => by simp [digsF]
  | k + 1, n => by
    have := digs_len b k (n / b)
    unfold digsF
    split
    · simp
    · simp; omega

def badTexts : List (List UInt8) := [[49, 46, 50, 46, 51, 46, 52, 46, 53], [50, 53, 54, 46, 49, 46, 49, 46, 49], [49, 46, 50, 53, 54], [49, 46, 50, 46, 54, 53, 53, 51, 54], [49, 46, 49, 54, 55, 55, 55, 50, 49, 54], [52, 50, 57, 52, 57, 54, 55, 50, 57, 54], [48, 57], [48, 120, 49, 103, 46, 49], [49, 46, 46, 50], [49, 46, 50, 46, 51, 46, 48, 120], [48, 56, 46, 49], [120, 46, 49, 46, 49, 46, 49, 46, 50, 53, 54]]

def badWant (k : Nat) : Option (List UInt8) := if k = 2 then some [49, 46, 48, 46, 49, 46, 48] else if k = 9 then some [49, 46, 50, 46, 51, 46, 48] else none

theorem bad_none : ∀ k : Fin 12, k.val ≠ 2 → k.val ≠ 9 → hostSpecial (unesc (badTexts.getD k.val [])) = none := by decide +kernel
theorem bad_two : ip4 (labels (Lib.toLowerA (unesc (badTexts.getD 2 [])))) = some 16777472 := by decide +kernel
theorem bad_nine : ip4 (labels (Lib.toLowerA (unesc (badTexts.getD 9 [])))) = some 16909056 := by decide +kernel
theorem tell_two : tell4 16777472 = [49, 46, 48, 46, 49, 46, 48] := by
  rw [tell4_eq, show byte4 16777472 0 = 1 by decide, show byte4 16777472 1 = 0 by decide, show byte4 16777472 2 = 1 by decide, show byte4 16777472 3 = 0 by decide, Lib.decDigits_one (by decide), Lib.decDigits_one (by decide)]
  decide
theorem tell_nine : tell4 16909056 = [49, 46, 50, 46, 51, 46, 48] := by
  rw [tell4_eq, show byte4 16909056 0 = 1 by decide, show byte4 16909056 1 = 2 by decide, show byte4 16909056 2 = 3 by decide, show byte4 16909056 3 = 0 by decide, Lib.decDigits_one (by decide), Lib.decDigits_one (by decide), Lib.decDigits_one (by decide), Lib.decDigits_one (by decide)]
  decide
theorem host_to_ip4 (l : List UInt8) (a : Int) (h1 : l ≠ []) (h2 : l.any badS = false) (h3 : numLabel ((labels (Lib.toLowerA l)).getLastD []) = true) (h4 : ip4 (labels (Lib.toLowerA l)) = some a) : hostSpecial l = some (tell4 a.toNat) := by
  unfold hostSpecial
  rw [if_neg h1, if_neg (by rw [h2]; simp), if_pos h3, h4]
  rfl
theorem bad_all (k : Nat) (hk : k < 12) : hostSpecial (unesc (badTexts.getD k [])) = badWant k := by
  unfold badWant
  by_cases h2 : k = 2
  · subst h2
    rw [host_to_ip4 _ 16777472 (by decide +kernel) (by decide +kernel) (by decide +kernel) bad_two]
    exact congrArg some tell_two
  · by_cases h9 : k = 9
    · subst h9
      rw [host_to_ip4 _ 16909056 (by decide +kernel) (by decide +kernel) (by decide +kernel) bad_nine]
      exact congrArg some tell_nine
    · rw [if_neg h2, if_neg h9]
      exact bad_none ⟨k, hk⟩ h2 h9

theorem nopfx (l : List UInt8) (h : ∀ c ∈ l, c ≠ 91) : Lib.hasPrefix l [91] = false := by
  cases l with
  | nil => rfl
  | cons a l =>
    have := h a (by simp)
    simp [Lib.hasPrefix, List.isPrefixOf]
    exact fun e => this e.symm
theorem bad_nopfx : ∀ k : Fin 12, Lib.hasPrefix (badTexts.getD k.val []) [91] = false := by decide +kernel
theorem bad_len : ∀ k : Fin 12, (badTexts.getD k.val []).length ≤ 20 := by decide +kernel

theorem joinDots_91 (ls : List (List UInt8)) (hok : ∀ x ∈ ls, ∀ c ∈ x, okT c = true) : ∀ c ∈ joinDots ls, c ≠ 91 := by
  intro c hc
  rcases joinDots_mem ls c hc with rfl | ⟨x, hx, hcx⟩
  · decide
  · exact (okT_facts c (hok x hx c hcx)).2.2.2.2
end Go.Moor
