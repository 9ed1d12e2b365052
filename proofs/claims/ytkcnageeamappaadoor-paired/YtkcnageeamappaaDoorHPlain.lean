/-
  Plain functions on lists of bytes: numbers by a base, labels, the four bytes of an IP4, what is told of a host; no program is named here.
-/
import Derived.Test.YtkcnageeamappaaDoorPlain
import Derived.Lib.Case
import Derived.Lib.SplitLaws
import Derived.Laws.BitsAllLaws
import Derived.Lib.ItoaNum
import Derived.Lib.Join
namespace Go.Moor
open Go

/-- Digits by a base, none above the most. -/
def digAcc (base most : Int) : Int → List UInt8 → Option Int
  | n, [] => some n
  | n, c :: l => if hexVal c.toNat < base then (if n * base + hexVal c.toNat ≤ most then digAcc base most (n * base + hexVal c.toNat) l else none) else none

def anyBase (most : Int) : List UInt8 → Option Int
  | [] => none
  | 48 :: 120 :: l => digAcc 16 most 0 l
  | 48 :: c :: l => digAcc 8 most 0 (c :: l)
  | l => digAcc 10 most 0 l

theorem digAcc_range (base most : Int) (hb : 0 ≤ base) : ∀ (l : List UInt8) (n m : Int), 0 ≤ n → n ≤ most → digAcc base most n l = some m → 0 ≤ m ∧ m ≤ most
  | [], n, m, h0, h1, h => by simp only [digAcc, Option.some.injEq] at h; omega
  | c :: l, n, m, h0, h1, h => by
    simp only [digAcc] at h
    split at h
    · split at h
      · rename_i h3
        have hv := (hexVal_range c.toNat).1
        have hm : 0 ≤ n * base := Int.mul_nonneg h0 hb
        exact digAcc_range base most hb l _ m (by omega) h3 h
      · simp at h
    · simp at h

/-- Split by a byte. -/
def splitOn (c : UInt8) : List UInt8 → List (List UInt8)
  | [] => [[]]
  | b :: l => if b = c then [] :: splitOn c l else (match splitOn c l with | x :: xs => (b :: x) :: xs | [] => [[b]])

theorem splitOn_ne (c : UInt8) : ∀ l : List UInt8, splitOn c l ≠ []
  | [] => by simp [splitOn]
  | b :: l => by
    unfold splitOn
    split
    · simp
    · split <;> simp

theorem splitOn_miss (c : UInt8) : ∀ l : List UInt8, (∀ x ∈ l, x ≠ c) → splitOn c l = [l]
  | [], _ => rfl
  | b :: l, h => by
    unfold splitOn
    rw [if_neg (h b (by simp)), splitOn_miss c l (fun x hx => h x (by simp [hx]))]

theorem splitOn_hit (c : UInt8) (r : List UInt8) : ∀ p : List UInt8, (∀ x ∈ p, x ≠ c) → splitOn c (p ++ c :: r) = p :: splitOn c r
  | [], _ => by simp [splitOn]
  | b :: p, h => by
    show splitOn c (b :: (p ++ c :: r)) = _
    rw [splitOn, if_neg (h b (by simp)), splitOn_hit c r p (fun x hx => h x (by simp [hx]))]

theorem splitK_eq (c : UInt8) : ∀ (k : Nat) (l : List UInt8), l.count c = k → Lib.splitK [c] 0 k l = splitOn c l
  | 0, l, h => by
    rw [splitOn_miss c l (fun x hx e => by subst e; exact absurd h (by have := List.count_pos_iff.2 hx; omega))]
    rfl
  | k + 1, l, h => by
    rcases indexByte_split c l with ⟨_, hno⟩ | ⟨p, r, rfl, hno, hi⟩
    · rw [List.count_eq_zero_of_not_mem (fun hm => hno c hm rfl)] at h
      omega
    · rw [splitOn_hit c r p hno]
      unfold Lib.splitK
      rw [Lib.index_one, hi]
      have hc : List.count c p = 0 := List.count_eq_zero_of_not_mem (fun hm => hno c hm rfl)
      have hr : List.count c r = k := by
        rw [List.count_append, hc, List.count_cons_self] at h
        omega
      have e1 : ((p.length : Int) == -1) = false := beq_eq_false_iff_ne.2 (by omega)
      rw [e1]
      simp only [Bool.false_eq_true, if_false, Int.toNat_natCast, Nat.add_zero, List.take_left, List.length_singleton]
      rw [show List.drop (p.length + 1) (p ++ c :: r) = r by simp, splitK_eq c k r hr]

/-- The labels of a host: split by dots; one empty label at the end counts for nothing, if there are more. -/
def labels (l : List UInt8) : List (List UInt8) :=
  if 1 < (splitOn 46 l).length ∧ (splitOn 46 l).getLast? = some [] then (splitOn 46 l).dropLast else splitOn 46 l

theorem labels_ne (l : List UInt8) : labels l ≠ [] := by
  unfold labels
  split
  · rename_i h
    intro e
    have := congrArg List.length e
    simp at this
    omega
  · exact splitOn_ne 46 l

theorem splitOn_mem (c : UInt8) : ∀ (l : List UInt8) (x : List UInt8), x ∈ splitOn c l → x.length ≤ l.length
  | [], x, h => by simp [splitOn] at h; simp [h]
  | b :: l, x, h => by
    unfold splitOn at h
    split at h
    · rcases List.mem_cons.1 h with rfl | h
      · simp
      · have := splitOn_mem c l x h; simp; omega
    · split at h
      · rename_i y ys he
        rcases List.mem_cons.1 h with rfl | h
        · have := splitOn_mem c l y (by rw [he]; simp); simp; omega
        · have := splitOn_mem c l x (by rw [he]; simp [h]); simp; omega
      · simp at h; simp [h]

theorem labels_mem (l x : List UInt8) (h : x ∈ labels l) : x.length ≤ l.length := by
  unfold labels at h
  split at h
  · exact splitOn_mem 46 l x (List.dropLast_subset _ h)
  · exact splitOn_mem 46 l x h

def allB (base : Int) (l : List UInt8) : Bool := l.all fun c => decide (hexVal c.toNat < base)

/-- A last label that makes it a number's host. -/
def numLabel (l : List UInt8) : Bool :=
  if Lib.hasPrefix l [48, 120] then allB 16 (l.drop 2) else !l.isEmpty && allB 10 l

theorem anyBase_range (most : Int) (h0 : 0 ≤ most) (l : List UInt8) (m : Int) (h : anyBase most l = some m) : 0 ≤ m ∧ m ≤ most := by
  unfold anyBase at h
  split at h
  · simp at h
  · exact digAcc_range 16 most (by omega) _ 0 m (by omega) h0 h
  · exact digAcc_range 8 most (by omega) _ 0 m (by omega) h0 h
  · exact digAcc_range 10 most (by omega) _ 0 m (by omega) h0 h

/-- All labels but the last one: each at most 255, the first bytes. -/
def front : Int → List (List UInt8) → Option Int
  | a, [] => some a
  | a, x :: xs => match anyBase 255 x with | some n => front (a * 256 + n) xs | none => none

/-- The number of an IP4 by its labels. -/
def ip4 (ls : List (List UInt8)) : Option Int :=
  if 4 < ls.length then none else
  match front 0 ls.dropLast with
  | none => none
  | some a => match anyBase (2 ^ (8 * (5 - ls.length)) - 1) (ls.getLastD []) with
    | none => none
    | some n => some (a * 2 ^ (8 * (5 - ls.length)) + n)

theorem or_join_nat (A M i p : Nat) (hp : 2 ^ i = p) (hA : A < 16777216) (hp1 : p ≤ 4294967296) (hM : M < p) : bits .or .u64 ((A * p : Nat) : Int) (M : Int) = ((A * p + M : Nat) : Int) := by
  have hX : A * p ≤ 16777216 * 4294967296 := Nat.mul_le_mul (by omega) hp1
  rw [u64_or_nat (A * p) M (by omega) (by omega), nat_join i (A * p) M (by rw [hp]; exact Nat.mul_mod_left _ _) (by rw [hp]; exact hM)]

theorem or_join (a n : Int) (i p : Nat) (hp : 2 ^ i = p) (hp1 : p ≤ 4294967296) (ha0 : 0 ≤ a) (ha1 : a < 16777216) (hn0 : 0 ≤ n) (hn1 : n < p) : bits .or .u64 (a * p) n = a * p + n := by
  obtain ⟨A, rfl⟩ := Int.eq_ofNat_of_zero_le ha0
  obtain ⟨M, rfl⟩ := Int.eq_ofNat_of_zero_le hn0
  have := or_join_nat A M i p hp (by omega) hp1 (by omega)
  rw [Int.natCast_mul, Int.natCast_add, Int.natCast_mul] at this
  exact this

theorem front_range : ∀ (xs : List (List UInt8)) (a m : Int), 0 ≤ a → front a xs = some m → 0 ≤ m ∧ m < (a + 1) * 256 ^ xs.length
  | [], a, m, h0, h => by simp only [front, Option.some.injEq] at h; subst h; simp; omega
  | x :: xs, a, m, h0, h => by
    unfold front at h
    split at h
    · rename_i n hn
      have hr := anyBase_range 255 (by omega) x n hn
      have := front_range xs (a * 256 + n) m (by omega) h
      refine ⟨this.1, Int.lt_of_lt_of_le this.2 ?_⟩
      rw [List.length_cons, Int.pow_succ]
      have hpos : (0 : Int) ≤ 256 ^ xs.length := Int.pow_nonneg (by decide)
      have : (a * 256 + n + 1) * 256 ^ xs.length ≤ ((a + 1) * 256) * 256 ^ xs.length := Int.mul_le_mul_of_nonneg_right (by omega) hpos
      rw [Int.mul_assoc, Int.mul_comm 256 (256 ^ xs.length)] at this
      exact this
    · simp at h

/-- The j-th byte of a number of 32 bits. -/
def byte4 (a j : Nat) : Nat := a / 2 ^ (24 - 8 * j) % 256
theorem byte4_lt (a j : Nat) : byte4 a j < 256 := Nat.mod_lt _ (by omega)
/-- An IP4, told. -/
def tell4 (a : Nat) : List UInt8 := Lib.join [Lib.decDigits (byte4 a 0), Lib.decDigits (byte4 a 1), Lib.decDigits (byte4 a 2), Lib.decDigits (byte4 a 3)] [46]

theorem and_byte (a k : Nat) (ha : a < 4294967296) : bits .and .u64 ((a : Int) / 2 ^ k) 255 = ((a / 2 ^ k % 256 : Nat) : Int) := by
  have e : (a : Int) / 2 ^ k = ((a / 2 ^ k : Nat) : Int) := by
    rw [Int.natCast_ediv, Int.natCast_pow]; rfl
  have hlt : a / 2 ^ k ≤ a := Nat.div_le_self _ _
  rw [e, show (255 : Int) = ((255 : Nat) : Int) from rfl, u64_and_nat (a / 2 ^ k) 255 (by omega) (by omega), show (255 : Nat) = 2 ^ 8 - 1 from rfl, Nat.and_two_pow_sub_one_eq_mod]

theorem dec_len (u : Nat) (h : u < 256) : (Lib.decDigits u).length ≤ 3 := by
  rw [Lib.decDigits_length]
  by_cases h1 : u < 10
  · rw [Lib.nDigits_small h1]; omega
  · rw [Lib.nDigits_big h1]
    by_cases h2 : u / 10 < 10
    · rw [Lib.nDigits_small h2]; omega
    · rw [Lib.nDigits_big h2, Lib.nDigits_small (by omega)]; omega

theorem tell4_eq (a : Nat) : tell4 a = Lib.decDigits (byte4 a 0) ++ 46 :: (Lib.decDigits (byte4 a 1) ++ 46 :: (Lib.decDigits (byte4 a 2) ++ 46 :: Lib.decDigits (byte4 a 3))) := by
  unfold tell4
  rw [Lib.join_cons]
  simp [Lib.joinTail]

theorem tell4_len (a : Nat) : (tell4 a).length ≤ 15 := by
  have h0 := dec_len _ (byte4_lt a 0)
  have h1 := dec_len _ (byte4_lt a 1)
  have h2 := dec_len _ (byte4_lt a 2)
  have h3 := dec_len _ (byte4_lt a 3)
  rw [tell4_eq]
  simp only [List.length_append, List.length_cons]
  omega

theorem ip4_range (ls : List (List UInt8)) (n : Int) (hne : ls ≠ []) (h : ip4 ls = some n) : 0 ≤ n ∧ n < 4294967296 := by
  unfold ip4 at h
  split at h
  · simp at h
  · rename_i h4
    split at h
    · simp at h
    · rename_i a ha
      split at h
      · simp at h
      · rename_i m hm
        simp only [Option.some.injEq] at h
        subst h
        have hlen : 1 ≤ ls.length := by cases ls with | nil => exact absurd rfl hne | cons x xs => simp
        have hf := front_range _ _ _ (by omega) ha
        rw [List.length_dropLast] at hf
        have hk : ls.length = 1 ∨ ls.length = 2 ∨ ls.length = 3 ∨ ls.length = 4 := by omega
        rcases hk with hk | hk | hk | hk
        · rw [hk] at hf hm ⊢
          have hr := anyBase_range _ (by decide) _ _ hm
          have e1 : (2 : Int) ^ (8 * (5 - 1)) = 4294967296 := by decide
          have e2 : ((0 : Int) + 1) * 256 ^ (1 - 1) = 1 := by decide
          rw [e1] at hr ⊢; rw [e2] at hf
          omega
        · rw [hk] at hf hm ⊢
          have hr := anyBase_range _ (by decide) _ _ hm
          have e1 : (2 : Int) ^ (8 * (5 - 2)) = 16777216 := by decide
          have e2 : ((0 : Int) + 1) * 256 ^ (2 - 1) = 256 := by decide
          rw [e1] at hr ⊢; rw [e2] at hf
          omega
        · rw [hk] at hf hm ⊢
          have hr := anyBase_range _ (by decide) _ _ hm
          have e1 : (2 : Int) ^ (8 * (5 - 3)) = 65536 := by decide
          have e2 : ((0 : Int) + 1) * 256 ^ (3 - 1) = 65536 := by decide
          rw [e1] at hr ⊢; rw [e2] at hf
          omega
        · rw [hk] at hf hm ⊢
          have hr := anyBase_range _ (by decide) _ _ hm
          have e1 : (2 : Int) ^ (8 * (5 - 4)) = 256 := by decide
          have e2 : ((0 : Int) + 1) * 256 ^ (4 - 1) = 16777216 := by decide
          rw [e1] at hr ⊢; rw [e2] at hf
          omega

def forbS : List UInt8 := [0, 9, 10, 13, 32, 35, 47, 58, 60, 62, 63, 64, 91, 92, 93, 94, 124, 37]

/-- A byte that a host of a special scheme can't have. -/
def badS (c : UInt8) : Bool := decide (0 ≤ Lib.indexByte forbS c) || holdsB 0 c.toNat

/-- A host of a special scheme, unescaped: told, or none. -/
def hostSpecial (l : List UInt8) : Option (List UInt8) :=
  if l = [] then none else if l.any badS then none else
  if numLabel ((labels (Lib.toLowerA l)).getLastD []) then (ip4 (labels (Lib.toLowerA l))).map (fun a => tell4 a.toNat) else some (Lib.toLowerA l)

theorem good_ascii : ∀ c : Fin 256, holdsB 0 c.val = false → c.val < 128 := by decide +kernel
theorem good_ascii' (c : UInt8) (h : badS c = false) : c.toNat < 128 := by
  have h2 : holdsB 0 c.toNat = false := by
    unfold badS at h
    exact (Bool.or_eq_false_iff.1 h).2
  exact good_ascii ⟨c.toNat, c.toNat_lt⟩ h2
theorem splitOn_len (c : UInt8) : ∀ l : List UInt8, (splitOn c l).length ≤ l.length + 1
  | [] => by simp [splitOn]
  | b :: l => by
    have := splitOn_len c l
    unfold splitOn
    split
    · simp; omega
    · split
      · rename_i x xs h; rw [h] at this; simp at this ⊢; omega
      · simp
end Go.Moor
