import Derived.Lib.IndexMore
import Derived.Lib.IndexBytes
import Derived.Lib.UnsafeStr
import Derived.Laws.Entries
import Derived.KernelRfl
import Derived.Lib.Case
import Derived.Lib.SplitLaws
import Derived.Laws.BitsAllLaws
import Derived.Lib.ItoaNum
import Derived.Lib.Join
import Derived.Lib.Replace
import Derived.Lib.CountLaws
import Derived.Lib.LastIndexByte
import Derived.Lib.SlTrimSet
namespace Go.Moor
open Go
def tab : List Int := [4294967295, 9223372036854775808, 18446744073709551615, 18446744073709551615, 5764607548804038655, 9223372041149743104, 18446744073709551615, 18446744073709551615, 5764607583163777023, 9223372036854775808, 18446744073709551615, 18446744073709551615, 5764608132919590911, 9223372036854775808, 18446744073709551615, 18446744073709551615, 14987979620018552831, 12105675803740602368, 18446744073709551615, 18446744073709551615, 18158654495175737343, 13258597309286973441, 18446744073709551615, 18446744073709551615, 18158681364491141119, 13258597309286973441, 18446744073709551615, 18446744073709551615]
def tabAt (k : Nat) : Int := tab.getD k 0
def holdsB (s b : Int) : Bool := (decide (0 ≤ s) && decide (s < 7)) && (bits .and .u64 (tabAt (s.toNat * 4 + (b / 64).toNat) / 2 ^ (b % 64).toNat) 1 == 1)
def hexCap (n : Nat) : UInt8 := if n < 10 then (48 + n).toUInt8 else (55 + n).toUInt8
def escB (s : Int) (c : UInt8) : List UInt8 := if holdsB s c.toNat then [37, hexCap (c.toNat / 16), hexCap (c.toNat % 16)] else [c]
def esc (s : Int) (l : List UInt8) : List UInt8 := l.flatMap (escB s)
def hexVal (b : Int) : Int := if 48 ≤ b ∧ b ≤ 57 then b - 48 else if 65 ≤ b ∧ b ≤ 70 then b - 55 else if 97 ≤ b ∧ b ≤ 102 then b - 87 else 16
def twoHex : List UInt8 → Bool
  | a :: b :: _ => decide (hexVal a.toNat < 16) && decide (hexVal b.toNat < 16)
  | _ => false
def pairB (a b : UInt8) : UInt8 := (16 * (hexVal a.toNat).toNat + (hexVal b.toNat).toNat).toUInt8
def unesc : List UInt8 → List UInt8
  | [] => []
  | c :: [] => [c]
  | c :: a :: [] => [c, a]
  | c :: a :: b :: r => if c = 37 then (if twoHex (a :: b :: r) then pairB a b :: unesc r else 37 :: unesc (a :: b :: r)) else c :: unesc (a :: b :: r)
theorem unesc_ne (c : UInt8) (l : List UInt8) (h : c ≠ 37) : unesc (c :: l) = c :: unesc l := by
  match l with
  | [] => simp [unesc]
  | [a] => simp [unesc]
  | a :: b :: r => rw [unesc, if_neg h]
theorem unesc_hex (a b : UInt8) (r : List UInt8) (h : twoHex (a :: b :: r) = true) : unesc (37 :: a :: b :: r) = pairB a b :: unesc r := by
  rw [unesc, if_pos rfl, if_pos h]
theorem unesc_not (l : List UInt8) (h : twoHex l = false) : unesc (37 :: l) = 37 :: unesc l := by
  match l with
  | [] => simp [unesc]
  | [a] => simp [unesc]
  | a :: b :: r => rw [unesc, if_pos rfl, if_neg (by simp [h])]
theorem unesc_app (p l : List UInt8) (h : ∀ c ∈ p, c ≠ 37) : unesc (p ++ l) = p ++ unesc l := by
  induction p with
  | nil => rfl
  | cons c p ih =>
    rw [List.cons_append, unesc_ne c _ (h c (by simp)), ih (fun x hx => h x (by simp [hx]))]
    rfl
theorem unesc_plain (p : List UInt8) (h : ∀ c ∈ p, c ≠ 37) : unesc p = p := by
  have := unesc_app p [] h
  simpa [unesc] using this
theorem indexByte_split (c : UInt8) : ∀ l : List UInt8, (Lib.indexByte l c = -1 ∧ ∀ x ∈ l, x ≠ c) ∨ ∃ p r, l = p ++ c :: r ∧ (∀ x ∈ p, x ≠ c) ∧ Lib.indexByte l c = (p.length : Int)
  | [] => Or.inl ⟨rfl, by simp⟩
  | b :: l => by
    by_cases hb : b = c
    · subst hb
      exact Or.inr ⟨[], l, rfl, by simp, by simp [Lib.indexByte]⟩
    · rcases indexByte_split c l with ⟨h1, h2⟩ | ⟨p, r, rfl, h2, h3⟩
      · refine Or.inl ⟨?_, ?_⟩
        · simp [Lib.indexByte, hb, h1]
        · intro x hx
          rcases List.mem_cons.1 hx with rfl | hx
          · exact hb
          · exact h2 x hx
      · refine Or.inr ⟨b :: p, r, rfl, ?_, ?_⟩
        · intro x hx
          rcases List.mem_cons.1 hx with rfl | hx
          · exact hb
          · exact h2 x hx
        · have : ¬ ((p.length : Int) = -1) := by omega
          simp [Lib.indexByte, hb, h3, this]
theorem cut_split (c : UInt8) (l : List UInt8) : (Lib.cut l [c] = (l, [], false) ∧ ∀ x ∈ l, x ≠ c) ∨ ∃ p r, l = p ++ c :: r ∧ (∀ x ∈ p, x ≠ c) ∧ Lib.cut l [c] = (p, r, true) := by
  rcases indexByte_split c l with ⟨h1, h2⟩ | ⟨p, r, hl, h2, h3⟩
  · refine Or.inl ⟨?_, h2⟩
    unfold Lib.cut
    rw [Lib.index_one, h1]; simp
  · refine Or.inr ⟨p, r, hl, h2, ?_⟩
    unfold Lib.cut
    rw [Lib.index_one, h3]
    subst hl
    simp
theorem hexVal_range (b : Int) : 0 ≤ hexVal b ∧ hexVal b ≤ 16 := by unfold hexVal; split; omega; split; omega; split <;> omega
theorem take_snoc (s : ByteArray) (k : Nat) (h : k < s.size) : s.data.toList.take (k + 1) = s.data.toList.take k ++ [s[k]] := by
  rw [List.take_succ_eq_append_getElem (by simpa using h)]; rfl
theorem size_mk (l : List UInt8) : (⟨l.toArray⟩ : ByteArray).size = l.length := by simp [ByteArray.size]
theorem or_fin : ∀ x y : Fin 16, IntKind.u8.wrap (bits .or .u64 (IntKind.u64.wrap ((x.val : Int) * 16)) (y.val : Int)) = ((16 * x.val + y.val).toUInt8.toNat : Int) := by decide +kernel
theorem or_pair (a b : UInt8) (l : List UInt8) (h : twoHex (a :: b :: l) = true) : IntKind.u8.wrap (bits .or .u64 (IntKind.u64.wrap (hexVal a.toNat * 16)) (hexVal b.toNat)) = ((pairB a b).toNat : Int) := by
  have h' : hexVal a.toNat < 16 ∧ hexVal b.toNat < 16 := by simpa [twoHex] using h
  have ra := hexVal_range a.toNat
  have rb := hexVal_range b.toNat
  have := or_fin ⟨(hexVal a.toNat).toNat, by omega⟩ ⟨(hexVal b.toNat).toNat, by omega⟩
  unfold pairB
  rw [← this]
  simp only [Int.toNat_of_nonneg ra.1, Int.toNat_of_nonneg rb.1]
theorem unesc_len : ∀ (n : Nat) (l : List UInt8), l.length ≤ n → (unesc l).length ≤ l.length
  | 0, l, h => by
    have : l = [] := List.length_eq_zero_iff.1 (by omega)
    subst this; simp [unesc]
  | n + 1, [], _ => by simp [unesc]
  | n + 1, c :: l, h => by
    by_cases hc : c = 37
    · subst hc
      by_cases ht : twoHex l = true
      · match l, ht, h with
        | a :: b :: r, ht, h =>
          rw [unesc_hex a b r ht]
          have := unesc_len n r (by simp at h; omega)
          simp; omega
      · rw [unesc_not l (Bool.eq_false_iff.2 ht)]
        have := unesc_len n l (by simp at h; omega)
        simp; omega
    · rw [unesc_ne c l hc]
      have := unesc_len n l (by simp at h; omega)
      simp; omega
def wordsHold (ws : List Int) (b : Int) : Bool := bits .and .u64 (ws.getD (b / 64).toNat 0 / 2 ^ (b % 64).toNat) 1 == 1
def escW1 (ws : List Int) (c : UInt8) : List UInt8 := if wordsHold ws c.toNat then [37, hexCap (c.toNat / 16), hexCap (c.toNat % 16)] else [c]
def escW (ws : List Int) (l : List UInt8) : List UInt8 := l.flatMap (escW1 ws)
def setWs (s : Int) : List Int := if 0 ≤ s ∧ s < 7 then [tabAt (s.toNat * 4), tabAt (s.toNat * 4 + 1), tabAt (s.toNat * 4 + 2), tabAt (s.toNat * 4 + 3)] else [0, 0, 0, 0]
theorem holds_ws (s : Int) (c : UInt8) : wordsHold (setWs s) c.toNat = holdsB s c.toNat := by
  have hc := c.toNat_lt
  have hq : ((c.toNat : Int) / 64).toNat = 0 ∨ ((c.toNat : Int) / 64).toNat = 1 ∨ ((c.toNat : Int) / 64).toNat = 2 ∨ ((c.toNat : Int) / 64).toNat = 3 := by omega
  unfold wordsHold setWs holdsB
  by_cases h : 0 ≤ s ∧ s < 7
  · have e1 : decide (0 ≤ s) = true := decide_eq_true h.1
    have e2 : decide (s < 7) = true := decide_eq_true h.2
    rw [if_pos h, e1, e2, Bool.and_self, Bool.true_and]
    rcases hq with hq | hq | hq | hq <;> rw [hq] <;> rfl
  · rw [if_neg h]
    have e : (decide (0 ≤ s) && decide (s < 7)) = false := by
      by_cases h0 : 0 ≤ s
      · have : ¬ s < 7 := fun h7 => h ⟨h0, h7⟩
        simp [this]
      · simp [h0]
    rw [e, Bool.false_and]
    have z : ([0, 0, 0, 0] : List Int).getD ((c.toNat : Int) / 64).toNat 0 = 0 := by rcases hq with hq | hq | hq | hq <;> rw [hq] <;> rfl
    rw [z, Int.zero_ediv]
    decide
theorem esc_ws (s : Int) (l : List UInt8) : escW (setWs s) l = esc s l := by
  have : escW1 (setWs s) = escB s := by
    funext c
    unfold escW1 escB
    rw [holds_ws]
  unfold escW esc
  rw [this]
theorem escW_snoc (ws : List Int) (l : List UInt8) (c : UInt8) : escW ws (l ++ [c]) = escW ws l ++ escW1 ws c := by
  simp [escW, List.flatMap_append]
theorem escW_len (ws : List Int) : ∀ l : List UInt8, (escW ws l).length ≤ 3 * l.length
  | [] => by simp [escW]
  | c :: l => by
    have := escW_len ws l
    have h1 : (escW1 ws c).length ≤ 3 := by unfold escW1; split <;> simp
    show (escW1 ws c ++ escW ws l).length ≤ _
    rw [List.length_append, List.length_cons]
    omega
end Go.Moor
namespace Go.Moor
open Go
def digAcc (base most : Int) : Int → List UInt8 → Option Int
  | n, [] => some n
  | n, c :: l => if hexVal c.toNat < base then (if n * base + hexVal c.toNat ≤ most then digAcc base most (n * base + hexVal c.toNat) l else none) else none
def anyBase (most : Int) : List UInt8 → Option Int
  | [] => none
  | 48 :: 120 :: l => digAcc 16 most 0 l
  | 48 :: c :: l => digAcc 8 most 0 (c :: l)
  | l => digAcc 10 most 0 l
theorem digAcc_range (base most : Int) (hb : 0 ≤ base) : ∀ (l : List UInt8) (n m : Int), 0 ≤ n → n ≤ most → digAcc base most n l = some m → 0 ≤ m ∧ m ≤ most
  | [], n, m, h0, h1, h => by simp only [digAcc, Option.some.injEq] at h; omega
  | c :: l, n, m, h0, h1, h => by
    simp only [digAcc] at h
    split at h
    · split at h
      · rename_i h3
        have hv := (hexVal_range c.toNat).1
        have hm : 0 ≤ n * base := Int.mul_nonneg h0 hb
        exact digAcc_range base most hb l _ m (by omega) h3 h
      · simp at h
    · simp at h
def splitOn (c : UInt8) : List UInt8 → List (List UInt8)
  | [] => [[]]
  | b :: l => if b = c then [] :: splitOn c l else (match splitOn c l with | x :: xs => (b :: x) :: xs | [] => [[b]])
theorem splitOn_ne (c : UInt8) : ∀ l : List UInt8, splitOn c l ≠ []
  | [] => by simp [splitOn]
  | b :: l => by
    unfold splitOn
    split
    · simp
    · split <;> simp
theorem splitOn_miss (c : UInt8) : ∀ l : List UInt8, (∀ x ∈ l, x ≠ c) → splitOn c l = [l]
  | [], _ => rfl
  | b :: l, h => by
    unfold splitOn
    rw [if_neg (h b (by simp)), splitOn_miss c l (fun x hx => h x (by simp [hx]))]
theorem splitOn_hit (c : UInt8) (r : List UInt8) : ∀ p : List UInt8, (∀ x ∈ p, x ≠ c) → splitOn c (p ++ c :: r) = p :: splitOn c r
  | [], _ => by simp [splitOn]
  | b :: p, h => by
    show splitOn c (b :: (p ++ c :: r)) = _
    rw [splitOn, if_neg (h b (by simp)), splitOn_hit c r p (fun x hx => h x (by simp [hx]))]
theorem splitK_eq (c : UInt8) : ∀ (k : Nat) (l : List UInt8), l.count c = k → Lib.splitK [c] 0 k l = splitOn c l
  | 0, l, h => by
    rw [splitOn_miss c l (fun x hx e => by subst e; exact absurd h (by have := List.count_pos_iff.2 hx; omega))]
    rfl
  | k + 1, l, h => by
    rcases indexByte_split c l with ⟨_, hno⟩ | ⟨p, r, rfl, hno, hi⟩
    · rw [List.count_eq_zero_of_not_mem (fun hm => hno c hm rfl)] at h
      omega
    · rw [splitOn_hit c r p hno]
      unfold Lib.splitK
      rw [Lib.index_one, hi]
      have hc : List.count c p = 0 := List.count_eq_zero_of_not_mem (fun hm => hno c hm rfl)
      have hr : List.count c r = k := by
        rw [List.count_append, hc, List.count_cons_self] at h
        omega
      have e1 : ((p.length : Int) == -1) = false := beq_eq_false_iff_ne.2 (by omega)
      rw [e1]
      simp only [Bool.false_eq_true, if_false, Int.toNat_natCast, Nat.add_zero, List.take_left, List.length_singleton]
      rw [show List.drop (p.length + 1) (p ++ c :: r) = r by simp, splitK_eq c k r hr]
def labels (l : List UInt8) : List (List UInt8) :=
  if 1 < (splitOn 46 l).length ∧ (splitOn 46 l).getLast? = some [] then (splitOn 46 l).dropLast else splitOn 46 l
theorem labels_ne (l : List UInt8) : labels l ≠ [] := by
  unfold labels
  split
  · rename_i h
    intro e
    have := congrArg List.length e
    simp at this
    omega
  · exact splitOn_ne 46 l
theorem splitOn_mem (c : UInt8) : ∀ (l : List UInt8) (x : List UInt8), x ∈ splitOn c l → x.length ≤ l.length
  | [], x, h => by simp [splitOn] at h; simp [h]
  | b :: l, x, h => by
    unfold splitOn at h
    split at h
    · rcases List.mem_cons.1 h with rfl | h
      · simp
      · have := splitOn_mem c l x h; simp; omega
    · split at h
      · rename_i y ys he
        rcases List.mem_cons.1 h with rfl | h
        · have := splitOn_mem c l y (by rw [he]; simp); simp; omega
        · have := splitOn_mem c l x (by rw [he]; simp [h]); simp; omega
      · simp at h; simp [h]
theorem labels_mem (l x : List UInt8) (h : x ∈ labels l) : x.length ≤ l.length := by
  unfold labels at h
  split at h
  · exact splitOn_mem 46 l x (List.dropLast_subset _ h)
  · exact splitOn_mem 46 l x h
def allB (base : Int) (l : List UInt8) : Bool := l.all fun c => decide (hexVal c.toNat < base)
def numLabel (l : List UInt8) : Bool :=
  if Lib.hasPrefix l [48, 120] then allB 16 (l.drop 2) else !l.isEmpty && allB 10 l
theorem anyBase_range (most : Int) (h0 : 0 ≤ most) (l : List UInt8) (m : Int) (h : anyBase most l = some m) : 0 ≤ m ∧ m ≤ most := by
  unfold anyBase at h
  split at h
  · simp at h
  · exact digAcc_range 16 most (by omega) _ 0 m (by omega) h0 h
  · exact digAcc_range 8 most (by omega) _ 0 m (by omega) h0 h
  · exact digAcc_range 10 most (by omega) _ 0 m (by omega) h0 h
def front : Int → List (List UInt8) → Option Int
  | a, [] => some a
  | a, x :: xs => match anyBase 255 x with | some n => front (a * 256 + n) xs | none => none
def ip4 (ls : List (List UInt8)) : Option Int :=
  if 4 < ls.length then none else
  match front 0 ls.dropLast with
  | none => none
  | some a => match anyBase (2 ^ (8 * (5 - ls.length)) - 1) (ls.getLastD []) with
    | none => none
    | some n => some (a * 2 ^ (8 * (5 - ls.length)) + n)
theorem or_join_nat (A M i p : Nat) (hp : 2 ^ i = p) (hA : A < 16777216) (hp1 : p ≤ 4294967296) (hM : M < p) : bits .or .u64 ((A * p : Nat) : Int) (M : Int) = ((A * p + M : Nat) : Int) := by
  have hX : A * p ≤ 16777216 * 4294967296 := Nat.mul_le_mul (by omega) hp1
  rw [u64_or_nat (A * p) M (by omega) (by omega), nat_join i (A * p) M (by rw [hp]; exact Nat.mul_mod_left _ _) (by rw [hp]; exact hM)]
theorem or_join (a n : Int) (i p : Nat) (hp : 2 ^ i = p) (hp1 : p ≤ 4294967296) (ha0 : 0 ≤ a) (ha1 : a < 16777216) (hn0 : 0 ≤ n) (hn1 : n < p) : bits .or .u64 (a * p) n = a * p + n := by
  obtain ⟨A, rfl⟩ := Int.eq_ofNat_of_zero_le ha0
  obtain ⟨M, rfl⟩ := Int.eq_ofNat_of_zero_le hn0
  have := or_join_nat A M i p hp (by omega) hp1 (by omega)
  rw [Int.natCast_mul, Int.natCast_add, Int.natCast_mul] at this
  exact this
theorem front_range : ∀ (xs : List (List UInt8)) (a m : Int), 0 ≤ a → front a xs = some m → 0 ≤ m ∧ m < (a + 1) * 256 ^ xs.length
  | [], a, m, h0, h => by simp only [front, Option.some.injEq] at h; subst h; simp; omega
  | x :: xs, a, m, h0, h => by
    unfold front at h
    split at h
    · rename_i n hn
      have hr := anyBase_range 255 (by omega) x n hn
      have := front_range xs (a * 256 + n) m (by omega) h
      refine ⟨this.1, Int.lt_of_lt_of_le this.2 ?_⟩
      rw [List.length_cons, Int.pow_succ]
      have hpos : (0 : Int) ≤ 256 ^ xs.length := Int.pow_nonneg (by decide)
      have : (a * 256 + n + 1) * 256 ^ xs.length ≤ ((a + 1) * 256) * 256 ^ xs.length := Int.mul_le_mul_of_nonneg_right (by omega) hpos
      rw [Int.mul_assoc, Int.mul_comm 256 (256 ^ xs.length)] at this
      exact this
    · simp at h
def byte4 (a j : Nat) : Nat := a / 2 ^ (24 - 8 * j) % 256
theorem byte4_lt (a j : Nat) : byte4 a j < 256 := Nat.mod_lt _ (by omega)
def tell4 (a : Nat) : List UInt8 := Lib.join [Lib.decDigits (byte4 a 0), Lib.decDigits (byte4 a 1), Lib.decDigits (byte4 a 2), Lib.decDigits (byte4 a 3)] [46]
theorem and_byte (a k : Nat) (ha : a < 4294967296) : bits .and .u64 ((a : Int) / 2 ^ k) 255 = ((a / 2 ^ k % 256 : Nat) : Int) := by
  have e : (a : Int) / 2 ^ k = ((a / 2 ^ k : Nat) : Int) := by
    rw [Int.natCast_ediv, Int.natCast_pow]; rfl
  have hlt : a / 2 ^ k ≤ a := Nat.div_le_self _ _
  rw [e, show (255 : Int) = ((255 : Nat) : Int) from rfl, u64_and_nat (a / 2 ^ k) 255 (by omega) (by omega), show (255 : Nat) = 2 ^ 8 - 1 from rfl, Nat.and_two_pow_sub_one_eq_mod]
theorem dec_len (u : Nat) (h : u < 256) : (Lib.decDigits u).length ≤ 3 := by
  rw [Lib.decDigits_length]
  by_cases h1 : u < 10
  · rw [Lib.nDigits_small h1]; omega
  · rw [Lib.nDigits_big h1]
    by_cases h2 : u / 10 < 10
    · rw [Lib.nDigits_small h2]; omega
    · rw [Lib.nDigits_big h2, Lib.nDigits_small (by omega)]; omega
theorem tell4_eq (a : Nat) : tell4 a = Lib.decDigits (byte4 a 0) ++ 46 :: (Lib.decDigits (byte4 a 1) ++ 46 :: (Lib.decDigits (byte4 a 2) ++ 46 :: Lib.decDigits (byte4 a 3))) := by
  unfold tell4
  rw [Lib.join_cons]
  simp [Lib.joinTail]
theorem tell4_len (a : Nat) : (tell4 a).length ≤ 15 := by
  have h0 := dec_len _ (byte4_lt a 0)
  have h1 := dec_len _ (byte4_lt a 1)
  have h2 := dec_len _ (byte4_lt a 2)
  have h3 := dec_len _ (byte4_lt a 3)
  rw [tell4_eq]
  simp only [List.length_append, List.length_cons]
  omega
theorem ip4_range (ls : List (List UInt8)) (n : Int) (hne : ls ≠ []) (h : ip4 ls = some n) : 0 ≤ n ∧ n < 4294967296 := by
  unfold ip4 at h
  split at h
  · simp at h
  · rename_i h4
    split at h
    · simp at h
    · rename_i a ha
      split at h
      · simp at h
      · rename_i m hm
        simp only [Option.some.injEq] at h
        subst h
        have hlen : 1 ≤ ls.length := by cases ls with | nil => exact absurd rfl hne | cons x xs => simp
        have hf := front_range _ _ _ (by omega) ha
        rw [List.length_dropLast] at hf
        have hk : ls.length = 1 ∨ ls.length = 2 ∨ ls.length = 3 ∨ ls.length = 4 := by omega
        rcases hk with hk | hk | hk | hk
        · rw [hk] at hf hm ⊢
          have hr := anyBase_range _ (by decide) _ _ hm
          have e1 : (2 : Int) ^ (8 * (5 - 1)) = 4294967296 := by decide
          have e2 : ((0 : Int) + 1) * 256 ^ (1 - 1) = 1 := by decide
          rw [e1] at hr ⊢; rw [e2] at hf
          omega
        · rw [hk] at hf hm ⊢
          have hr := anyBase_range _ (by decide) _ _ hm
          have e1 : (2 : Int) ^ (8 * (5 - 2)) = 16777216 := by decide
          have e2 : ((0 : Int) + 1) * 256 ^ (2 - 1) = 256 := by decide
          rw [e1] at hr ⊢; rw [e2] at hf
          omega
        · rw [hk] at hf hm ⊢
          have hr := anyBase_range _ (by decide) _ _ hm
          have e1 : (2 : Int) ^ (8 * (5 - 3)) = 65536 := by decide
          have e2 : ((0 : Int) + 1) * 256 ^ (3 - 1) = 65536 := by decide
          rw [e1] at hr ⊢; rw [e2] at hf
          omega
        · rw [hk] at hf hm ⊢
          have hr := anyBase_range _ (by decide) _ _ hm
          have e1 : (2 : Int) ^ (8 * (5 - 4)) = 256 := by decide
          have e2 : ((0 : Int) + 1) * 256 ^ (4 - 1) = 16777216 := by decide
          rw [e1] at hr ⊢; rw [e2] at hf
          omega
def forbS : List UInt8 := [0, 9, 10, 13, 32, 35, 47, 58, 60, 62, 63, 64, 91, 92, 93, 94, 124, 37]
def badS (c : UInt8) : Bool := decide (0 ≤ Lib.indexByte forbS c) || holdsB 0 c.toNat
def hostSpecial (l : List UInt8) : Option (List UInt8) :=
  if l = [] then none else if l.any badS then none else
  if numLabel ((labels (Lib.toLowerA l)).getLastD []) then (ip4 (labels (Lib.toLowerA l))).map (fun a => tell4 a.toNat) else some (Lib.toLowerA l)
theorem good_ascii : ∀ c : Fin 256, holdsB 0 c.val = false → c.val < 128 := by decide +kernel
theorem good_ascii' (c : UInt8) (h : badS c = false) : c.toNat < 128 := by
  have h2 : holdsB 0 c.toNat = false := by
    unfold badS at h
    exact (Bool.or_eq_false_iff.1 h).2
  exact good_ascii ⟨c.toNat, c.toNat_lt⟩ h2
theorem splitOn_len (c : UInt8) : ∀ l : List UInt8, (splitOn c l).length ≤ l.length + 1
  | [] => by simp [splitOn]
  | b :: l => by
    have := splitOn_len c l
    unfold splitOn
    split
    · simp; omega
    · split
      · rename_i x xs h; rw [h] at this; simp at this ⊢; omega
      · simp
end Go.Moor
namespace Go.Moor
open Go
abbrev Bs := List UInt8
def isLetter (c : UInt8) : Bool := (decide (65 ≤ c.toNat) && decide (c.toNat ≤ 90)) || (decide (97 ≤ c.toNat) && decide (c.toNat ≤ 122))
def begLetter : Bs → Bool
  | [] => false
  | c :: _ => isLetter c
def cutB (c : UInt8) : Bs → Option (Bs × Bs)
  | [] => none
  | b :: l => if b = c then some ([], l) else (cutB c l).map fun p => (b :: p.1, p.2)
def lowDots : Bs → Bs
  | 37 :: 50 :: 69 :: l => 37 :: 50 :: 101 :: lowDots l
  | c :: l => c :: lowDots l
  | [] => []
def dots (p : Bs) : Nat :=
  let l := lowDots p
  if l = [46] ∨ l = [37, 50, 101] then 1
  else if l = [46, 46] ∨ l = [46, 37, 50, 101] ∨ l = [37, 50, 101, 46] ∨ l = [37, 50, 101, 37, 50, 101] then 2
  else 0
section
variable (H : Bs → Bool → Option Bs)
end
end Go.Moor
namespace Go.Moor
open Go
def smallB (c : UInt8) : Prop := 97 ≤ c.toNat ∧ c.toNat ≤ 122
def wordB (l : Bs) : Prop := l ≠ [] ∧ ∀ c ∈ l, smallB c
end Go.Moor
namespace Go.Moor
open Go
def greatB (c : UInt8) : Prop := 65 ≤ c.toNat ∧ c.toNat ≤ 90
section
variable (H : Bs → Bool → Option Bs)
end
end Go.Moor
namespace Go.Moor
open Go
theorem of_toNat (c : UInt8) (k : Nat) (h : c.toNat = k) : c = k.toUInt8 := by
  subst h
  simp
end Go.Moor
namespace Go.Moor
open Go
theorem cutB_inv (c : UInt8) : ∀ (t : Bs), match cutB c t with | some (a, b) => t = a ++ c :: b ∧ ∀ x ∈ a, x ≠ c | none => ∀ x ∈ t, x ≠ c
  | [] => fun x hx => by cases hx
  | d :: t => by
    have ih := cutB_inv c t
    by_cases hd : d = c
    · rw [cutB, if_pos hd]
      subst hd
      exact ⟨rfl, fun x hx => by cases hx⟩
    · rw [cutB, if_neg hd]
      cases hc : cutB c t with
      | none =>
        rw [hc] at ih
        intro x hx
        rcases List.mem_cons.1 hx with rfl | hx
        · exact hd
        · exact ih x hx
      | some p =>
        obtain ⟨a, b⟩ := p
        rw [hc] at ih
        refine ⟨by rw [ih.1]; rfl, fun x hx => ?_⟩
        rcases List.mem_cons.1 hx with rfl | hx
        · exact hd
        · exact ih.2 x hx
section
variable (H : Bs → Bool → Option Bs)
end
end Go.Moor
namespace Go.Moor
open Go
def hexL (n : Nat) : UInt8 := if n < 10 then (48 + n).toUInt8 else (87 + n).toUInt8
def digsF (b : Nat) : Nat → Nat → List UInt8
  | 0, n => [hexL n]
  | k + 1, n => if n < b then [hexL n] else digsF b k (n / b) ++ [hexL (n % b)]
theorem anyBase_oct' (m : Int) (c : UInt8) (l : List UInt8) (h : c ≠ 120) : anyBase m (48 :: c :: l) = digAcc 8 m 0 (c :: l) := by
  unfold anyBase
  split
  · rename_i h'; simp at h'
  · rename_i h'; simp at h'; exact absurd h'.1 h
  · rename_i _ h'; simp at h'; rw [h'.1, h'.2]
  · rename_i h1 h2; exact absurd rfl (h2 c l)
theorem anyBase_dec' (m : Int) (c : UInt8) (l : List UInt8) (h : c ≠ 48 ∨ l = []) : anyBase m (c :: l) = digAcc 10 m 0 (c :: l) := by
  unfold anyBase
  split
  · rename_i h'; simp at h'
  · rename_i h'
    simp at h'
    rcases h with h | h
    · exact absurd h'.1 h
    · rw [h] at h'; simp at h'
  · rename_i _ h'
    simp at h'
    rcases h with h | h
    · exact absurd h'.1 h
    · rw [h] at h'; simp at h'
  · rfl
theorem digs_dec : ∀ (k n : Nat), n < 10 ^ (k + 1) → digsF 10 k n = Lib.decDigits n
  | 0, n, h => by
    have h' : n < 10 := by simpa using h
    rw [Lib.decDigits_one h']
    simp [digsF, hexL, h']
  | k + 1, n, h => by
    unfold digsF
    split
    · rename_i h'
      rw [Lib.decDigits_one h']
      simp [hexL, h']
    · rename_i h'
      have hq : n / 10 < 10 ^ (k + 1) := by
        rw [Nat.div_lt_iff_lt_mul (by omega)]
        rwa [Nat.pow_succ] at h
      rw [Lib.decDigits, dif_neg h', digs_dec k (n / 10) hq]
      have : n % 10 < 10 := Nat.mod_lt _ (by omega)
      simp [hexL, this]
theorem digs_len (b : Nat) : ∀ (k n : Nat), (digsF b k n).length ≤ k + 1
  | 0, n => by simp [digsF]
  | k + 1, n => by
    have := digs_len b k (n / b)
    unfold digsF
    split
    · simp
    · simp; omega
end Go.Moor
