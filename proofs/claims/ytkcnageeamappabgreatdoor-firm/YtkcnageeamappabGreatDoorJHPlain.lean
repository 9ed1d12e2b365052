/-
  Plain functions on lists of bytes: what a set of bytes has, what it is to escape and to unescape a text, and the laws on them that the walks use; no program is named here.
-/
import Derived.Lib.IndexMore
import Derived.Lib.IndexBytes
import Derived.Lib.UnsafeStr
import Derived.Laws.Entries
import Derived.KernelRfl
import Derived.Lib.Case
import Derived.Lib.SplitLaws
import Derived.Laws.BitsAllLaws
import Derived.Lib.ItoaNum
import Derived.Lib.Join
namespace Go.Moor
open Go

/-- The table of the seven sets, four words each, as the program's text lays it. -/
def tab : List Int := [4294967295, 9223372036854775808, 18446744073709551615, 18446744073709551615, 5764607548804038655, 9223372041149743104, 18446744073709551615, 18446744073709551615, 5764607583163777023, 9223372036854775808, 18446744073709551615, 18446744073709551615, 5764608132919590911, 9223372036854775808, 18446744073709551615, 18446744073709551615, 14987979620018552831, 12105675803740602368, 18446744073709551615, 18446744073709551615, 18158654495175737343, 13258597309286973441, 18446744073709551615, 18446744073709551615, 18158681364491141119, 13258597309286973441, 18446744073709551615, 18446744073709551615]
def tabAt (k : Nat) : Int := tab.getD k 0

/-- Has set s the byte b? -/
def holdsB (s b : Int) : Bool := (decide (0 ≤ s) && decide (s < 7)) && (bits .and .u64 (tabAt (s.toNat * 4 + (b / 64).toNat) / 2 ^ (b % 64).toNat) 1 == 1)

def hexCap (n : Nat) : UInt8 := if n < 10 then (48 + n).toUInt8 else (55 + n).toUInt8

def escB (s : Int) (c : UInt8) : List UInt8 := if holdsB s c.toNat then [37, hexCap (c.toNat / 16), hexCap (c.toNat % 16)] else [c]

def esc (s : Int) (l : List UInt8) : List UInt8 := l.flatMap (escB s)

/-- What a byte counts for as a HEX, or 16. -/
def hexVal (b : Int) : Int := if 48 ≤ b ∧ b ≤ 57 then b - 48 else if 65 ≤ b ∧ b ≤ 70 then b - 55 else if 97 ≤ b ∧ b ≤ 102 then b - 87 else 16

def twoHex : List UInt8 → Bool
  | a :: b :: _ => decide (hexVal a.toNat < 16) && decide (hexVal b.toNat < 16)
  | _ => false

def pairB (a b : UInt8) : UInt8 := (16 * (hexVal a.toNat).toNat + (hexVal b.toNat).toNat).toUInt8

def unesc : List UInt8 → List UInt8
  | [] => []
  | c :: [] => [c]
  | c :: a :: [] => [c, a]
  | c :: a :: b :: r => if c = 37 then (if twoHex (a :: b :: r) then pairB a b :: unesc r else 37 :: unesc (a :: b :: r)) else c :: unesc (a :: b :: r)

theorem unesc_ne (c : UInt8) (l : List UInt8) (h : c ≠ 37) : unesc (c :: l) = c :: unesc l := by
  match l with
  | [] => simp [unesc]
  | [a] => simp [unesc]
  | a :: b :: r => rw [unesc, if_neg h]

theorem unesc_hex (a b : UInt8) (r : List UInt8) (h : twoHex (a :: b :: r) = true) : unesc (37 :: a :: b :: r) = pairB a b :: unesc r := by
  rw [unesc, if_pos rfl, if_pos h]

theorem unesc_not (l : List UInt8) (h : twoHex l = false) : unesc (37 :: l) = 37 :: unesc l := by
  match l with
  | [] => simp [unesc]
  | [a] => simp [unesc]
  | a :: b :: r => rw [unesc, if_pos rfl, if_neg (by simp [h])]

theorem unesc_app (p l : List UInt8) (h : ∀ c ∈ p, c ≠ 37) : unesc (p ++ l) = p ++ unesc l := by
  induction p with
  | nil => rfl
  | cons c p ih =>
    rw [List.cons_append, unesc_ne c _ (h c (by simp)), ih (fun x hx => h x (by simp [hx]))]
    rfl

theorem unesc_plain (p : List UInt8) (h : ∀ c ∈ p, c ≠ 37) : unesc p = p := by
  have := unesc_app p [] h
  simpa [unesc] using this

/-- What strings.Cut at a percent sign hands back: nothing found, or the two sides. -/
theorem indexByte_split (c : UInt8) : ∀ l : List UInt8, (Lib.indexByte l c = -1 ∧ ∀ x ∈ l, x ≠ c) ∨ ∃ p r, l = p ++ c :: r ∧ (∀ x ∈ p, x ≠ c) ∧ Lib.indexByte l c = (p.length : Int)
  | [] => Or.inl ⟨rfl, by simp⟩
  | b :: l => by
    by_cases hb : b = c
    · subst hb
      exact Or.inr ⟨[], l, rfl, by simp, by simp [Lib.indexByte]⟩
    · rcases indexByte_split c l with ⟨h1, h2⟩ | ⟨p, r, rfl, h2, h3⟩
      · refine Or.inl ⟨?_, ?_⟩
        · simp [Lib.indexByte, hb, h1]
        · intro x hx
          rcases List.mem_cons.1 hx with rfl | hx
          · exact hb
          · exact h2 x hx
      · refine Or.inr ⟨b :: p, r, rfl, ?_, ?_⟩
        · intro x hx
          rcases List.mem_cons.1 hx with rfl | hx
          · exact hb
          · exact h2 x hx
        · have : ¬ ((p.length : Int) = -1) := by omega
          simp [Lib.indexByte, hb, h3, this]

theorem cut_split (c : UInt8) (l : List UInt8) : (Lib.cut l [c] = (l, [], false) ∧ ∀ x ∈ l, x ≠ c) ∨ ∃ p r, l = p ++ c :: r ∧ (∀ x ∈ p, x ≠ c) ∧ Lib.cut l [c] = (p, r, true) := by
  rcases indexByte_split c l with ⟨h1, h2⟩ | ⟨p, r, hl, h2, h3⟩
  · refine Or.inl ⟨?_, h2⟩
    unfold Lib.cut
    rw [Lib.index_one, h1]; simp
  · refine Or.inr ⟨p, r, hl, h2, ?_⟩
    unfold Lib.cut
    rw [Lib.index_one, h3]
    subst hl
    simp

theorem hexVal_range (b : Int) : 0 ≤ hexVal b ∧ hexVal b ≤ 16 := by unfold hexVal; split; omega; split; omega; split <;> omega

/-- Every byte of the component set comes back from its escape. -/
theorem pair_back : ∀ c : Fin 256, pairB (hexCap (c.val / 16)) (hexCap (c.val % 16)) = c.val.toUInt8 ∧ hexVal (hexCap (c.val / 16)).toNat < 16 ∧ hexVal (hexCap (c.val % 16)).toNat < 16 := by decide +kernel
theorem pair_back' (c : UInt8) : pairB (hexCap (c.toNat / 16)) (hexCap (c.toNat % 16)) = c ∧ hexVal (hexCap (c.toNat / 16)).toNat < 16 ∧ hexVal (hexCap (c.toNat % 16)).toNat < 16 := by
  have h := pair_back ⟨c.toNat, c.toNat_lt⟩
  simpa using h

theorem unesc_escB (s : Int) (c : UInt8) (l : List UInt8) (h : holdsB s 37 = true) : unesc (escB s c ++ l) = c :: unesc l := by
  unfold escB
  split
  · obtain ⟨h1, h2, h3⟩ := pair_back' c
    show unesc (37 :: hexCap (c.toNat / 16) :: hexCap (c.toNat % 16) :: l) = _
    rw [unesc_hex _ _ _ (by simp [twoHex, h2, h3]), h1]
  · rename_i hn
    exact unesc_ne c l (fun e => hn (by subst e; simpa using h))

/-- What is escaped by a set that has the percent sign comes back. -/
theorem unesc_esc (s : Int) (h : holdsB s 37 = true) : ∀ l : List UInt8, unesc (esc s l) = l
  | [] => rfl
  | c :: l => by
    show unesc (escB s c ++ esc s l) = _
    rw [unesc_escB s c _ h, unesc_esc s h l]

theorem esc_none (s : Int) (h : s < 0 ∨ 7 ≤ s) (l : List UInt8) : esc s l = l := by
  induction l with
  | nil => rfl
  | cons c l ih =>
    show escB s c ++ esc s l = _
    have hn : holdsB s c.toNat = false := by
      unfold holdsB
      rcases h with h | h
      · have : decide (0 ≤ s) = false := by simpa using h
        simp [this]
      · have : decide (s < 7) = false := by simpa using h
        simp [this]
    rw [ih]
    simp [escB, hn]

theorem escB_len (s : Int) (c : UInt8) : (escB s c).length = 1 + 2 * (holdsB s c.toNat).toNat := by
  unfold escB
  split <;> rename_i h
  · simp [h]
  · simp [Bool.eq_false_iff.2 h]

def cnt (s : Int) (l : List UInt8) : Nat := (l.map fun c => (holdsB s c.toNat).toNat).sum

theorem esc_len (s : Int) : ∀ l : List UInt8, (esc s l).length = l.length + 2 * cnt s l
  | [] => rfl
  | c :: l => by
    show (escB s c ++ esc s l).length = _
    rw [List.length_append, escB_len, esc_len s l]
    simp [cnt]
    omega

theorem cnt_le (s : Int) : ∀ l : List UInt8, cnt s l ≤ l.length
  | [] => by simp [cnt]
  | c :: l => by
    have := cnt_le s l
    have hb : (holdsB s c.toNat).toNat ≤ 1 := by cases holdsB s c.toNat <;> simp
    simp [cnt] at this ⊢
    omega

theorem cnt_mono (s t : Int) (h : ∀ c : Fin 256, holdsB s c.val = true → holdsB t c.val = true) : ∀ l : List UInt8, cnt s l ≤ cnt t l
  | [] => by simp [cnt]
  | c :: l => by
    have := cnt_mono s t h l
    have hb : (holdsB s c.toNat).toNat ≤ (holdsB t c.toNat).toNat := by
      have hc := h ⟨c.toNat, c.toNat_lt⟩
      cases hs : holdsB s c.toNat
      · simp
      · rw [hc hs]; simp
    simp [cnt] at this ⊢
    omega

theorem sub02 : ∀ c : Fin 256, holdsB 0 c.val = true → holdsB 2 c.val = true := by decide +kernel
theorem sub24 : ∀ c : Fin 256, holdsB 2 c.val = true → holdsB 4 c.val = true := by decide +kernel
theorem sub45 : ∀ c : Fin 256, holdsB 4 c.val = true → holdsB 5 c.val = true := by decide +kernel
theorem sub56 : ∀ c : Fin 256, holdsB 5 c.val = true → holdsB 6 c.val = true := by decide +kernel
theorem has37 : holdsB 6 37 = true := by decide +kernel
theorem comp_plain : ∀ c : Fin 256, holdsB 6 c.val = false → (33 ≤ c.val ∧ c.val ≤ 126) := by decide +kernel
theorem caps_plain : ∀ n : Fin 16, 33 ≤ (hexCap n.val).toNat ∧ (hexCap n.val).toNat ≤ 126 := by decide +kernel
theorem plain_text : esc 6 [97, 122, 32, 65, 90, 48, 57, 45, 46, 95, 126] = [97, 122, 37, 50, 48, 65, 90, 48, 57, 45, 46, 95, 126] := by decide +kernel

theorem esc6_bytes : ∀ (l : List UInt8) (x : UInt8), x ∈ esc 6 l → 33 ≤ x.toNat ∧ x.toNat ≤ 126
  | [], x, h => by simp [esc] at h
  | c :: l, x, h => by
    have h' : x ∈ escB 6 c ∨ x ∈ esc 6 l := by
      have : x ∈ escB 6 c ++ esc 6 l := h
      exact List.mem_append.1 this
    rcases h' with h' | h'
    · unfold escB at h'
      split at h'
      · have hlt := c.toNat_lt
        have e1 := caps_plain ⟨c.toNat / 16, by omega⟩
        have e2 := caps_plain ⟨c.toNat % 16, by omega⟩
        simp only [List.mem_cons, List.not_mem_nil, or_false] at h'
        rcases h' with rfl | rfl | rfl
        · decide
        · exact e1
        · exact e2
      · rename_i hn
        simp only [List.mem_cons, List.not_mem_nil, or_false] at h'
        subst h'
        exact comp_plain ⟨x.toNat, x.toNat_lt⟩ (Bool.eq_false_iff.2 hn)
    · exact esc6_bytes l x h'

theorem esc_snoc (s : Int) (l : List UInt8) (c : UInt8) : esc s (l ++ [c]) = esc s l ++ escB s c := by
  simp [esc, List.flatMap_append]

theorem take_snoc (s : ByteArray) (k : Nat) (h : k < s.size) : s.data.toList.take (k + 1) = s.data.toList.take k ++ [s[k]] := by
  rw [List.take_succ_eq_append_getElem (by simpa using h)]; rfl

theorem size_mk (l : List UInt8) : (⟨l.toArray⟩ : ByteArray).size = l.length := by simp [ByteArray.size]

theorem or_fin : ∀ x y : Fin 16, IntKind.u8.wrap (bits .or .u64 (IntKind.u64.wrap ((x.val : Int) * 16)) (y.val : Int)) = ((16 * x.val + y.val).toUInt8.toNat : Int) := by decide +kernel
theorem or_pair (a b : UInt8) (l : List UInt8) (h : twoHex (a :: b :: l) = true) : IntKind.u8.wrap (bits .or .u64 (IntKind.u64.wrap (hexVal a.toNat * 16)) (hexVal b.toNat)) = ((pairB a b).toNat : Int) := by
  have h' : hexVal a.toNat < 16 ∧ hexVal b.toNat < 16 := by simpa [twoHex] using h
  have ra := hexVal_range a.toNat
  have rb := hexVal_range b.toNat
  have := or_fin ⟨(hexVal a.toNat).toNat, by omega⟩ ⟨(hexVal b.toNat).toNat, by omega⟩
  unfold pairB
  rw [← this]
  simp only [Int.toNat_of_nonneg ra.1, Int.toNat_of_nonneg rb.1]

theorem unesc_len : ∀ (n : Nat) (l : List UInt8), l.length ≤ n → (unesc l).length ≤ l.length
  | 0, l, h => by
    have : l = [] := List.length_eq_zero_iff.1 (by omega)
    subst this; simp [unesc]
  | n + 1, [], _ => by simp [unesc]
  | n + 1, c :: l, h => by
    by_cases hc : c = 37
    · subst hc
      by_cases ht : twoHex l = true
      · match l, ht, h with
        | a :: b :: r, ht, h =>
          rw [unesc_hex a b r ht]
          have := unesc_len n r (by simp at h; omega)
          simp; omega
      · rw [unesc_not l (Bool.eq_false_iff.2 ht)]
        have := unesc_len n l (by simp at h; omega)
        simp; omega
    · rw [unesc_ne c l hc]
      have := unesc_len n l (by simp at h; omega)
      simp; omega
-- a set as four words
/-- Has a set of four words the byte b? -/
def wordsHold (ws : List Int) (b : Int) : Bool := bits .and .u64 (ws.getD (b / 64).toNat 0 / 2 ^ (b % 64).toNat) 1 == 1
def escW1 (ws : List Int) (c : UInt8) : List UInt8 := if wordsHold ws c.toNat then [37, hexCap (c.toNat / 16), hexCap (c.toNat % 16)] else [c]
def escW (ws : List Int) (l : List UInt8) : List UInt8 := l.flatMap (escW1 ws)
def setWs (s : Int) : List Int := if 0 ≤ s ∧ s < 7 then [tabAt (s.toNat * 4), tabAt (s.toNat * 4 + 1), tabAt (s.toNat * 4 + 2), tabAt (s.toNat * 4 + 3)] else [0, 0, 0, 0]
theorem holds_ws (s : Int) (c : UInt8) : wordsHold (setWs s) c.toNat = holdsB s c.toNat := by
  have hc := c.toNat_lt
  have hq : ((c.toNat : Int) / 64).toNat = 0 ∨ ((c.toNat : Int) / 64).toNat = 1 ∨ ((c.toNat : Int) / 64).toNat = 2 ∨ ((c.toNat : Int) / 64).toNat = 3 := by omega
  unfold wordsHold setWs holdsB
  by_cases h : 0 ≤ s ∧ s < 7
  · have e1 : decide (0 ≤ s) = true := decide_eq_true h.1
    have e2 : decide (s < 7) = true := decide_eq_true h.2
    rw [if_pos h, e1, e2, Bool.and_self, Bool.true_and]
    rcases hq with hq | hq | hq | hq <;> rw [hq] <;> rfl
  · rw [if_neg h]
    have e : (decide (0 ≤ s) && decide (s < 7)) = false := by
      by_cases h0 : 0 ≤ s
      · have : ¬ s < 7 := fun h7 => h ⟨h0, h7⟩
        simp [this]
      · simp [h0]
    rw [e, Bool.false_and]
    have z : ([0, 0, 0, 0] : List Int).getD ((c.toNat : Int) / 64).toNat 0 = 0 := by rcases hq with hq | hq | hq | hq <;> rw [hq] <;> rfl
    rw [z, Int.zero_ediv]
    decide
theorem esc_ws (s : Int) (l : List UInt8) : escW (setWs s) l = esc s l := by
  have : escW1 (setWs s) = escB s := by
    funext c
    unfold escW1 escB
    rw [holds_ws]
  unfold escW esc
  rw [this]
theorem escW_snoc (ws : List Int) (l : List UInt8) (c : UInt8) : escW ws (l ++ [c]) = escW ws l ++ escW1 ws c := by
  simp [escW, List.flatMap_append]
theorem escW_len (ws : List Int) : ∀ l : List UInt8, (escW ws l).length ≤ 3 * l.length
  | [] => by simp [escW]
  | c :: l => by
    have := escW_len ws l
    have h1 : (escW1 ws c).length ≤ 3 := by unfold escW1; split <;> simp
    show (escW1 ws c ++ escW ws l).length ≤ _
    rw [List.length_append, List.length_cons]
    omega
end Go.Moor
/-
  Plain functions on lists of bytes: numbers by a base, labels, the four bytes of an IP4, what is told of a host; no program is named here.
-/
namespace Go.Moor
open Go

/-- Digits by a base, none above the most. -/
def digAcc (base most : Int) : Int → List UInt8 → Option Int
  | n, [] => some n
  | n, c :: l => if hexVal c.toNat < base then (if n * base + hexVal c.toNat ≤ most then digAcc base most (n * base + hexVal c.toNat) l else none) else none

def anyBase (most : Int) : List UInt8 → Option Int
  | [] => none
  | 48 :: 120 :: l => digAcc 16 most 0 l
  | 48 :: c :: l => digAcc 8 most 0 (c :: l)
  | l => digAcc 10 most 0 l

theorem digAcc_range (base most : Int) (hb : 0 ≤ base) : ∀ (l : List UInt8) (n m : Int), 0 ≤ n → n ≤ most → digAcc base most n l = some m → 0 ≤ m ∧ m ≤ most
  | [], n, m, h0, h1, h => by simp only [digAcc, Option.some.injEq] at h; omega
  | c :: l, n, m, h0, h1, h => by
    simp only [digAcc] at h
    split at h
    · split at h
      · rename_i h3
        have hv := (hexVal_range c.toNat).1
        have hm : 0 ≤ n * base := Int.mul_nonneg h0 hb
        exact digAcc_range base most hb l _ m (by omega) h3 h
      · simp at h
    · simp at h

/-- Split by a byte. -/
def splitOn (c : UInt8) : List UInt8 → List (List UInt8)
  | [] => [[]]
  | b :: l => if b = c then [] :: splitOn c l else (match splitOn c l with | x :: xs => (b :: x) :: xs | [] => [[b]])

theorem splitOn_ne (c : UInt8) : ∀ l : List UInt8, splitOn c l ≠ []
  | [] => by simp [splitOn]
  | b :: l => by
    unfold splitOn
    split
    · simp
    · split <;> simp

theorem splitOn_miss (c : UInt8) : ∀ l : List UInt8, (∀ x ∈ l, x ≠ c) → splitOn c l = [l]
  | [], _ => rfl
  | b :: l, h => by
    unfold splitOn
    rw [if_neg (h b (by simp)), splitOn_miss c l (fun x hx => h x (by simp [hx]))]

theorem splitOn_hit (c : UInt8) (r : List UInt8) : ∀ p : List UInt8, (∀ x ∈ p, x ≠ c) → splitOn c (p ++ c :: r) = p :: splitOn c r
  | [], _ => by simp [splitOn]
  | b :: p, h => by
    show splitOn c (b :: (p ++ c :: r)) = _
    rw [splitOn, if_neg (h b (by simp)), splitOn_hit c r p (fun x hx => h x (by simp [hx]))]

theorem splitK_eq (c : UInt8) : ∀ (k : Nat) (l : List UInt8), l.count c = k → Lib.splitK [c] 0 k l = splitOn c l
  | 0, l, h => by
    rw [splitOn_miss c l (fun x hx e => by subst e; exact absurd h (by have := List.count_pos_iff.2 hx; omega))]
    rfl
  | k + 1, l, h => by
    rcases indexByte_split c l with ⟨_, hno⟩ | ⟨p, r, rfl, hno, hi⟩
    · rw [List.count_eq_zero_of_not_mem (fun hm => hno c hm rfl)] at h
      omega
    · rw [splitOn_hit c r p hno]
      unfold Lib.splitK
      rw [Lib.index_one, hi]
      have hc : List.count c p = 0 := List.count_eq_zero_of_not_mem (fun hm => hno c hm rfl)
      have hr : List.count c r = k := by
        rw [List.count_append, hc, List.count_cons_self] at h
        omega
      have e1 : ((p.length : Int) == -1) = false := beq_eq_false_iff_ne.2 (by omega)
      rw [e1]
      simp only [Bool.false_eq_true, if_false, Int.toNat_natCast, Nat.add_zero, List.take_left, List.length_singleton]
      rw [show List.drop (p.length + 1) (p ++ c :: r) = r by simp, splitK_eq c k r hr]

/-- The labels of a host: split by dots; one empty label at the end counts for nothing, if there are more. -/
def labels (l : List UInt8) : List (List UInt8) :=
  if 1 < (splitOn 46 l).length ∧ (splitOn 46 l).getLast? = some [] then (splitOn 46 l).dropLast else splitOn 46 l

theorem labels_ne (l : List UInt8) : labels l ≠ [] := by
  unfold labels
  split
  · rename_i h
    intro e
    have := congrArg List.length e
    simp at this
    omega
  · exact splitOn_ne 46 l

theorem splitOn_mem (c : UInt8) : ∀ (l : List UInt8) (x : List UInt8), x ∈ splitOn c l → x.length ≤ l.length
  | [], x, h => by simp [splitOn] at h; simp [h]
  | b :: l, x, h => by
    unfold splitOn at h
    split at h
    · rcases List.mem_cons.1 h with rfl | h
      · simp
      · have := splitOn_mem c l x h; simp; omega
    · split at h
      · rename_i y ys he
        rcases List.mem_cons.1 h with rfl | h
        · have := splitOn_mem c l y (by rw [he]; simp); simp; omega
        · have := splitOn_mem c l x (by rw [he]; simp [h]); simp; omega
      · simp at h; simp [h]

theorem labels_mem (l x : List UInt8) (h : x ∈ labels l) : x.length ≤ l.length := by
  unfold labels at h
  split at h
  · exact splitOn_mem 46 l x (List.dropLast_subset _ h)
  · exact splitOn_mem 46 l x h

def allB (base : Int) (l : List UInt8) : Bool := l.all fun c => decide (hexVal c.toNat < base)

/-- A last label that makes it a number's host. -/
def numLabel (l : List UInt8) : Bool :=
  if Lib.hasPrefix l [48, 120] then allB 16 (l.drop 2) else !l.isEmpty && allB 10 l

theorem anyBase_range (most : Int) (h0 : 0 ≤ most) (l : List UInt8) (m : Int) (h : anyBase most l = some m) : 0 ≤ m ∧ m ≤ most := by
  unfold anyBase at h
  split at h
  · simp at h
  · exact digAcc_range 16 most (by omega) _ 0 m (by omega) h0 h
  · exact digAcc_range 8 most (by omega) _ 0 m (by omega) h0 h
  · exact digAcc_range 10 most (by omega) _ 0 m (by omega) h0 h

/-- All labels but the last one: each at most 255, the first bytes. -/
def front : Int → List (List UInt8) → Option Int
  | a, [] => some a
  | a, x :: xs => match anyBase 255 x with | some n => front (a * 256 + n) xs | none => none

/-- The number of an IP4 by its labels. -/
def ip4 (ls : List (List UInt8)) : Option Int :=
  if 4 < ls.length then none else
  match front 0 ls.dropLast with
  | none => none
  | some a => match anyBase (2 ^ (8 * (5 - ls.length)) - 1) (ls.getLastD []) with
    | none => none
    | some n => some (a * 2 ^ (8 * (5 - ls.length)) + n)

theorem or_join_nat (A M i p : Nat) (hp : 2 ^ i = p) (hA : A < 16777216) (hp1 : p ≤ 4294967296) (hM : M < p) : bits .or .u64 ((A * p : Nat) : Int) (M : Int) = ((A * p + M : Nat) : Int) := by
  have hX : A * p ≤ 16777216 * 4294967296 := Nat.mul_le_mul (by omega) hp1
  rw [u64_or_nat (A * p) M (by omega) (by omega), nat_join i (A * p) M (by rw [hp]; exact Nat.mul_mod_left _ _) (by rw [hp]; exact hM)]

theorem or_join (a n : Int) (i p : Nat) (hp : 2 ^ i = p) (hp1 : p ≤ 4294967296) (ha0 : 0 ≤ a) (ha1 : a < 16777216) (hn0 : 0 ≤ n) (hn1 : n < p) : bits .or .u64 (a * p) n = a * p + n := by
  obtain ⟨A, rfl⟩ := Int.eq_ofNat_of_zero_le ha0
  obtain ⟨M, rfl⟩ := Int.eq_ofNat_of_zero_le hn0
  have := or_join_nat A M i p hp (by omega) hp1 (by omega)
  rw [Int.natCast_mul, Int.natCast_add, Int.natCast_mul] at this
  exact this

theorem front_range : ∀ (xs : List (List UInt8)) (a m : Int), 0 ≤ a → front a xs = some m → 0 ≤ m ∧ m < (a + 1) * 256 ^ xs.length
  | [], a, m, h0, h => by simp only [front, Option.some.injEq] at h; subst h; simp; omega
  | x :: xs, a, m, h0, h => by
    unfold front at h
    split at h
    · rename_i n hn
      have hr := anyBase_range 255 (by omega) x n hn
      have := front_range xs (a * 256 + n) m (by omega) h
      refine ⟨this.1, Int.lt_of_lt_of_le this.2 ?_⟩
      rw [List.length_cons, Int.pow_succ]
      have hpos : (0 : Int) ≤ 256 ^ xs.length := Int.pow_nonneg (by decide)
      have : (a * 256 + n + 1) * 256 ^ xs.length ≤ ((a + 1) * 256) * 256 ^ xs.length := Int.mul_le_mul_of_nonneg_right (by omega) hpos
      rw [Int.mul_assoc, Int.mul_comm 256 (256 ^ xs.length)] at this
      exact this
    · simp at h

/-- The j-th byte of a number of 32 bits. -/
def byte4 (a j : Nat) : Nat := a / 2 ^ (24 - 8 * j) % 256
theorem byte4_lt (a j : Nat) : byte4 a j < 256 := Nat.mod_lt _ (by omega)
/-- An IP4, told. -/
def tell4 (a : Nat) : List UInt8 := Lib.join [Lib.decDigits (byte4 a 0), Lib.decDigits (byte4 a 1), Lib.decDigits (byte4 a 2), Lib.decDigits (byte4 a 3)] [46]

theorem and_byte (a k : Nat) (ha : a < 4294967296) : bits .and .u64 ((a : Int) / 2 ^ k) 255 = ((a / 2 ^ k % 256 : Nat) : Int) := by
  have e : (a : Int) / 2 ^ k = ((a / 2 ^ k : Nat) : Int) := by
    rw [Int.natCast_ediv, Int.natCast_pow]; rfl
  have hlt : a / 2 ^ k ≤ a := Nat.div_le_self _ _
  rw [e, show (255 : Int) = ((255 : Nat) : Int) from rfl, u64_and_nat (a / 2 ^ k) 255 (by omega) (by omega), show (255 : Nat) = 2 ^ 8 - 1 from rfl, Nat.and_two_pow_sub_one_eq_mod]

theorem dec_len (u : Nat) (h : u < 256) : (Lib.decDigits u).length ≤ 3 := by
  rw [Lib.decDigits_length]
  by_cases h1 : u < 10
  · rw [Lib.nDigits_small h1]; omega
  · rw [Lib.nDigits_big h1]
    by_cases h2 : u / 10 < 10
    · rw [Lib.nDigits_small h2]; omega
    · rw [Lib.nDigits_big h2, Lib.nDigits_small (by omega)]; omega

theorem tell4_eq (a : Nat) : tell4 a = Lib.decDigits (byte4 a 0) ++ 46 :: (Lib.decDigits (byte4 a 1) ++ 46 :: (Lib.decDigits (byte4 a 2) ++ 46 :: Lib.decDigits (byte4 a 3))) := by
  unfold tell4
  rw [Lib.join_cons]
  simp [Lib.joinTail]

theorem tell4_len (a : Nat) : (tell4 a).length ≤ 15 := by
  have h0 := dec_len _ (byte4_lt a 0)
  have h1 := dec_len _ (byte4_lt a 1)
  have h2 := dec_len _ (byte4_lt a 2)
  have h3 := dec_len _ (byte4_lt a 3)
  rw [tell4_eq]
  simp only [List.length_append, List.length_cons]
  omega

theorem ip4_range (ls : List (List UInt8)) (n : Int) (hne : ls ≠ []) (h : ip4 ls = some n) : 0 ≤ n ∧ n < 4294967296 := by
  unfold ip4 at h
  split at h
  · simp at h
  · rename_i h4
    split at h
    · simp at h
    · rename_i a ha
      split at h
      · simp at h
      · rename_i m hm
        simp only [Option.some.injEq] at h
        subst h
        have hlen : 1 ≤ ls.length := by cases ls with | nil => exact absurd rfl hne | cons x xs => simp
        have hf := front_range _ _ _ (by omega) ha
        rw [List.length_dropLast] at hf
        have hk : ls.length = 1 ∨ ls.length = 2 ∨ ls.length = 3 ∨ ls.length = 4 := by omega
        rcases hk with hk | hk | hk | hk
        · rw [hk] at hf hm ⊢
          have hr := anyBase_range _ (by decide) _ _ hm
          have e1 : (2 : Int) ^ (8 * (5 - 1)) = 4294967296 := by decide
          have e2 : ((0 : Int) + 1) * 256 ^ (1 - 1) = 1 := by decide
          rw [e1] at hr ⊢; rw [e2] at hf
          omega
        · rw [hk] at hf hm ⊢
          have hr := anyBase_range _ (by decide) _ _ hm
          have e1 : (2 : Int) ^ (8 * (5 - 2)) = 16777216 := by decide
          have e2 : ((0 : Int) + 1) * 256 ^ (2 - 1) = 256 := by decide
          rw [e1] at hr ⊢; rw [e2] at hf
          omega
        · rw [hk] at hf hm ⊢
          have hr := anyBase_range _ (by decide) _ _ hm
          have e1 : (2 : Int) ^ (8 * (5 - 3)) = 65536 := by decide
          have e2 : ((0 : Int) + 1) * 256 ^ (3 - 1) = 65536 := by decide
          rw [e1] at hr ⊢; rw [e2] at hf
          omega
        · rw [hk] at hf hm ⊢
          have hr := anyBase_range _ (by decide) _ _ hm
          have e1 : (2 : Int) ^ (8 * (5 - 4)) = 256 := by decide
          have e2 : ((0 : Int) + 1) * 256 ^ (4 - 1) = 16777216 := by decide
          rw [e1] at hr ⊢; rw [e2] at hf
          omega

def forbS : List UInt8 := [0, 9, 10, 13, 32, 35, 47, 58, 60, 62, 63, 64, 91, 92, 93, 94, 124, 37]

/-- A byte that a host of a special scheme can't have. -/
def badS (c : UInt8) : Bool := decide (0 ≤ Lib.indexByte forbS c) || holdsB 0 c.toNat

/-- A host of a special scheme, unescaped: told, or none. -/
def hostSpecial (l : List UInt8) : Option (List UInt8) :=
  if l = [] then none else if l.any badS then none else
  if numLabel ((labels (Lib.toLowerA l)).getLastD []) then (ip4 (labels (Lib.toLowerA l))).map (fun a => tell4 a.toNat) else some (Lib.toLowerA l)

theorem good_ascii : ∀ c : Fin 256, holdsB 0 c.val = false → c.val < 128 := by decide +kernel
theorem good_ascii' (c : UInt8) (h : badS c = false) : c.toNat < 128 := by
  have h2 : holdsB 0 c.toNat = false := by
    unfold badS at h
    exact (Bool.or_eq_false_iff.1 h).2
  exact good_ascii ⟨c.toNat, c.toNat_lt⟩ h2
theorem splitOn_len (c : UInt8) : ∀ l : List UInt8, (splitOn c l).length ≤ l.length + 1
  | [] => by simp [splitOn]
  | b :: l => by
    have := splitOn_len c l
    unfold splitOn
    split
    · simp; omega
    · split
      · rename_i x xs h; rw [h] at this; simp at this ⊢; omega
      · simp
end Go.Moor
