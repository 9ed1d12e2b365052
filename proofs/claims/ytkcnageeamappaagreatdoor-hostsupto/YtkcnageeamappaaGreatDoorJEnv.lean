/-
  What escape.Undo answers: the text, each escape of it become its byte; nothing that was in memory turns.
-/
import Derived.Test.YtkcnageeamappaaGreatDoorJText
import Derived.Test.YtkcnageeamappaaGreatDoorJWalks
import Derived.Lib.Case
import Derived.Lib.SplitLaws
import Derived.Laws.BitsAllLaws
import Derived.Lib.ItoaNum
import Derived.Lib.Join
import Derived.Lib.LaidTab
namespace Go.Proofs
open Go.RowKit Go.Moor

def strLen : Value → Nat | .string s => s.size | _ => 0
theorem Tryz.maxLen_below {w w' : World} {m : Int} (h : w.cell? ⟨16, 0, none⟩ = some (.int .i64 m)) (hb : Below w.heap.size w w') (hz : 16 < w.heap.size) : w'.cell? ⟨16, 0, none⟩ = some (.int .i64 m) := by
  rw [hb.cell (p := ⟨16, 0, none⟩) hz]
  exact h

theorem Tryz.bytes_ext (x y : ByteArray) (h : x.data.toList = y.data.toList) : x = y := by
  cases x; cases y
  simp only [ByteArray.mk.injEq]
  exact Array.toList_inj.1 h
theorem Tryz.drop2 (a b : UInt8) (r : List UInt8) : (⟨(a :: b :: r).toArray⟩ : ByteArray).extract 2 (r.length + 1 + 1) = ⟨r.toArray⟩ := by
  apply Tryz.bytes_ext
  rw [Lib.extract_data]
  simp

theorem Tryz.value_byte (c : UInt8) (w : World) :
    Calls Tryz.prog 115 #[.int .u8 c.toNat] w fun e w' => e = .returned (.int .u64 (hexVal c.toNat)) ∧ w' = w := by
  have := c.toNat_lt
  exact Tryz.value_any _ w (by omega) (by omega)

theorem Tryz.cut_hit (l p r : List UInt8) (m : Int) (w : World) (hl : Lib.cut l [37] = (p, r, true)) (hs : l.length < 4294967281) (hm : w.cell? ⟨16, 0, none⟩ = some (.int .i64 m)) :
    Calls Tryz.prog 112 #[.string ⟨l.toArray⟩, .string ⟨#[37]⟩] w fun e w' => e = .returned (.tuple #[.string ⟨p.toArray⟩, .string ⟨r.toArray⟩, .bool true]) ∧ ∃ n, w' = w.drewN n := by
  refine (Tryz.strings_Cut ⟨l.toArray⟩ ⟨#[37]⟩ m w (by rw [size_mk]; exact hs) hm).mono ?_
  rintro e w' ⟨rfl, n, rfl⟩
  refine ⟨?_, n, rfl⟩
  have e1 : Lib.cut (⟨l.toArray⟩ : ByteArray).data.toList (⟨#[37]⟩ : ByteArray).data.toList = (p, r, true) := by simpa using hl
  rw [e1]

theorem Tryz.cut_miss (l : List UInt8) (m : Int) (w : World) (hl : Lib.cut l [37] = (l, [], false)) (hs : l.length < 4294967281) (hm : w.cell? ⟨16, 0, none⟩ = some (.int .i64 m)) :
    Calls Tryz.prog 112 #[.string ⟨l.toArray⟩, .string ⟨#[37]⟩] w fun e w' => e = .returned (.tuple #[.string ⟨l.toArray⟩, .string ⟨#[]⟩, .bool false]) ∧ ∃ n, w' = w.drewN n := by
  refine (Tryz.strings_Cut ⟨l.toArray⟩ ⟨#[37]⟩ m w (by rw [size_mk]; exact hs) hm).mono ?_
  rintro e w' ⟨rfl, n, rfl⟩
  refine ⟨?_, n, rfl⟩
  have e1 : Lib.cut (⟨l.toArray⟩ : ByteArray).data.toList (⟨#[37]⟩ : ByteArray).data.toList = (l, [], false) := by simpa using hl
  rw [e1]

set_option maxHeartbeats 2000000 in
theorem Tryz.undo_any (s : ByteArray) (m : Int) (w : World) (hs : s.size < 4294967281) (hm : w.cell? ⟨16, 0, none⟩ = some (.int .i64 m)) (hz : 16 < w.heap.size) :
    Calls Tryz.prog 65 #[.string s] w fun e w' => e = .returned (.string ⟨(unesc s.data.toList).toArray⟩) ∧ Below w.heap.size w w' := by
  have HM : Hid (w.cell? ⟨16, 0, none⟩ = some (.int .i64 m)) := hm
  clear hm
  go_enter Tryz.func65, Tryz.ntmps65
  go_wp2
  go_loopw [0] (fun t wr => ∃ (r acc : List UInt8), t = .string ⟨r.toArray⟩ ∧ acc ++ unesc r = unesc s.data.toList ∧ acc.length + r.length ≤ s.size ∧ Lib.IsBuilderF 142 5 w.heap.size w.heap.size (Lib.byteCells acc) wr ∧ Below w.heap.size w wr ∧ w.heap.size < wr.heap.size) (fun t _ => strLen t)
  case atStart =>
    exact ⟨s.data.toList, [], rfl, rfl, by simp, Lib.IsBuilderF.of (Lib.fresh_isBuilder 142 5 w), (Below.refl _ w).alloc (Nat.le_refl _) _, by simp⟩
  case round =>
    obtain ⟨r, acc, rfl, hun, hlen, hI, hbw, hsz⟩ := hrel
    have HU : Hid (acc ++ unesc r = unesc s.data.toList) := hun
    have HMr : Hid (wr.cell? ⟨16, 0, none⟩ = some (.int .i64 m)) := Tryz.maxLen_below HM.out hbw hz
    clear hun
    rcases cut_split 37 r with ⟨hc, hno⟩ | ⟨p, r2, hr, hno, hc⟩
    · have HC : Hid (Lib.cut r [37] = (r, [], false)) := hc
      have HN : Hid (∀ x ∈ r, x ≠ 37) := hno
      clear hc hno
      go_wp2_with fail
      refine (Tryz.cut_miss r m _ HC.out (by omega) HMr.out).mono ?_
      rintro e w1 ⟨rfl, nd, rfl⟩
      go_wp2_with fail
      refine (Tryz.Builder_WriteString_k w.heap.size w.heap.size _ _ (wr.drewN nd) hI (by rw [Lib.byteCells_length, size_mk]; omega) (by show _ ≤ wr.heap.size; omega)).mono ?_
      rintro e W1 ⟨rfl, h1, b1, _⟩
      have hI1 : Lib.IsBuilderF 142 5 w.heap.size w.heap.size (Lib.byteCells (acc ++ r)) W1 := by rw [Lib.byteCells_append]; exact Or.inr h1
      have hb1 := (Go.below_drewN hbw nd).trans b1
      have hz1 : w.heap.size < W1.heap.size := Nat.lt_of_lt_of_le hsz b1.size
      clear h1 b1
      go_wp2_with (go_at_call 97; refine (Tryz.Builder_String_any_k w.heap.size w.heap.size _ _ hI1 (by omega)).mono ?_)
      rintro e W2 ⟨rfl, _, b2, _⟩
      go_wp2
      go_ret
      have hf := HU.out
      rw [unesc_plain r HN.out] at hf
      rw [← hf]
      exact ⟨rfl, hb1.trans b2⟩
    · by_cases ht : twoHex r2 = true
      · obtain ⟨a, b, r3, rfl⟩ : ∃ a b r3, r2 = a :: b :: r3 := by
          match r2, ht with
          | a :: b :: r3, _ => exact ⟨a, b, r3, rfl⟩
        have ht2 : twoHex (a :: b :: r3) = true := ht
        clear ht
        have ha := a.toNat_lt
        have hb := b.toNat_lt
        have va := hexVal_range a.toNat
        have vb := hexVal_range b.toNat
        have HC : Hid (Lib.cut r [37] = (p, a :: b :: r3, true)) := hc
        have HN : Hid (∀ x ∈ p, x ≠ 37) := hno
        have HR : Hid (r = p ++ 37 :: a :: b :: r3) := hr
        have hpl : p.length + (a :: b :: r3).length + 1 = r.length := by rw [hr]; simp; omega
        have HP : Hid (p.length + (a :: b :: r3).length + 1 = r.length) := hpl
        clear hc hno hr hpl
        go_wp2_with fail
        refine (Tryz.cut_hit r p (a :: b :: r3) m _ HC.out (by omega) HMr.out).mono ?_
        rintro e w1 ⟨rfl, nd, rfl⟩
        go_wp2_with fail
        refine (Tryz.Builder_WriteString_k w.heap.size w.heap.size _ _ (wr.drewN nd) hI (by have := HP.out; rw [Lib.byteCells_length, size_mk]; omega) (by show _ ≤ wr.heap.size; omega)).mono ?_
        rintro e W1 ⟨rfl, h1, b1, _⟩
        have hI1 : Lib.IsBuilderF 142 5 w.heap.size w.heap.size (Lib.byteCells (acc ++ p)) W1 := by rw [Lib.byteCells_append]; exact Or.inr h1
        have hb1 := (Go.below_drewN hbw nd).trans b1
        have hz1 : w.heap.size < W1.heap.size := Nat.lt_of_lt_of_le hsz b1.size
        clear h1 b1
        go_wp2_with fail
        refine (Tryz.two_any ⟨(a :: b :: r3).toArray⟩ _ (by have := HP.out; rw [size_mk]; unfold maxLen; omega)).mono ?_
        rintro e W1' ⟨rfl, rfl⟩
        go_wp2_with fail
        have hI1d : Lib.IsBuilderF 142 5 w.heap.size w.heap.size (Lib.byteCells (acc ++ p)) W1'.drew := hI1
        have hz1d : w.heap.size ≤ W1'.drew.heap.size := by show _ ≤ W1'.heap.size; omega
        have hld : (Lib.byteCells (acc ++ p)).length + 1 ≤ 140737488355328 := by have := HP.out; rw [Lib.byteCells_length]; simp; omega
        go_region_with (first | (go_at_call 115; refine (Tryz.value_byte _ _).mono ?_; rintro e w' ⟨rfl, rfl⟩) | (go_at_call 114; refine (Tryz.Builder_WriteByte_k w.heap.size w.heap.size _ _ _ hI1d hld hz1d).mono ?_; rintro e W2 ⟨rfl, h2, b2, _⟩))
        all_goals
          have hI2 : Lib.IsBuilderF 142 5 w.heap.size w.heap.size (Lib.byteCells (acc ++ p ++ [pairB a b])) W2 := by
            rw [Lib.byteCells_append, Tryz.cells_one, ← or_pair a b r3 ht2]; exact Or.inr h2
          have hb2 := (Go.below_drewN hb1 1).trans b2
          have hz2 : w.heap.size < W2.heap.size := Nat.lt_of_lt_of_le hz1 b2.size
          clear h2 b2
          go_wp2
          go_roundw
          case rel =>
            refine ⟨r3, acc ++ p ++ [pairB a b], ?_, ?_, by have := HP.out; simp at this ⊢; omega, hI2, hb2, hz2⟩
            · rw [Tryz.drop2]
            · rw [← HU.out, HR.out, unesc_app p _ HN.out, unesc_hex a b r3 ht2]
              simp
          case measure => have := HP.out; rw [Tryz.drop2]; simp [strLen, size_mk] at this ⊢; omega
      · have ht' : twoHex r2 = false := Bool.eq_false_iff.2 ht
        clear ht
        have HC : Hid (Lib.cut r [37] = (p, r2, true)) := hc
        have HN : Hid (∀ x ∈ p, x ≠ 37) := hno
        have HR : Hid (r = p ++ 37 :: r2) := hr
        have hpl : p.length + (r2).length + 1 = r.length := by rw [hr]; simp; omega
        have HP : Hid (p.length + (r2).length + 1 = r.length) := hpl
        clear hc hno hr hpl
        go_wp2_with fail
        refine (Tryz.cut_hit r p (r2) m _ HC.out (by omega) HMr.out).mono ?_
        rintro e w1 ⟨rfl, nd, rfl⟩
        go_wp2_with fail
        refine (Tryz.Builder_WriteString_k w.heap.size w.heap.size _ _ (wr.drewN nd) hI (by have := HP.out; rw [Lib.byteCells_length, size_mk]; omega) (by show _ ≤ wr.heap.size; omega)).mono ?_
        rintro e W1 ⟨rfl, h1, b1, _⟩
        have hI1 : Lib.IsBuilderF 142 5 w.heap.size w.heap.size (Lib.byteCells (acc ++ p)) W1 := by rw [Lib.byteCells_append]; exact Or.inr h1
        have hb1 := (Go.below_drewN hbw nd).trans b1
        have hz1 : w.heap.size < W1.heap.size := Nat.lt_of_lt_of_le hsz b1.size
        clear h1 b1
        go_wp2_with fail
        refine (Tryz.two_any ⟨(r2).toArray⟩ _ (by have := HP.out; rw [size_mk]; unfold maxLen; omega)).mono ?_
        rintro e W1' ⟨rfl, rfl⟩
        go_wp2_with fail
        refine (Tryz.Builder_WriteByte_k w.heap.size w.heap.size _ _ _ hI1 (by have := HP.out; rw [Lib.byteCells_length]; simp; omega) (by omega)).mono ?_
        rintro e W2 ⟨rfl, h2, b2, _⟩
        have hI2 : Lib.IsBuilderF 142 5 w.heap.size w.heap.size (Lib.byteCells (acc ++ p ++ [37])) W2 := by rw [Lib.byteCells_append]; exact Or.inr h2
        have hb2 := hb1.trans b2
        have hz2 : w.heap.size < W2.heap.size := Nat.lt_of_lt_of_le hz1 b2.size
        clear h2 b2
        go_wp2
        go_roundw
        case rel =>
          refine ⟨r2, acc ++ p ++ [37], rfl, ?_, by have := HP.out; simp; omega, hI2, hb2, hz2⟩
          rw [← HU.out, HR.out, unesc_app p _ HN.out, unesc_not r2 ht']
          simp
        case measure => have := HP.out; simp [strLen, size_mk]; omega

set_option maxHeartbeats 400000 in
theorem Tryz.unescape_any (s : ByteArray) (m : Int) (w : World) (hs : s.size < 4294967281) (hm : w.cell? ⟨16, 0, none⟩ = some (.int .i64 m)) (hz : 16 < w.heap.size) :
    Calls Tryz.prog 41 #[.string s] w fun e w' => e = .returned (.string ⟨(unesc s.data.toList).toArray⟩) ∧ Below w.heap.size w w' := by
  have HM : Hid (w.cell? ⟨16, 0, none⟩ = some (.int .i64 m)) := hm
  clear hm
  go_enter Tryz.func41, Tryz.ntmps41
  go_wp2_with (go_at_call 65; refine (Tryz.undo_any _ m _ hs HM.out hz).mono ?_)
  rintro e w' ⟨rfl, hb⟩
  go_wp2
  go_ret
  exact ⟨rfl, hb⟩
end Go.Proofs
/-
  Plain functions on lists of bytes: numbers by a base, labels, the four bytes of an IP4, what is told of a host; no program is named here.
-/
namespace Go.Moor
open Go

/-- Digits by a base, none above the most. -/
def digAcc (base most : Int) : Int → List UInt8 → Option Int
  | n, [] => some n
  | n, c :: l => if hexVal c.toNat < base then (if n * base + hexVal c.toNat ≤ most then digAcc base most (n * base + hexVal c.toNat) l else none) else none

def anyBase (most : Int) : List UInt8 → Option Int
  | [] => none
  | 48 :: 120 :: l => digAcc 16 most 0 l
  | 48 :: c :: l => digAcc 8 most 0 (c :: l)
  | l => digAcc 10 most 0 l

theorem digAcc_range (base most : Int) (hb : 0 ≤ base) : ∀ (l : List UInt8) (n m : Int), 0 ≤ n → n ≤ most → digAcc base most n l = some m → 0 ≤ m ∧ m ≤ most
  | [], n, m, h0, h1, h => by simp only [digAcc, Option.some.injEq] at h; omega
  | c :: l, n, m, h0, h1, h => by
    simp only [digAcc] at h
    split at h
    · split at h
      · rename_i h3
        have hv := (hexVal_range c.toNat).1
        have hm : 0 ≤ n * base := Int.mul_nonneg h0 hb
        exact digAcc_range base most hb l _ m (by omega) h3 h
      · simp at h
    · simp at h

/-- Split by a byte. -/
def splitOn (c : UInt8) : List UInt8 → List (List UInt8)
  | [] => [[]]
  | b :: l => if b = c then [] :: splitOn c l else (match splitOn c l with | x :: xs => (b :: x) :: xs | [] => [[b]])

theorem splitOn_ne (c : UInt8) : ∀ l : List UInt8, splitOn c l ≠ []
  | [] => by simp [splitOn]
  | b :: l => by
    unfold splitOn
    split
    · simp
    · split <;> simp

theorem splitOn_miss (c : UInt8) : ∀ l : List UInt8, (∀ x ∈ l, x ≠ c) → splitOn c l = [l]
  | [], _ => rfl
  | b :: l, h => by
    unfold splitOn
    rw [if_neg (h b (by simp)), splitOn_miss c l (fun x hx => h x (by simp [hx]))]

theorem splitOn_hit (c : UInt8) (r : List UInt8) : ∀ p : List UInt8, (∀ x ∈ p, x ≠ c) → splitOn c (p ++ c :: r) = p :: splitOn c r
  | [], _ => by simp [splitOn]
  | b :: p, h => by
    show splitOn c (b :: (p ++ c :: r)) = _
    rw [splitOn, if_neg (h b (by simp)), splitOn_hit c r p (fun x hx => h x (by simp [hx]))]

theorem splitK_eq (c : UInt8) : ∀ (k : Nat) (l : List UInt8), l.count c = k → Lib.splitK [c] 0 k l = splitOn c l
  | 0, l, h => by
    rw [splitOn_miss c l (fun x hx e => by subst e; exact absurd h (by have := List.count_pos_iff.2 hx; omega))]
    rfl
  | k + 1, l, h => by
    rcases indexByte_split c l with ⟨_, hno⟩ | ⟨p, r, rfl, hno, hi⟩
    · rw [List.count_eq_zero_of_not_mem (fun hm => hno c hm rfl)] at h
      omega
    · rw [splitOn_hit c r p hno]
      unfold Lib.splitK
      rw [Lib.index_one, hi]
      have hc : List.count c p = 0 := List.count_eq_zero_of_not_mem (fun hm => hno c hm rfl)
      have hr : List.count c r = k := by
        rw [List.count_append, hc, List.count_cons_self] at h
        omega
      have e1 : ((p.length : Int) == -1) = false := beq_eq_false_iff_ne.2 (by omega)
      rw [e1]
      simp only [Bool.false_eq_true, if_false, Int.toNat_natCast, Nat.add_zero, List.take_left, List.length_singleton]
      rw [show List.drop (p.length + 1) (p ++ c :: r) = r by simp, splitK_eq c k r hr]

/-- The labels of a host: split by dots; one empty label at the end counts for nothing, if there are more. -/
def labels (l : List UInt8) : List (List UInt8) :=
  if 1 < (splitOn 46 l).length ∧ (splitOn 46 l).getLast? = some [] then (splitOn 46 l).dropLast else splitOn 46 l

theorem labels_ne (l : List UInt8) : labels l ≠ [] := by
  unfold labels
  split
  · rename_i h
    intro e
    have := congrArg List.length e
    simp at this
    omega
  · exact splitOn_ne 46 l

theorem splitOn_mem (c : UInt8) : ∀ (l : List UInt8) (x : List UInt8), x ∈ splitOn c l → x.length ≤ l.length
  | [], x, h => by simp [splitOn] at h; simp [h]
  | b :: l, x, h => by
    unfold splitOn at h
    split at h
    · rcases List.mem_cons.1 h with rfl | h
      · simp
      · have := splitOn_mem c l x h; simp; omega
    · split at h
      · rename_i y ys he
        rcases List.mem_cons.1 h with rfl | h
        · have := splitOn_mem c l y (by rw [he]; simp); simp; omega
        · have := splitOn_mem c l x (by rw [he]; simp [h]); simp; omega
      · simp at h; simp [h]

theorem labels_mem (l x : List UInt8) (h : x ∈ labels l) : x.length ≤ l.length := by
  unfold labels at h
  split at h
  · exact splitOn_mem 46 l x (List.dropLast_subset _ h)
  · exact splitOn_mem 46 l x h

def allB (base : Int) (l : List UInt8) : Bool := l.all fun c => decide (hexVal c.toNat < base)

/-- A last label that makes it a number's host. -/
def numLabel (l : List UInt8) : Bool :=
  if Lib.hasPrefix l [48, 120] then allB 16 (l.drop 2) else !l.isEmpty && allB 10 l

theorem anyBase_range (most : Int) (h0 : 0 ≤ most) (l : List UInt8) (m : Int) (h : anyBase most l = some m) : 0 ≤ m ∧ m ≤ most := by
  unfold anyBase at h
  split at h
  · simp at h
  · exact digAcc_range 16 most (by omega) _ 0 m (by omega) h0 h
  · exact digAcc_range 8 most (by omega) _ 0 m (by omega) h0 h
  · exact digAcc_range 10 most (by omega) _ 0 m (by omega) h0 h

/-- All labels but the last one: each at most 255, the first bytes. -/
def front : Int → List (List UInt8) → Option Int
  | a, [] => some a
  | a, x :: xs => match anyBase 255 x with | some n => front (a * 256 + n) xs | none => none

/-- The number of an IP4 by its labels. -/
def ip4 (ls : List (List UInt8)) : Option Int :=
  if 4 < ls.length then none else
  match front 0 ls.dropLast with
  | none => none
  | some a => match anyBase (2 ^ (8 * (5 - ls.length)) - 1) (ls.getLastD []) with
    | none => none
    | some n => some (a * 2 ^ (8 * (5 - ls.length)) + n)

theorem or_join_nat (A M i p : Nat) (hp : 2 ^ i = p) (hA : A < 16777216) (hp1 : p ≤ 4294967296) (hM : M < p) : bits .or .u64 ((A * p : Nat) : Int) (M : Int) = ((A * p + M : Nat) : Int) := by
  have hX : A * p ≤ 16777216 * 4294967296 := Nat.mul_le_mul (by omega) hp1
  rw [u64_or_nat (A * p) M (by omega) (by omega), nat_join i (A * p) M (by rw [hp]; exact Nat.mul_mod_left _ _) (by rw [hp]; exact hM)]

theorem or_join (a n : Int) (i p : Nat) (hp : 2 ^ i = p) (hp1 : p ≤ 4294967296) (ha0 : 0 ≤ a) (ha1 : a < 16777216) (hn0 : 0 ≤ n) (hn1 : n < p) : bits .or .u64 (a * p) n = a * p + n := by
  obtain ⟨A, rfl⟩ := Int.eq_ofNat_of_zero_le ha0
  obtain ⟨M, rfl⟩ := Int.eq_ofNat_of_zero_le hn0
  have := or_join_nat A M i p hp (by omega) hp1 (by omega)
  rw [Int.natCast_mul, Int.natCast_add, Int.natCast_mul] at this
  exact this

theorem front_range : ∀ (xs : List (List UInt8)) (a m : Int), 0 ≤ a → front a xs = some m → 0 ≤ m ∧ m < (a + 1) * 256 ^ xs.length
  | [], a, m, h0, h => by simp only [front, Option.some.injEq] at h; subst h; simp; omega
  | x :: xs, a, m, h0, h => by
    unfold front at h
    split at h
    · rename_i n hn
      have hr := anyBase_range 255 (by omega) x n hn
      have := front_range xs (a * 256 + n) m (by omega) h
      refine ⟨this.1, Int.lt_of_lt_of_le this.2 ?_⟩
      rw [List.length_cons, Int.pow_succ]
      have hpos : (0 : Int) ≤ 256 ^ xs.length := Int.pow_nonneg (by decide)
      have : (a * 256 + n + 1) * 256 ^ xs.length ≤ ((a + 1) * 256) * 256 ^ xs.length := Int.mul_le_mul_of_nonneg_right (by omega) hpos
      rw [Int.mul_assoc, Int.mul_comm 256 (256 ^ xs.length)] at this
      exact this
    · simp at h

/-- The j-th byte of a number of 32 bits. -/
def byte4 (a j : Nat) : Nat := a / 2 ^ (24 - 8 * j) % 256
theorem byte4_lt (a j : Nat) : byte4 a j < 256 := Nat.mod_lt _ (by omega)
/-- An IP4, told. -/
def tell4 (a : Nat) : List UInt8 := Lib.join [Lib.decDigits (byte4 a 0), Lib.decDigits (byte4 a 1), Lib.decDigits (byte4 a 2), Lib.decDigits (byte4 a 3)] [46]

theorem and_byte (a k : Nat) (ha : a < 4294967296) : bits .and .u64 ((a : Int) / 2 ^ k) 255 = ((a / 2 ^ k % 256 : Nat) : Int) := by
  have e : (a : Int) / 2 ^ k = ((a / 2 ^ k : Nat) : Int) := by
    rw [Int.natCast_ediv, Int.natCast_pow]; rfl
  have hlt : a / 2 ^ k ≤ a := Nat.div_le_self _ _
  rw [e, show (255 : Int) = ((255 : Nat) : Int) from rfl, u64_and_nat (a / 2 ^ k) 255 (by omega) (by omega), show (255 : Nat) = 2 ^ 8 - 1 from rfl, Nat.and_two_pow_sub_one_eq_mod]

theorem dec_len (u : Nat) (h : u < 256) : (Lib.decDigits u).length ≤ 3 := by
  rw [Lib.decDigits_length]
  by_cases h1 : u < 10
  · rw [Lib.nDigits_small h1]; omega
  · rw [Lib.nDigits_big h1]
    by_cases h2 : u / 10 < 10
    · rw [Lib.nDigits_small h2]; omega
    · rw [Lib.nDigits_big h2, Lib.nDigits_small (by omega)]; omega

theorem tell4_eq (a : Nat) : tell4 a = Lib.decDigits (byte4 a 0) ++ 46 :: (Lib.decDigits (byte4 a 1) ++ 46 :: (Lib.decDigits (byte4 a 2) ++ 46 :: Lib.decDigits (byte4 a 3))) := by
  unfold tell4
  rw [Lib.join_cons]
  simp [Lib.joinTail]

theorem tell4_len (a : Nat) : (tell4 a).length ≤ 15 := by
  have h0 := dec_len _ (byte4_lt a 0)
  have h1 := dec_len _ (byte4_lt a 1)
  have h2 := dec_len _ (byte4_lt a 2)
  have h3 := dec_len _ (byte4_lt a 3)
  rw [tell4_eq]
  simp only [List.length_append, List.length_cons]
  omega

theorem ip4_range (ls : List (List UInt8)) (n : Int) (hne : ls ≠ []) (h : ip4 ls = some n) : 0 ≤ n ∧ n < 4294967296 := by
  unfold ip4 at h
  split at h
  · simp at h
  · rename_i h4
    split at h
    · simp at h
    · rename_i a ha
      split at h
      · simp at h
      · rename_i m hm
        simp only [Option.some.injEq] at h
        subst h
        have hlen : 1 ≤ ls.length := by cases ls with | nil => exact absurd rfl hne | cons x xs => simp
        have hf := front_range _ _ _ (by omega) ha
        rw [List.length_dropLast] at hf
        have hk : ls.length = 1 ∨ ls.length = 2 ∨ ls.length = 3 ∨ ls.length = 4 := by omega
        rcases hk with hk | hk | hk | hk
        · rw [hk] at hf hm ⊢
          have hr := anyBase_range _ (by decide) _ _ hm
          have e1 : (2 : Int) ^ (8 * (5 - 1)) = 4294967296 := by decide
          have e2 : ((0 : Int) + 1) * 256 ^ (1 - 1) = 1 := by decide
          rw [e1] at hr ⊢; rw [e2] at hf
          omega
        · rw [hk] at hf hm ⊢
          have hr := anyBase_range _ (by decide) _ _ hm
          have e1 : (2 : Int) ^ (8 * (5 - 2)) = 16777216 := by decide
          have e2 : ((0 : Int) + 1) * 256 ^ (2 - 1) = 256 := by decide
          rw [e1] at hr ⊢; rw [e2] at hf
          omega
        · rw [hk] at hf hm ⊢
          have hr := anyBase_range _ (by decide) _ _ hm
          have e1 : (2 : Int) ^ (8 * (5 - 3)) = 65536 := by decide
          have e2 : ((0 : Int) + 1) * 256 ^ (3 - 1) = 65536 := by decide
          rw [e1] at hr ⊢; rw [e2] at hf
          omega
        · rw [hk] at hf hm ⊢
          have hr := anyBase_range _ (by decide) _ _ hm
          have e1 : (2 : Int) ^ (8 * (5 - 4)) = 256 := by decide
          have e2 : ((0 : Int) + 1) * 256 ^ (4 - 1) = 16777216 := by decide
          rw [e1] at hr ⊢; rw [e2] at hf
          omega

def forbS : List UInt8 := [0, 9, 10, 13, 32, 35, 47, 58, 60, 62, 63, 64, 91, 92, 93, 94, 124, 37]

/-- A byte that a host of a special scheme can't have. -/
def badS (c : UInt8) : Bool := decide (0 ≤ Lib.indexByte forbS c) || holdsB 0 c.toNat

/-- A host of a special scheme, unescaped: told, or none. -/
def hostSpecial (l : List UInt8) : Option (List UInt8) :=
  if l = [] then none else if l.any badS then none else
  if numLabel ((labels (Lib.toLowerA l)).getLastD []) then (ip4 (labels (Lib.toLowerA l))).map (fun a => tell4 a.toNat) else some (Lib.toLowerA l)

theorem good_ascii : ∀ c : Fin 256, holdsB 0 c.val = false → c.val < 128 := by decide +kernel
theorem good_ascii' (c : UInt8) (h : badS c = false) : c.toNat < 128 := by
  have h2 : holdsB 0 c.toNat = false := by
    unfold badS at h
    exact (Bool.or_eq_false_iff.1 h).2
  exact good_ascii ⟨c.toNat, c.toNat_lt⟩ h2
theorem splitOn_len (c : UInt8) : ∀ l : List UInt8, (splitOn c l).length ≤ l.length + 1
  | [] => by simp [splitOn]
  | b :: l => by
    have := splitOn_len c l
    unfold splitOn
    split
    · simp; omega
    · split
      · rename_i x xs h; rw [h] at this; simp at this ⊢; omega
      · simp
end Go.Moor
/-
  What the package-level variables hold while a call runs, and that it stays so behind whatever leaves the old blocks alone.
-/
namespace Go.Proofs
open Go.RowKit Go.Moor

/-- The variable g holds an interface value that is not nil. -/
def Tryz.Err (g : Nat) (w : World) : Prop := ∃ t v, w.cell? ⟨g, 0, none⟩ = some (.iface t v)

structure Tryz.Env (w : World) : Prop where
  size : 29 ≤ w.heap.size
  sets : Tryz.Sets w
  maxLen : ∃ m, w.cell? ⟨16, 0, none⟩ = some (.int .i64 m)
  eEmpty : Tryz.Err 5 w
  eBracket : Tryz.Err 4 w
  eCount : Tryz.Err 14 w
  eLength : Tryz.Err 18 w
  eNought : Tryz.Err 24 w
  eGreat : Tryz.Err 23 w
  pow10 : Lib.TabIs Tryz.prog w "internal/strconv.uint64pow10" .u64 Lib.pow10Tab
  errType : w.cell? ⟨2, 0, none⟩ = some (.iface 193 (.agg #[.pointer (some ⟨29, 65, none⟩)]))

theorem Tryz.Err.below {g : Nat} {w w' : World} (h : Tryz.Err g w) (hb : Below w.heap.size w w') (hz : g < w.heap.size) : Tryz.Err g w' := by
  obtain ⟨t, v, hc⟩ := h
  exact ⟨t, v, by rw [hb.cell (p := ⟨g, 0, none⟩) hz]; exact hc⟩

theorem Tryz.gPow : Tryz.prog.globalNamed "internal/strconv.uint64pow10" = some 20 := by kernel_rfl

theorem Tryz.Env.below {w w' : World} (h : Tryz.Env w) (hb : Below w.heap.size w w') : Tryz.Env w' := by
  have hz := h.size
  obtain ⟨m, hm⟩ := h.maxLen
  refine ⟨Nat.le_trans hz hb.size, Tryz.sets_below h.sets hb (by omega), ⟨m, Tryz.maxLen_below hm hb (by omega)⟩, h.eEmpty.below hb (by omega), h.eBracket.below hb (by omega), h.eCount.below hb (by omega), h.eLength.below hb (by omega), h.eNought.below hb (by omega), h.eGreat.below hb (by omega), ?_, ?_⟩
  · have := h.pow10
    unfold Lib.TabIs at this ⊢
    rw [← this]
    simp only [World.var?, Tryz.gPow, Option.bind_some, hb.block 20 (by omega)]
  · rw [hb.cell (p := ⟨2, 0, none⟩) (show _ < w.heap.size by show 2 < _; omega)]; exact h.errType

theorem Tryz.Env.drew {w : World} (h : Tryz.Env w) (n : Nat) : Tryz.Env (w.drewN n) := h.below (Go.below_drewN (Below.refl _ w) n)
end Go.Proofs
