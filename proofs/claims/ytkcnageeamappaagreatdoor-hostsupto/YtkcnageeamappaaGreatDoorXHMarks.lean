import Derived.Test.YtkcnageeamappaaGreatDoorXFPlain
import Derived.Laws.CopyOwn
import Derived.Laws.Rows
namespace Go.Moor
open Go
def sixPiece (l : List UInt8) : Option Int := if l.length < 1 ∨ 4 < l.length then none else digAcc 16 65535 0 l
def plainDec (l : List UInt8) : Option Int := if l = [] then none else if l.head? = some 48 ∧ 1 < l.length then none else digAcc 10 255 0 l
theorem sixPiece_range (l : List UInt8) (n : Int) (h : sixPiece l = some n) : 0 ≤ n ∧ n ≤ 65535 := by
  unfold sixPiece at h
  split at h
  · simp at h
  · exact digAcc_range 16 65535 (by omega) l 0 n (by omega) (by omega) h
theorem plainDec_range (l : List UInt8) (n : Int) (h : plainDec l = some n) : 0 ≤ n ∧ n ≤ 255 := by
  unfold plainDec at h
  split at h
  · simp at h
  · split at h
    · simp at h
    · exact digAcc_range 10 255 (by omega) l 0 n (by omega) (by omega) h
def sixSplit (l : List UInt8) : List (List UInt8) := if l = [] then [] else splitOn 58 l
end Go.Moor
namespace Go.Moor
open Go
def sixAcc : List Int → List (List UInt8) → Option (List Int)
  | ps, [] => some ps
  | ps, x :: l => match sixPiece x with | some n => sixAcc (ps ++ [n]) l | none => none
def sixPieces (l : List (List UInt8)) : Option (List Int) := sixAcc [] l
theorem sixAcc_step (xs : List ByteArray) (q : Nat) (x : ByteArray) (ps : List Int) (hx : xs[q]? = some x) :
    sixAcc ps ((xs.map (·.data.toList)).drop q) = (match sixPiece x.data.toList with | some n => sixAcc (ps ++ [n]) ((xs.map (·.data.toList)).drop (q + 1)) | none => none) := by
  have h1 : (xs.map (·.data.toList))[q]? = some x.data.toList := by rw [List.getElem?_map, hx]; rfl
  obtain ⟨hlt, he⟩ := List.getElem?_eq_some_iff.1 h1
  rw [List.drop_eq_getElem_cons hlt, he]
  rfl
end Go.Moor
namespace Go.Moor
open Go
def dotAcc : Int → List (List UInt8) → Option Int
  | a, [] => some a
  | a, x :: l => match plainDec x with | some n => dotAcc (a * 256 + n) l | none => none
def sixDotted (l : List UInt8) : Option Int := if (splitOn 46 l).length = 4 then dotAcc 0 (splitOn 46 l) else none
theorem dotAcc_step (xs : List ByteArray) (q : Nat) (x : ByteArray) (a : Int) (hx : xs[q]? = some x) :
    dotAcc a ((xs.map (·.data.toList)).drop q) = (match plainDec x.data.toList with | some n => dotAcc (a * 256 + n) ((xs.map (·.data.toList)).drop (q + 1)) | none => none) := by
  have h1 : (xs.map (·.data.toList))[q]? = some x.data.toList := by rw [List.getElem?_map, hx]; rfl
  obtain ⟨hlt, he⟩ := List.getElem?_eq_some_iff.1 h1
  rw [List.drop_eq_getElem_cons hlt, he]
  rfl
theorem dotAcc_range : ∀ (l : List (List UInt8)) (a m : Int), 0 ≤ a → dotAcc a l = some m → 0 ≤ m ∧ m < (a + 1) * 256 ^ l.length
  | [], a, m, h0, h => by simp only [dotAcc, Option.some.injEq] at h; simp; omega
  | x :: l, a, m, h0, h => by
    simp only [dotAcc] at h
    split at h
    · rename_i n hn
      have hr := plainDec_range x n hn
      have := dotAcc_range l _ m (by omega) h
      refine ⟨this.1, Int.lt_of_lt_of_le this.2 ?_⟩
      rw [List.length_cons, Int.pow_succ, ← Int.mul_assoc, Int.mul_right_comm]
      exact Int.mul_le_mul_of_nonneg_right (by omega) (Int.pow_nonneg (by omega))
    · simp at h
theorem sixDotted_range (l : List UInt8) (m : Int) (h : sixDotted l = some m) : 0 ≤ m ∧ m < 4294967296 := by
  unfold sixDotted at h
  split at h
  · rename_i h4
    have := dotAcc_range _ 0 m (by omega) h
    rw [h4] at this
    exact ⟨this.1, by simpa using this.2⟩
  · simp at h
def sixJoin : Option (List Int) → Option Int → Option (List Int)
  | some ps, some n => some (ps ++ [n / 65536, n % 65536])
  | _, _ => none
def sixLast (l : List (List UInt8)) : Option (List Int) :=
  match l.getLast? with
  | none => some []
  | some x => if 0 ≤ Lib.indexByte x 46 then sixJoin (sixPieces l.dropLast) (sixDotted x) else sixPieces l
theorem and_low16 (n : Int) (h0 : 0 ≤ n) (h1 : n < 4294967296) : bits .and .u64 n 65535 = n % 65536 := by
  obtain ⟨a, rfl⟩ := Int.eq_ofNat_of_zero_le h0
  rw [show (65535 : Int) = ((65535 : Nat) : Int) from rfl, u64_and_nat a 65535 (by omega) (by omega), show (65535 : Nat) = 2 ^ 16 - 1 from rfl, Nat.and_two_pow_sub_one_eq_mod]
  simp
end Go.Moor
namespace Go.Moor
open Go
theorem sixAcc_len : ∀ (l : List (List UInt8)) (ps qs : List Int), sixAcc ps l = some qs → qs.length = ps.length + l.length
  | [], ps, qs, h => by simp only [sixAcc, Option.some.injEq] at h; rw [h]; rfl
  | x :: l, ps, qs, h => by
    simp only [sixAcc] at h
    split at h
    · have := sixAcc_len l _ qs h
      simp at this ⊢
      omega
    · simp at h
end Go.Moor
namespace Go.Moor
open Go
def sixFill (short : Bool) : Option (List Int) → Option (List Int) → Option (List Int)
  | some f, some g => if (if short then decide ((f.length : Int) + (g.length : Int) < 8) else (f.length : Int) + (g.length : Int) == 8) = true then some (f ++ (List.replicate (8 - f.length - g.length) 0 ++ g)) else none
  | _, _ => none
def sixOf (l : List UInt8) : Option (List Int) :=
  match Lib.cut l [58, 58] with
  | (a, b, true) => sixFill true (sixPieces (sixSplit a)) (sixLast (sixSplit b))
  | (_, _, false) => sixFill false (sixPieces (sixSplit [])) (sixLast (sixSplit l))
theorem sixSplit_len (l : List UInt8) : (sixSplit l).length ≤ l.length + 1 := by
  unfold sixSplit
  split
  · simp
  · exact splitOn_len 58 l
theorem sixLast_len (l : List (List UInt8)) (ps : List Int) (h : sixLast l = some ps) : ps.length ≤ l.length + 2 := by
  unfold sixLast at h
  split at h
  · simp at h; rw [h]; simp
  · split at h
    · cases hp : sixPieces l.dropLast with
      | none => rw [hp] at h; simp [sixJoin] at h
      | some qs =>
        have := sixAcc_len _ _ _ hp
        rw [hp] at h
        revert h
        cases sixDotted _ with
        | none => intro h; simp [sixJoin] at h
        | some n =>
          intro h
          simp only [sixJoin, Option.some.injEq] at h
          rw [← h]
          simp at this ⊢
          omega
    · have := sixAcc_len _ _ _ h
      simp at this
      omega
def zero8 : List Int := [0, 0, 0, 0, 0, 0, 0, 0]
def cells8 (l : List Int) : Array Value := (l.map (Value.int .u64)).toArray
theorem splice_fill (f g : List Int) (d : Nat) (hd : d + g.length = 8) (hl : f.length + g.length ≤ 8) :
    (splice (splice (zero8.map (Value.int .u64)) 0 (f.map (Value.int .u64))) d (g.map (Value.int .u64))).toArray = cells8 (f ++ (List.replicate (8 - f.length - g.length) 0 ++ g)) := by
  unfold cells8
  congr 1
  have hz : zero8.map (Value.int .u64) = List.replicate 8 (Value.int .u64 0) := rfl
  rw [hz]
  unfold splice
  simp only [List.take_zero, List.nil_append, List.length_map, Nat.zero_add, List.drop_replicate, List.map_append, List.map_replicate]
  rw [List.take_append, List.take_of_length_le (by simp; omega), List.drop_of_length_le (by simp; omega), List.append_nil, List.append_assoc, List.take_replicate, List.length_map]
  congr 3
  omega
end Go.Moor
namespace Go.Moor
open Go
def pieceTxt (p : Nat) : List UInt8 := digsF 16 3 p
def pieceStr (p : Nat) : ByteArray := ⟨(pieceTxt p).toArray⟩
def tellRow (ps : List Nat) : List UInt8 := Lib.join (ps.map pieceTxt) [58]
theorem join_len (c : UInt8) (m : Nat) : ∀ xs : List (List UInt8), (∀ x ∈ xs, x.length ≤ m) → (Lib.join xs [c]).length ≤ (m + 1) * xs.length
  | [], _ => by simp [Lib.join]
  | [x], h => by
    have := h x (by simp)
    simp [Lib.join]
    omega
  | x :: y :: l, h => by
    have h1 := h x (by simp)
    have h2 := join_len c m (y :: l) (fun z hz => h z (by simp [hz]))
    simp [Lib.join] at h2 ⊢
    rw [Nat.mul_add, Nat.mul_add] at *
    omega
theorem tellRow_len (ps : List Nat) : (tellRow ps).length ≤ 5 * ps.length := by
  have := join_len 58 4 (ps.map pieceTxt) (by
    intro x hx
    obtain ⟨p, _, rfl⟩ := List.mem_map.1 hx
    exact digs_len 16 3 p)
  simpa [tellRow] using this
end Go.Moor
namespace Go.Moor
open Go
def noughts : List Nat → Nat → Nat → Nat → Nat → Nat × Nat
  | [], _, _, s, l => (s, l)
  | p :: ps, i, row, s, l => if p ≠ 0 then noughts ps (i + 1) 0 s l else if l < row + 1 then noughts ps (i + 1) (row + 1) (i - row) (row + 1) else noughts ps (i + 1) (row + 1) s l
theorem noughts_bound (n : Nat) : ∀ (ps : List Nat) (i row s l : Nat), i + ps.length = n → row ≤ i → s + l ≤ n → (noughts ps i row s l).1 + (noughts ps i row s l).2 ≤ n
  | [], i, row, s, l, _, _, h => h
  | p :: ps, i, row, s, l, hi, hr, h => by
    have hi2 : i + 1 + ps.length = n := by simp at hi; omega
    unfold noughts
    split
    · exact noughts_bound n ps _ _ _ _ hi2 (by omega) h
    · split
      · exact noughts_bound n ps _ _ _ _ hi2 (by omega) (by omega)
      · exact noughts_bound n ps _ _ _ _ hi2 (by omega) h
def nats8 (ps : List Nat) : Array Value := cells8 (ps.map fun p => ((p : Nat) : Int))
theorem nats8_at (ps : List Nat) (i p : Nat) (h : ps[i]? = some p) : (nats8 ps)[i]? = some (.int .u64 (p : Nat)) := by
  unfold nats8 cells8
  simp [h]
theorem nats8_size (ps : List Nat) : (nats8 ps).size = ps.length := by simp [nats8, cells8]
end Go.Moor
namespace Go.Moor
open Go
def sixTell (ps : List Nat) : List UInt8 :=
  if (noughts ps 0 0 0 0).2 < 2 then tellRow ps else tellRow (ps.take (noughts ps 0 0 0 0).1) ++ ([58, 58] ++ tellRow (ps.drop ((noughts ps 0 0 0 0).1 + (noughts ps 0 0 0 0).2)))
end Go.Moor
namespace Go.Moor
open Go
def okPiece (p : Int) : Prop := 0 ≤ p ∧ p < 65536
theorem sixAcc_ok : ∀ (l : List (List UInt8)) (ps qs : List Int), (∀ p ∈ ps, okPiece p) → sixAcc ps l = some qs → ∀ p ∈ qs, okPiece p
  | [], ps, qs, h, e => by simp only [sixAcc, Option.some.injEq] at e; rw [← e]; exact h
  | x :: l, ps, qs, h, e => by
    simp only [sixAcc] at e
    split at e
    · rename_i n hn
      have hr := sixPiece_range x n hn
      refine sixAcc_ok l _ qs (fun p hp => ?_) e
      rcases List.mem_append.1 hp with hp | hp
      · exact h p hp
      · simp at hp; subst hp; exact ⟨hr.1, by omega⟩
    · simp at e
theorem sixPieces_ok (l : List (List UInt8)) (qs : List Int) (e : sixPieces l = some qs) : ∀ p ∈ qs, okPiece p := sixAcc_ok l [] qs (by simp) e
theorem sixLast_ok (l : List (List UInt8)) (qs : List Int) (e : sixLast l = some qs) : ∀ p ∈ qs, okPiece p := by
  unfold sixLast at e
  split at e
  · simp at e; rw [e]; simp
  · split at e
    · rename_i x _ _
      cases hp : sixPieces l.dropLast with
      | none => rw [hp] at e; simp [sixJoin] at e
      | some ps =>
        cases hd : sixDotted x with
        | none => rw [hp, hd] at e; simp [sixJoin] at e
        | some n =>
          rw [hp, hd] at e
          simp only [sixJoin, Option.some.injEq] at e
          rw [← e]
          have hr := sixDotted_range x n hd
          intro p hm
          rcases List.mem_append.1 hm with hm | hm
          · exact sixPieces_ok _ ps hp p hm
          · simp at hm
            rcases hm with rfl | rfl
            · exact ⟨by omega, by omega⟩
            · exact ⟨by omega, by omega⟩
    · exact sixPieces_ok l qs e
theorem sixFill_ok (b : Bool) (f g : Option (List Int)) (qs : List Int) (hf : ∀ ps, f = some ps → ∀ p ∈ ps, okPiece p) (hg : ∀ ps, g = some ps → ∀ p ∈ ps, okPiece p) (e : sixFill b f g = some qs) : qs.length = 8 ∧ ∀ p ∈ qs, okPiece p := by
  cases f with
  | none => simp [sixFill] at e
  | some f =>
    cases g with
    | none => simp [sixFill] at e
    | some g =>
      have key : f.length + g.length ≤ 8 ∧ f ++ (List.replicate (8 - f.length - g.length) 0 ++ g) = qs := by
        cases b
        · simp [sixFill] at e
          exact ⟨by omega, e.2⟩
        · simp [sixFill] at e
          exact ⟨by omega, e.2⟩
      obtain ⟨hl, e⟩ := key
      rw [← e]
      refine ⟨by simp; omega, fun p hp => ?_⟩
      rcases List.mem_append.1 hp with hp | hp
      · exact hf f rfl p hp
      · rcases List.mem_append.1 hp with hp | hp
        · rw [List.eq_of_mem_replicate hp]; exact ⟨by omega, by omega⟩
        · exact hg g rfl p hp
theorem sixOf_ok (l : List UInt8) (qs : List Int) (e : sixOf l = some qs) : qs.length = 8 ∧ ∀ p ∈ qs, okPiece p := by
  unfold sixOf at e
  split at e
  · exact sixFill_ok _ _ _ qs (fun ps h => sixPieces_ok _ ps h) (fun ps h => sixLast_ok _ ps h) e
  · exact sixFill_ok _ _ _ qs (fun ps h => sixPieces_ok _ ps h) (fun ps h => sixLast_ok _ ps h) e
theorem cells8_nats (ps : List Int) (h : ∀ p ∈ ps, okPiece p) : cells8 ps = nats8 (ps.map Int.toNat) := by
  unfold nats8
  congr 1
  rw [List.map_map]
  refine (List.map_id ps).symm.trans (List.map_congr_left fun p hp => ?_)
  have := (h p hp).1
  simp
  omega
def bracketed (l : List UInt8) : Option (List UInt8) :=
  if Lib.hasSuffix l [93] = true then (match sixOf (Lib.trimSuffix l [93]) with | some ps => some ([91] ++ (sixTell (ps.map Int.toNat) ++ [93])) | none => none) else none
end Go.Moor
namespace Go.Moor
open Go
def forbP : List UInt8 := [0, 9, 10, 13, 32, 35, 47, 58, 60, 62, 63, 64, 91, 92, 93, 94, 124]
def badP (c : UInt8) : Bool := decide (0 ≤ Lib.indexByte forbP c)
def hostPlain (l : List UInt8) : Option (List UInt8) := if l.any badP then none else some (esc 0 l)
def hostTell (l : List UInt8) (sp : Bool) : Option (List UInt8) :=
  if Lib.hasPrefix l [91] = true then bracketed (l.drop 1) else if sp then hostSpecial (unesc l) else hostPlain l
end Go.Moor
namespace Go.Moor
open Go
def hasCC : List UInt8 → Bool
  | [] => false
  | a :: l => (a == 58 && l.head? == some 58) || hasCC l
theorem pre_cc (a : UInt8) (l : List UInt8) (h : (a == 58 && l.head? == some 58) = false) : List.isPrefixOf [58, 58] (a :: l) = false := by
  cases l with
  | nil => simp [List.isPrefixOf]
  | cons b l =>
    simp only [List.head?_cons, Bool.and_eq_false_iff] at h
    simp only [List.isPrefixOf, Bool.and_true, Bool.and_eq_false_iff]
    rcases h with h | h
    · left
      rw [beq_eq_false_iff_ne] at h ⊢
      exact fun e => h e.symm
    · right
      rw [beq_eq_false_iff_ne] at h ⊢
      exact fun e => h (by rw [e])
theorem index_cc_none : ∀ l : List UInt8, hasCC l = false → Lib.index l [58, 58] = -1
  | [], _ => by simp [Lib.index]
  | a :: l, h => by
    rw [hasCC, Bool.or_eq_false_iff] at h
    rw [Lib.index, pre_cc a l h.1, index_cc_none l h.2]
    rfl
theorem cut_none (l : List UInt8) (h : hasCC l = false) : Lib.cut l [58, 58] = (l, [], false) := by
  unfold Lib.cut
  rw [index_cc_none l h]
  rfl
theorem head_app (q r : List UInt8) (x : UInt8) : (q ++ x :: r).head? = (q ++ [x]).head? := by cases q <;> rfl
theorem index_cc_hit (r : List UInt8) : ∀ p : List UInt8, hasCC (p ++ [58]) = false → Lib.index (p ++ 58 :: 58 :: r) [58, 58] = p.length
  | [], _ => by
    show Lib.index (58 :: 58 :: r) [58, 58] = 0
    rw [Lib.index]
    simp [List.isPrefixOf]
  | a :: q, h => by
    rw [List.cons_append, hasCC, Bool.or_eq_false_iff] at h
    have ih := index_cc_hit r q h.2
    show Lib.index (a :: (q ++ 58 :: 58 :: r)) [58, 58] = _
    rw [Lib.index, pre_cc a _ (by rw [head_app]; exact h.1), ih]
    simp only [Bool.false_eq_true, if_false]
    rw [if_neg (by simp)]
    simp
theorem cut_hit (p r : List UInt8) (h : hasCC (p ++ [58]) = false) : Lib.cut (p ++ 58 :: 58 :: r) [58, 58] = (p, r, true) := by
  unfold Lib.cut
  rw [index_cc_hit r p h, if_pos (by omega)]
  simp
end Go.Moor
namespace Go.Moor
open Go
theorem badS_fin : ∀ c : Fin 256, badS c.val.toUInt8 = false → 33 ≤ c.val ∧ c.val ≤ 126 ∧ c.val ≠ 35 ∧ c.val ≠ 47 ∧ c.val ≠ 63 ∧ c.val ≠ 64 ∧ c.val ≠ 92 ∧ c.val ≠ 124 ∧ c.val ≠ 58 ∧ c.val ≠ 91 ∧ c.val ≠ 37 ∧ badS (Lib.lowerB c.val.toUInt8) = false := by decide +kernel
end Go.Moor
namespace Go.Moor
open Go
theorem first_of (c : UInt8) (l : Bs) : (∀ x ∈ l, x ≠ c) ∨ ∃ a b, l = a ++ c :: b ∧ ∀ x ∈ a, x ≠ c := by
  have := cutB_inv c l
  cases h : cutB c l with
  | none => rw [h] at this; exact Or.inl this
  | some p => rw [h] at this; exact Or.inr ⟨p.1, p.2, this.1, this.2⟩
section
variable (H : Bs → Bool → Option Bs)
end
end Go.Moor
namespace Go.Moor
open Go
theorem splitOn_cons_ne (c d : UInt8) (l : Bs) (h : d ≠ c) : ∃ x xs, splitOn c l = x :: xs ∧ splitOn c (d :: l) = (d :: x) :: xs := by
  cases hx : splitOn c l with
  | nil => exact absurd hx (splitOn_ne c l)
  | cons x xs => exact ⟨x, xs, rfl, by rw [splitOn, if_neg h, hx]⟩
section
variable (H : Bs → Bool → Option Bs)
end
end Go.Moor
namespace Go.Moor
open Go
theorem splitOn_in (c : UInt8) : ∀ (l : Bs) (b : UInt8), b ∈ l → b = c ∨ ∃ x ∈ splitOn c l, b ∈ x
  | [], b, h => by cases h
  | d :: l, b, h => by
    by_cases hd : d = c
    · rw [splitOn, if_pos hd]
      rcases List.mem_cons.1 h with rfl | h
      · exact Or.inl hd
      · rcases splitOn_in c l b h with h | ⟨x, hx, hb⟩
        · exact Or.inl h
        · exact Or.inr ⟨x, by simp [hx], hb⟩
    · obtain ⟨x, xs, h1, h2⟩ := splitOn_cons_ne c d l hd
      rw [h2]
      rcases List.mem_cons.1 h with rfl | h
      · exact Or.inr ⟨b :: x, by simp, by simp⟩
      · rcases splitOn_in c l b h with h | ⟨y, hy, hb⟩
        · exact Or.inl h
        · rw [h1] at hy
          rcases List.mem_cons.1 hy with rfl | hy
          · exact Or.inr ⟨d :: y, by simp, by simp [hb]⟩
          · exact Or.inr ⟨y, by simp [hy], hb⟩
theorem digAcc_bytes (base most : Int) : ∀ (l : Bs) (n m : Int), digAcc base most n l = some m → ∀ c ∈ l, hexVal c.toNat < base
  | [], n, m, _, c, hc => by cases hc
  | d :: l, n, m, h, c, hc => by
    rw [digAcc] at h
    split at h
    · rename_i h1
      split at h
      · rcases List.mem_cons.1 hc with rfl | hc
        · exact h1
        · exact digAcc_bytes base most l _ m h c hc
      · cases h
    · cases h
theorem dotAcc_bytes : ∀ (l : List Bs) (a m : Int), dotAcc a l = some m → ∀ x ∈ l, ∀ c ∈ x, hexVal c.toNat < 16
  | [], a, m, _, x, hx => by cases hx
  | y :: l, a, m, h, x, hx => by
    rw [dotAcc] at h
    cases hp : plainDec y with
    | none => rw [hp] at h; cases h
    | some n =>
      rw [hp] at h
      rcases List.mem_cons.1 hx with rfl | hx
      · unfold plainDec at hp
        split at hp
        · cases hp
        · split at hp
          · cases hp
          · intro c hc
            have := digAcc_bytes 10 255 x 0 n hp c hc
            omega
      · exact dotAcc_bytes l _ m h x hx
theorem cc_first : ∀ l : Bs, hasCC l = true → ∃ p r, l = p ++ 58 :: 58 :: r ∧ hasCC (p ++ [58]) = false := by
  intro l
  induction l with
  | nil => intro h; cases h
  | cons c l ih =>
    intro h
    by_cases hh : (c == 58 && l.head? == some 58) = true
    · simp only [Bool.and_eq_true, beq_iff_eq] at hh
      cases l with
      | nil => cases hh.2
      | cons d l =>
        simp at hh
        refine ⟨[], l, by rw [hh.1, hh.2]; rfl, by decide⟩
    · have hl : hasCC l = true := by
        cases l with
        | nil => simp [hasCC] at h
        | cons d l =>
          have h : ((c == 58 && (d :: l).head? == some 58) || hasCC (d :: l)) = true := h
          have hh2 : (c == 58 && (d :: l).head? == some 58) = false := by simpa using hh
          rw [hh2, Bool.false_or] at h
          exact h
      obtain ⟨p, r, hp, hcc⟩ := ih hl
      refine ⟨c :: p, r, by rw [hp]; rfl, ?_⟩
      cases p with
      | nil =>
        simp [hp] at hh
        simp [hasCC]
        exact hh
      | cons d p =>
        show ((c == 58 && (d :: (p ++ [58])).head? == some 58) || hasCC (d :: (p ++ [58]))) = false
        have h3 : hasCC (d :: (p ++ [58])) = false := hcc
        rw [h3, Bool.or_false]
        rw [hp] at hh
        simpa using hh
end Go.Moor
