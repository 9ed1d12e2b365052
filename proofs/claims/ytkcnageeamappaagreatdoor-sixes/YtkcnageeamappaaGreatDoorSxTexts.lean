/-
  Plain mathematics for the texts that are made of eight pieces: each is told in one way.
-/
import Derived.Test.YtkcnageeamappaaGreatDoorSxPlain
namespace Go.Moor
open Go

theorem hexL_plain : ∀ d : Fin 16, hexL d.val ≠ 58 ∧ hexL d.val ≠ 46 := by decide +kernel
theorem piece_mem (n : Nat) (hn : n < 65536) (c : UInt8) (hc : c ∈ digsF 16 3 n) : c ≠ 58 ∧ c ≠ 46 := by
  obtain ⟨d, hd, rfl⟩ := digs_mem 16 (by omega) 3 n hn c hc
  exact hexL_plain ⟨d, hd⟩
theorem piece_ne (n : Nat) (hn : n < 65536) : digsF 16 3 n ≠ [] := by
  obtain ⟨d, r, h, _⟩ := digs_head 16 (by omega) 3 n hn
  rw [h]; simp
theorem no_dot (l : List UInt8) (h : ∀ c ∈ l, c ≠ 46) : ¬ 0 ≤ Lib.indexByte l 46 := by
  rcases indexByte_split 46 l with ⟨h1, _⟩ | ⟨p, r, rfl, _, _⟩
  · rw [h1]; decide
  · exact absurd rfl (h 46 (by simp))
theorem piece_reads (n : Nat) (hn : n < 65536) : plainTxt (digsF 16 3 n) ∧ sixPiece (digsF 16 3 n) = some (n : Int) ∧ ¬ 0 ≤ Lib.indexByte (digsF 16 3 n) 46 := by
  refine ⟨⟨piece_ne n hn, fun c hc => (piece_mem n hn c hc).1⟩, ?_, no_dot _ fun c hc => (piece_mem n hn c hc).2⟩
  have h1 := digs_len 16 3 n
  have h2 : 0 < (digsF 16 3 n).length := List.length_pos_iff.2 (piece_ne n hn)
  unfold sixPiece
  rw [if_neg (by omega)]
  exact digs_val 16 65535 (by omega) (by omega) 3 n hn (by omega)
theorem piece_reads0 (n : Nat) (hn : n < 65536) (h4 : (digsF 16 3 n).length < 4) : plainTxt (48 :: digsF 16 3 n) ∧ sixPiece (48 :: digsF 16 3 n) = some (n : Int) ∧ ¬ 0 ≤ Lib.indexByte (48 :: digsF 16 3 n) 46 := by
  have hm : ∀ c ∈ (48 :: digsF 16 3 n : List UInt8), c ≠ 58 ∧ c ≠ 46 := by
    intro c hc
    rcases List.mem_cons.1 hc with rfl | hc
    · decide
    · exact piece_mem n hn c hc
  refine ⟨⟨by simp, fun c hc => (hm c hc).1⟩, ?_, no_dot _ fun c hc => (hm c hc).2⟩
  unfold sixPiece
  rw [if_neg (by simp; omega)]
  have := digs_val 16 65535 (by omega) (by omega) 3 n hn (by omega)
  show digAcc 16 65535 0 (48 :: digsF 16 3 n) = _
  rw [digAcc, show hexVal (48 : UInt8).toNat = 0 by decide]
  exact this

/-- The pieces as they are told, with their numbers. -/
def toldRow (ns : List Nat) : List (List UInt8 × Nat) := ns.map fun n => (digsF 16 3 n, n)
theorem toldRow_reads (ns : List Nat) (h : ∀ n ∈ ns, n < 65536) : readsAs (toldRow ns) := by
  intro y hy
  obtain ⟨n, hn, rfl⟩ := List.mem_map.1 hy
  exact piece_reads n (h n hn)
theorem toldRow_fst (ns : List Nat) : (toldRow ns).map (·.1) = ns.map pieceTxt := by
  unfold toldRow
  rw [List.map_map]; rfl
theorem toldRow_snd (ns : List Nat) : ((toldRow ns).map fun y => (y.2 : Int)) = ns.map fun n : Nat => (n : Int) := by
  unfold toldRow
  rw [List.map_map]; rfl
theorem join_C : ∀ ls : List (List UInt8), Lib.join ls [58] = joinC ls
  | [] => rfl
  | [x] => Lib.join_one x [58]
  | x :: y :: l => by
    have ih := join_C (y :: l)
    rw [Lib.join_cons] at ih ⊢
    rw [joinC, ← ih]
    simp [Lib.joinTail]
theorem tellRow_C (ns : List Nat) : tellRow ns = joinC ((toldRow ns).map (·.1)) := by
  rw [toldRow_fst]
  exact join_C _

theorem back_nats (ns : List Nat) : (ns.map fun n : Nat => (n : Int)).map Int.toNat = ns := by
  rw [List.map_map]
  refine (List.map_congr_left fun n _ => ?_).trans (List.map_id ns)
  simp

/-- What is read of a text without brackets, told. -/
theorem bracketed_of (l : List UInt8) (ns : List Nat) (h : sixOf l = some (ns.map fun n : Nat => (n : Int))) : bracketed (l ++ [93]) = some ([91] ++ (sixTell ns ++ [93])) := by
  have hs : Lib.hasSuffix (l ++ [93]) [93] = true := by simp [Lib.hasSuffix]
  unfold bracketed
  rw [if_pos hs]
  have ht : Lib.trimSuffix (l ++ [93]) [93] = l := by
    unfold Lib.trimSuffix
    rw [if_pos hs]
    simp
  rw [ht, h]
  simp only [back_nats]

/-- The row that is found is one of noughts. -/
theorem noughts_zero (ns : List Nat) : ∀ (k i row s l : Nat), i + k = ns.length → row ≤ i → (∀ j, i - row ≤ j → j < i → ns[j]? = some 0) → (∀ j, s ≤ j → j < s + l → ns[j]? = some 0) → ∀ j, (noughts (ns.drop i) i row s l).1 ≤ j → j < (noughts (ns.drop i) i row s l).1 + (noughts (ns.drop i) i row s l).2 → ns[j]? = some 0
  | 0, i, row, s, l, hi, _, _, h2 => by
    rw [List.drop_eq_nil_of_le (by omega)]
    exact h2
  | k + 1, i, row, s, l, hi, hr, h1, h2 => by
    obtain ⟨x, hx⟩ : ∃ x, ns[i]? = some x := ⟨ns[i]'(by omega), by simp⟩
    obtain ⟨hlt, he⟩ := List.getElem?_eq_some_iff.1 hx
    rw [List.drop_eq_getElem_cons hlt, he]
    unfold noughts
    split
    · exact noughts_zero ns k (i + 1) 0 s l (by omega) (by omega) (fun j a b => absurd b (by omega)) h2
    · rename_i h0
      have hx0 : x = 0 := Decidable.not_not.1 h0
      subst hx0
      have h3 : ∀ j, i - row ≤ j → j < i + 1 → ns[j]? = some 0 := by
        intro j a b
        by_cases hj : j = i
        · rw [hj]; exact hx
        · exact h1 j a (by omega)
      split
      · exact noughts_zero ns k (i + 1) (row + 1) (i - row) (row + 1) (by omega) (by omega) (fun j a b => h3 j (by omega) b) (fun j a b => h3 j a (by omega))
      · exact noughts_zero ns k (i + 1) (row + 1) s l (by omega) (by omega) (fun j a b => h3 j (by omega) b) h2

theorem zero_mid (ns : List Nat) (s l : Nat) (h : ∀ j, s ≤ j → j < s + l → ns[j]? = some 0) : ns = ns.take s ++ (List.replicate l 0 ++ ns.drop (s + l)) := by
  have e : (ns.drop s).take l = List.replicate l 0 := by
    apply List.ext_getElem?
    intro j
    rw [List.getElem?_take, List.getElem?_replicate]
    by_cases hj : j < l
    · rw [if_pos hj, if_pos hj, List.getElem?_drop]
      exact h (s + j) (by omega) (by omega)
    · rw [if_neg hj, if_neg hj]
  rw [← e, show s + l = s + l from rfl, ← List.drop_drop, List.take_append_drop, List.take_append_drop]

/-- What two colons stand for. -/
theorem sixOf_gap (ns : List Nat) (s l : Nat) (h8 : ns.length = 8) (hn : ∀ n ∈ ns, n < 65536) (hl : s + l ≤ 8) (hl1 : 1 ≤ l) (h : ∀ j, s ≤ j → j < s + l → ns[j]? = some 0) :
    sixOf (tellRow (ns.take s) ++ 58 :: 58 :: tellRow (ns.drop (s + l))) = some (ns.map fun n : Nat => (n : Int)) := by
  rw [tellRow_C, tellRow_C, sixOf_short _ _ (toldRow_reads _ fun n hm => hn n (List.mem_of_mem_take hm)) (toldRow_reads _ fun n hm => hn n (List.mem_of_mem_drop hm)) (by simp [toldRow]; omega), toldRow_snd, toldRow_snd]
  have e := zero_mid ns s l h
  have hk : 8 - (toldRow (ns.take s)).length - (toldRow (ns.drop (s + l))).length = l := by simp [toldRow]; omega
  rw [hk]
  conv => rhs; rw [e]
  simp

theorem sixOf_whole (ns : List Nat) (h8 : ns.length = 8) (hn : ∀ n ∈ ns, n < 65536) : sixOf (tellRow ns) = some (ns.map fun n : Nat => (n : Int)) := by
  rw [tellRow_C, sixOf_full _ (toldRow_reads ns hn) (by simp [toldRow, h8]), toldRow_snd]

/-- What is told is read as itself. -/
theorem sixOf_told (ns : List Nat) (h8 : ns.length = 8) (hn : ∀ n ∈ ns, n < 65536) : sixOf (sixTell ns) = some (ns.map fun n : Nat => (n : Int)) := by
  unfold sixTell
  split
  · exact sixOf_whole ns h8 hn
  · rename_i hl
    have hb := noughts_bound 8 ns 0 0 0 0 (by omega) (by omega) (by omega)
    have hz := noughts_zero ns 8 0 0 0 0 (by omega) (by omega) (fun j a b => absurd b (by omega)) (fun j a b => absurd b (by omega))
    rw [List.drop_zero] at hz
    exact sixOf_gap ns _ _ h8 hn hb (by omega) hz
end Go.Moor
