/-
  Plain mathematics for texts of pieces with colons between: what is read of them, with or without two colons beside one another.
-/
import Derived.Test.YtkcnageeamappaaGreatDoorJSPlain
namespace Go.Moor
open Go

/-- Do two colons stand beside one another? -/
def hasCC : List UInt8 → Bool
  | [] => false
  | a :: l => (a == 58 && l.head? == some 58) || hasCC l

theorem pre_cc (a : UInt8) (l : List UInt8) (h : (a == 58 && l.head? == some 58) = false) : List.isPrefixOf [58, 58] (a :: l) = false := by
  cases l with
  | nil => simp [List.isPrefixOf]
  | cons b l =>
    simp only [List.head?_cons, Bool.and_eq_false_iff] at h
    simp only [List.isPrefixOf, Bool.and_true, Bool.and_eq_false_iff]
    rcases h with h | h
    · left
      rw [beq_eq_false_iff_ne] at h ⊢
      exact fun e => h e.symm
    · right
      rw [beq_eq_false_iff_ne] at h ⊢
      exact fun e => h (by rw [e])

theorem index_cc_none : ∀ l : List UInt8, hasCC l = false → Lib.index l [58, 58] = -1
  | [], _ => by simp [Lib.index]
  | a :: l, h => by
    rw [hasCC, Bool.or_eq_false_iff] at h
    rw [Lib.index, pre_cc a l h.1, index_cc_none l h.2]
    rfl
theorem cut_none (l : List UInt8) (h : hasCC l = false) : Lib.cut l [58, 58] = (l, [], false) := by
  unfold Lib.cut
  rw [index_cc_none l h]
  rfl
theorem head_app (q r : List UInt8) (x : UInt8) : (q ++ x :: r).head? = (q ++ [x]).head? := by cases q <;> rfl
theorem index_cc_hit (r : List UInt8) : ∀ p : List UInt8, hasCC (p ++ [58]) = false → Lib.index (p ++ 58 :: 58 :: r) [58, 58] = p.length
  | [], _ => by
    show Lib.index (58 :: 58 :: r) [58, 58] = 0
    rw [Lib.index]
    simp [List.isPrefixOf]
  | a :: q, h => by
    rw [List.cons_append, hasCC, Bool.or_eq_false_iff] at h
    have ih := index_cc_hit r q h.2
    show Lib.index (a :: (q ++ 58 :: 58 :: r)) [58, 58] = _
    rw [Lib.index, pre_cc a _ (by rw [head_app]; exact h.1), ih]
    simp only [Bool.false_eq_true, if_false]
    rw [if_neg (by simp)]
    simp
theorem cut_hit (p r : List UInt8) (h : hasCC (p ++ [58]) = false) : Lib.cut (p ++ 58 :: 58 :: r) [58, 58] = (p, r, true) := by
  unfold Lib.cut
  rw [index_cc_hit r p h, if_pos (by omega)]
  simp

/-- Texts with colons between. -/
def joinC : List (List UInt8) → List UInt8
  | [] => []
  | [x] => x
  | x :: y :: l => x ++ 58 :: joinC (y :: l)
theorem split_joinC : ∀ ls : List (List UInt8), ls ≠ [] → (∀ x ∈ ls, ∀ c ∈ x, c ≠ 58) → splitOn 58 (joinC ls) = ls
  | [], h, _ => absurd rfl h
  | [x], _, h => splitOn_miss 58 x (h x (by simp))
  | x :: y :: l, _, h => by
    rw [joinC, splitOn_hit 58 _ x (h x (by simp)), split_joinC (y :: l) (by simp) (fun z hz => h z (by simp [hz]))]

/-- A text with no colon in it, and not empty. -/
def plainTxt (x : List UInt8) : Prop := x ≠ [] ∧ ∀ c ∈ x, c ≠ 58

theorem cc_app (r : List UInt8) (hr : hasCC r = false) : ∀ x : List UInt8, (∀ c ∈ x, c ≠ 58) → hasCC (x ++ r) = false
  | [], _ => hr
  | a :: x, h => by
    rw [List.cons_append, hasCC, Bool.or_eq_false_iff]
    refine ⟨?_, cc_app r hr x (fun c hc => h c (by simp [hc]))⟩
    have : (a == 58) = false := by rw [beq_eq_false_iff_ne]; exact h a (by simp)
    rw [this]; rfl
theorem joinC_head : ∀ ls : List (List UInt8), ls ≠ [] → (∀ x ∈ ls, plainTxt x) → ∀ r, (joinC ls ++ r).head? ≠ some 58
  | [], h, _, _ => absurd rfl h
  | [x], _, h, r => by
    obtain ⟨h1, h2⟩ := h x (by simp)
    cases x with
    | nil => exact absurd rfl h1
    | cons a x => simp [joinC]; exact h2 a (by simp)
  | x :: y :: l, _, h, r => by
    obtain ⟨h1, h2⟩ := h x (by simp)
    cases x with
    | nil => exact absurd rfl h1
    | cons a x => simp [joinC]; exact h2 a (by simp)
theorem cc_joinC (r : List UInt8) (hr : hasCC r = false) : ∀ ls : List (List UInt8), (∀ x ∈ ls, plainTxt x) → hasCC (joinC ls ++ r) = false
  | [], _ => hr
  | [x], h => cc_app r hr x (h x (by simp)).2
  | x :: y :: l, h => by
    have ih := cc_joinC r hr (y :: l) (fun z hz => h z (by simp [hz]))
    rw [joinC, List.append_assoc]
    refine cc_app _ ?_ x (h x (by simp)).2
    rw [List.cons_append, hasCC, Bool.or_eq_false_iff]
    refine ⟨?_, ih⟩
    have := joinC_head (y :: l) (by simp) (fun z hz => h z (by simp [hz])) r
    rw [Bool.and_eq_false_iff]
    right
    rw [beq_eq_false_iff_ne]
    exact this

/-- Texts and the pieces that they are. -/
def readsAs (ls : List (List UInt8 × Nat)) : Prop := ∀ y ∈ ls, plainTxt y.1 ∧ sixPiece y.1 = some (y.2 : Int) ∧ ¬ 0 ≤ Lib.indexByte y.1 46
theorem sixAcc_reads : ∀ (ls : List (List UInt8 × Nat)) (ps : List Int), readsAs ls → sixAcc ps (ls.map (·.1)) = some (ps ++ ls.map fun y => (y.2 : Int))
  | [], ps, _ => by simp [sixAcc]
  | y :: ls, ps, h => by
    have h1 := (h y (by simp)).2.1
    have ih := sixAcc_reads ls (ps ++ [(y.2 : Int)]) (fun z hz => h z (by simp [hz]))
    simp only [List.map_cons, sixAcc, h1, ih, List.append_assoc, List.singleton_append]
theorem sixLast_reads (ls : List (List UInt8 × Nat)) (h : readsAs ls) : sixLast (ls.map (·.1)) = some (ls.map fun y => (y.2 : Int)) := by
  unfold sixLast
  cases hl : (ls.map (·.1)).getLast? with
  | none =>
    have : ls = [] := by simpa using hl
    subst this
    rfl
  | some x =>
    have hm := List.mem_of_getLast? hl
    obtain ⟨y, hy, rfl⟩ := List.mem_map.1 hm
    simp only [(h y hy).2.2, if_false]
    exact sixAcc_reads ls [] h
theorem split_reads (ls : List (List UInt8 × Nat)) (h : readsAs ls) : sixSplit (joinC (ls.map (·.1))) = ls.map (·.1) := by
  unfold sixSplit
  cases ls with
  | nil => rfl
  | cons y l =>
    have hne : joinC ((y :: l).map (·.1)) ≠ [] := by
      intro e
      have h2 := (h y (by simp)).1.1
      cases l with
      | nil => simp [joinC] at e; exact h2 e
      | cons z l => simp [joinC] at e
    rw [if_neg hne]
    exact split_joinC _ (by simp) (fun x hx => by
      obtain ⟨z, hz, rfl⟩ := List.mem_map.1 hx
      exact (h z hz).1.2)

/-- Eight pieces in full. -/
theorem sixOf_full (ls : List (List UInt8 × Nat)) (h : readsAs ls) (h8 : ls.length = 8) : sixOf (joinC (ls.map (·.1))) = some (ls.map fun y => (y.2 : Int)) := by
  have hp : ∀ x ∈ ls.map (·.1), plainTxt x := fun x hx => by
    obtain ⟨z, hz, rfl⟩ := List.mem_map.1 hx
    exact (h z hz).1
  have hc := cc_joinC [] rfl (ls.map (·.1)) hp
  rw [List.append_nil] at hc
  unfold sixOf
  rw [cut_none _ hc]
  simp only [split_reads ls h, sixLast_reads ls h]
  rw [show sixPieces (sixSplit []) = some [] from rfl]
  simp [sixFill, h8]

/-- Pieces ahead and behind two colons. -/
theorem sixOf_short (fs gs : List (List UInt8 × Nat)) (hf : readsAs fs) (hg : readsAs gs) (h8 : fs.length + gs.length < 8) :
    sixOf (joinC (fs.map (·.1)) ++ 58 :: 58 :: joinC (gs.map (·.1))) = some ((fs.map fun y => (y.2 : Int)) ++ (List.replicate (8 - fs.length - gs.length) 0 ++ gs.map fun y => (y.2 : Int))) := by
  have hp : ∀ x ∈ fs.map (·.1), plainTxt x := fun x hx => by
    obtain ⟨z, hz, rfl⟩ := List.mem_map.1 hx
    exact (hf z hz).1
  have hc := cc_joinC [58] (by decide) (fs.map (·.1)) hp
  unfold sixOf
  rw [cut_hit _ _ hc]
  simp only [split_reads fs hf, split_reads gs hg, sixLast_reads gs hg]
  rw [show sixPieces (fs.map (·.1)) = some (fs.map fun y => (y.2 : Int)) from sixAcc_reads fs [] hf]
  have : (fs.length : Int) + (gs.length : Int) < 8 := by omega
  simp [sixFill, this]
end Go.Moor
/-
  Plain mathematics for the texts that are made of eight pieces: each is told in one way.
-/
namespace Go.Moor
open Go

theorem hexL_plain : ∀ d : Fin 16, hexL d.val ≠ 58 ∧ hexL d.val ≠ 46 := by decide +kernel
theorem piece_mem (n : Nat) (hn : n < 65536) (c : UInt8) (hc : c ∈ digsF 16 3 n) : c ≠ 58 ∧ c ≠ 46 := by
  obtain ⟨d, hd, rfl⟩ := digs_mem 16 (by omega) 3 n hn c hc
  exact hexL_plain ⟨d, hd⟩
theorem piece_ne (n : Nat) (hn : n < 65536) : digsF 16 3 n ≠ [] := by
  obtain ⟨d, r, h, _⟩ := digs_head 16 (by omega) 3 n hn
  rw [h]; simp
theorem no_dot (l : List UInt8) (h : ∀ c ∈ l, c ≠ 46) : ¬ 0 ≤ Lib.indexByte l 46 := by
  rcases indexByte_split 46 l with ⟨h1, _⟩ | ⟨p, r, rfl, _, _⟩
  · rw [h1]; decide
  · exact absurd rfl (h 46 (by simp))
theorem piece_reads (n : Nat) (hn : n < 65536) : plainTxt (digsF 16 3 n) ∧ sixPiece (digsF 16 3 n) = some (n : Int) ∧ ¬ 0 ≤ Lib.indexByte (digsF 16 3 n) 46 := by
  refine ⟨⟨piece_ne n hn, fun c hc => (piece_mem n hn c hc).1⟩, ?_, no_dot _ fun c hc => (piece_mem n hn c hc).2⟩
  have h1 := digs_len 16 3 n
  have h2 : 0 < (digsF 16 3 n).length := List.length_pos_iff.2 (piece_ne n hn)
  unfold sixPiece
  rw [if_neg (by omega)]
  exact digs_val 16 65535 (by omega) (by omega) 3 n hn (by omega)
theorem piece_reads0 (n : Nat) (hn : n < 65536) (h4 : (digsF 16 3 n).length < 4) : plainTxt (48 :: digsF 16 3 n) ∧ sixPiece (48 :: digsF 16 3 n) = some (n : Int) ∧ ¬ 0 ≤ Lib.indexByte (48 :: digsF 16 3 n) 46 := by
  have hm : ∀ c ∈ (48 :: digsF 16 3 n : List UInt8), c ≠ 58 ∧ c ≠ 46 := by
    intro c hc
    rcases List.mem_cons.1 hc with rfl | hc
    · decide
    · exact piece_mem n hn c hc
  refine ⟨⟨by simp, fun c hc => (hm c hc).1⟩, ?_, no_dot _ fun c hc => (hm c hc).2⟩
  unfold sixPiece
  rw [if_neg (by simp; omega)]
  have := digs_val 16 65535 (by omega) (by omega) 3 n hn (by omega)
  show digAcc 16 65535 0 (48 :: digsF 16 3 n) = _
  rw [digAcc, show hexVal (48 : UInt8).toNat = 0 by decide]
  exact this

/-- The pieces as they are told, with their numbers. -/
def toldRow (ns : List Nat) : List (List UInt8 × Nat) := ns.map fun n => (digsF 16 3 n, n)
theorem toldRow_reads (ns : List Nat) (h : ∀ n ∈ ns, n < 65536) : readsAs (toldRow ns) := by
  intro y hy
  obtain ⟨n, hn, rfl⟩ := List.mem_map.1 hy
  exact piece_reads n (h n hn)
theorem toldRow_fst (ns : List Nat) : (toldRow ns).map (·.1) = ns.map pieceTxt := by
  unfold toldRow
  rw [List.map_map]; rfl
theorem toldRow_snd (ns : List Nat) : ((toldRow ns).map fun y => (y.2 : Int)) = ns.map fun n : Nat => (n : Int) := by
  unfold toldRow
  rw [List.map_map]; rfl
theorem join_C : ∀ ls : List (List UInt8), Lib.join ls [58] = joinC ls
  | [] => rfl
  | [x] => Lib.join_one x [58]
  | x :: y :: l => by
    have ih := join_C (y :: l)
    rw [Lib.join_cons] at ih ⊢
    rw [joinC, ← ih]
    simp [Lib.joinTail]
theorem tellRow_C (ns : List Nat) : tellRow ns = joinC ((toldRow ns).map (·.1)) := by
  rw [toldRow_fst]
  exact join_C _

theorem back_nats (ns : List Nat) : (ns.map fun n : Nat => (n : Int)).map Int.toNat = ns := by
  rw [List.map_map]
  refine (List.map_congr_left fun n _ => ?_).trans (List.map_id ns)
  simp

/-- What is read of a text without brackets, told. -/
theorem bracketed_of (l : List UInt8) (ns : List Nat) (h : sixOf l = some (ns.map fun n : Nat => (n : Int))) : bracketed (l ++ [93]) = some ([91] ++ (sixTell ns ++ [93])) := by
  have hs : Lib.hasSuffix (l ++ [93]) [93] = true := by simp [Lib.hasSuffix]
  unfold bracketed
  rw [if_pos hs]
  have ht : Lib.trimSuffix (l ++ [93]) [93] = l := by
    unfold Lib.trimSuffix
    rw [if_pos hs]
    simp
  rw [ht, h]
  simp only [back_nats]

/-- The row that is found is one of noughts. -/
theorem noughts_zero (ns : List Nat) : ∀ (k i row s l : Nat), i + k = ns.length → row ≤ i → (∀ j, i - row ≤ j → j < i → ns[j]? = some 0) → (∀ j, s ≤ j → j < s + l → ns[j]? = some 0) → ∀ j, (noughts (ns.drop i) i row s l).1 ≤ j → j < (noughts (ns.drop i) i row s l).1 + (noughts (ns.drop i) i row s l).2 → ns[j]? = some 0
  | 0, i, row, s, l, hi, _, _, h2 => by
    rw [List.drop_eq_nil_of_le (by omega)]
    exact h2
  | k + 1, i, row, s, l, hi, hr, h1, h2 => by
    obtain ⟨x, hx⟩ : ∃ x, ns[i]? = some x := ⟨ns[i]'(by omega), by simp⟩
    obtain ⟨hlt, he⟩ := List.getElem?_eq_some_iff.1 hx
    rw [List.drop_eq_getElem_cons hlt, he]
    unfold noughts
    split
    · exact noughts_zero ns k (i + 1) 0 s l (by omega) (by omega) (fun j a b => absurd b (by omega)) h2
    · rename_i h0
      have hx0 : x = 0 := Decidable.not_not.1 h0
      subst hx0
      have h3 : ∀ j, i - row ≤ j → j < i + 1 → ns[j]? = some 0 := by
        intro j a b
        by_cases hj : j = i
        · rw [hj]; exact hx
        · exact h1 j a (by omega)
      split
      · exact noughts_zero ns k (i + 1) (row + 1) (i - row) (row + 1) (by omega) (by omega) (fun j a b => h3 j (by omega) b) (fun j a b => h3 j a (by omega))
      · exact noughts_zero ns k (i + 1) (row + 1) s l (by omega) (by omega) (fun j a b => h3 j (by omega) b) h2

theorem zero_mid (ns : List Nat) (s l : Nat) (h : ∀ j, s ≤ j → j < s + l → ns[j]? = some 0) : ns = ns.take s ++ (List.replicate l 0 ++ ns.drop (s + l)) := by
  have e : (ns.drop s).take l = List.replicate l 0 := by
    apply List.ext_getElem?
    intro j
    rw [List.getElem?_take, List.getElem?_replicate]
    by_cases hj : j < l
    · rw [if_pos hj, if_pos hj, List.getElem?_drop]
      exact h (s + j) (by omega) (by omega)
    · rw [if_neg hj, if_neg hj]
  rw [← e, show s + l = s + l from rfl, ← List.drop_drop, List.take_append_drop, List.take_append_drop]

/-- What two colons stand for. -/
theorem sixOf_gap (ns : List Nat) (s l : Nat) (h8 : ns.length = 8) (hn : ∀ n ∈ ns, n < 65536) (hl : s + l ≤ 8) (hl1 : 1 ≤ l) (h : ∀ j, s ≤ j → j < s + l → ns[j]? = some 0) :
    sixOf (tellRow (ns.take s) ++ 58 :: 58 :: tellRow (ns.drop (s + l))) = some (ns.map fun n : Nat => (n : Int)) := by
  rw [tellRow_C, tellRow_C, sixOf_short _ _ (toldRow_reads _ fun n hm => hn n (List.mem_of_mem_take hm)) (toldRow_reads _ fun n hm => hn n (List.mem_of_mem_drop hm)) (by simp [toldRow]; omega), toldRow_snd, toldRow_snd]
  have e := zero_mid ns s l h
  have hk : 8 - (toldRow (ns.take s)).length - (toldRow (ns.drop (s + l))).length = l := by simp [toldRow]; omega
  rw [hk]
  conv => rhs; rw [e]
  simp

theorem sixOf_whole (ns : List Nat) (h8 : ns.length = 8) (hn : ∀ n ∈ ns, n < 65536) : sixOf (tellRow ns) = some (ns.map fun n : Nat => (n : Int)) := by
  rw [tellRow_C, sixOf_full _ (toldRow_reads ns hn) (by simp [toldRow, h8]), toldRow_snd]

/-- What is told is read as itself. -/
theorem sixOf_told (ns : List Nat) (h8 : ns.length = 8) (hn : ∀ n ∈ ns, n < 65536) : sixOf (sixTell ns) = some (ns.map fun n : Nat => (n : Int)) := by
  unfold sixTell
  split
  · exact sixOf_whole ns h8 hn
  · rename_i hl
    have hb := noughts_bound 8 ns 0 0 0 0 (by omega) (by omega) (by omega)
    have hz := noughts_zero ns 8 0 0 0 0 (by omega) (by omega) (fun j a b => absurd b (by omega)) (fun j a b => absurd b (by omega))
    rw [List.drop_zero] at hz
    exact sixOf_gap ns _ _ h8 hn hb (by omega) hz
end Go.Moor
/-
  Plain mathematics for six pieces and an IP4's end.
-/
namespace Go.Moor
open Go

theorem dec_plain (b : Nat) (hb : b < 256) : plainDec (Lib.decDigits b) = some (b : Int) ∧ (∀ c ∈ Lib.decDigits b, c ≠ 58 ∧ c ≠ 46) ∧ Lib.decDigits b ≠ [] := by
  rw [← digs_dec 2 b (by omega)]
  obtain ⟨d, r, he, hd, h0, h1⟩ := digs_head 10 (by omega) 2 b (by omega)
  have hne : digsF 10 2 b ≠ [] := by rw [he]; simp
  refine ⟨?_, fun c hc => ?_, hne⟩
  · unfold plainDec
    rw [if_neg hne, if_neg]
    · exact digs_val 10 255 (by omega) (by omega) 2 b (by omega) (by omega)
    · rintro ⟨h2, h3⟩
      rw [he] at h2 h3
      simp at h2 h3
      by_cases hd0 : d = 0
      · rw [h1 hd0] at h3; simp at h3
      · exact hexL_ne48 ⟨d, by omega⟩ hd0 h2
  · obtain ⟨e, hed, rfl⟩ := digs_mem 10 (by omega) 2 b (by omega) c hc
    exact hexL_plain ⟨e, by omega⟩

theorem join_D : ∀ ls : List (List UInt8), Lib.join ls [46] = joinDots ls
  | [] => rfl
  | [x] => Lib.join_one x [46]
  | x :: y :: l => by
    have ih := join_D (y :: l)
    rw [Lib.join_cons] at ih ⊢
    rw [joinDots, ← ih]
    simp [Lib.joinTail]

theorem four_bytes (n : Nat) (hn : n < 4294967296) : ((byte4 n 0 * 256 + byte4 n 1) * 256 + byte4 n 2) * 256 + byte4 n 3 = n := by
  have e0 : byte4 n 0 = n / 16777216 % 256 := rfl
  have e1 : byte4 n 1 = n / 65536 % 256 := rfl
  have e2 : byte4 n 2 = n / 256 % 256 := rfl
  have e3 : byte4 n 3 = n / 1 % 256 := rfl
  rw [e0, e1, e2, e3]
  omega

theorem dotted_tell4 (n : Nat) (hn : n < 4294967296) : sixDotted (tell4 n) = some (n : Int) ∧ plainTxt (tell4 n) ∧ 0 ≤ Lib.indexByte (tell4 n) 46 := by
  have h0 := dec_plain (byte4 n 0) (byte4_lt n 0)
  have h1 := dec_plain (byte4 n 1) (byte4_lt n 1)
  have h2 := dec_plain (byte4 n 2) (byte4_lt n 2)
  have h3 := dec_plain (byte4 n 3) (byte4_lt n 3)
  have ht : tell4 n = joinDots [Lib.decDigits (byte4 n 0), Lib.decDigits (byte4 n 1), Lib.decDigits (byte4 n 2), Lib.decDigits (byte4 n 3)] := join_D _
  have hm : ∀ x ∈ [Lib.decDigits (byte4 n 0), Lib.decDigits (byte4 n 1), Lib.decDigits (byte4 n 2), Lib.decDigits (byte4 n 3)], ∀ c ∈ x, c ≠ 58 ∧ c ≠ 46 := by
    intro x hx
    simp at hx
    rcases hx with rfl | rfl | rfl | rfl
    · exact h0.2.1
    · exact h1.2.1
    · exact h2.2.1
    · exact h3.2.1
  have hs : splitOn 46 (tell4 n) = [Lib.decDigits (byte4 n 0), Lib.decDigits (byte4 n 1), Lib.decDigits (byte4 n 2), Lib.decDigits (byte4 n 3)] := by
    rw [ht]
    exact split_joinDots _ (by simp) fun x hx c hc => (hm x hx c hc).2
  refine ⟨?_, ⟨?_, ?_⟩, ?_⟩
  · unfold sixDotted
    rw [hs, if_pos (by rfl)]
    simp only [dotAcc, h0.1, h1.1, h2.1, h3.1]
    have := four_bytes n hn
    congr 1
    omega
  · rw [ht]; simp [joinDots]
  · intro c hc
    rw [ht] at hc
    rcases joinDots_mem _ c hc with rfl | ⟨x, hx, hcx⟩
    · decide
    · exact (hm x hx c hcx).1
  · rcases indexByte_split 46 (tell4 n) with ⟨_, h⟩ | ⟨p, r, _, _, h⟩
    · exact absurd rfl (h 46 (by rw [ht]; simp [joinDots]))
    · rw [h]; omega

/-- Six pieces, and numbers with dots for two. -/
theorem sixOf_dots (ns : List Nat) (n : Nat) (h6 : ns.length = 6) (hs : ∀ k ∈ ns, k < 65536) (hn : n < 4294967296) :
    sixOf (joinC (ns.map pieceTxt ++ [tell4 n])) = some ((ns ++ [n / 65536, n % 65536]).map fun n : Nat => (n : Int)) := by
  obtain ⟨hd1, hd2, hd3⟩ := dotted_tell4 n hn
  have hr := toldRow_reads ns hs
  have hp : ∀ x ∈ ns.map pieceTxt ++ [tell4 n], plainTxt x := by
    intro x hx
    rcases List.mem_append.1 hx with hx | hx
    · obtain ⟨k, hk, rfl⟩ := List.mem_map.1 hx
      exact (piece_reads k (hs k hk)).1
    · simp at hx; subst hx; exact hd2
  have hc := cc_joinC [] rfl _ hp
  rw [List.append_nil] at hc
  have hne : joinC (ns.map pieceTxt ++ [tell4 n]) ≠ [] := by
    intro e
    have := split_joinC _ (by simp) fun x hx => (hp x hx).2
    rw [e] at this
    have := congrArg List.length this
    simp [splitOn, h6] at this
  unfold sixOf
  rw [cut_none _ hc]
  simp only []
  rw [show sixPieces (sixSplit []) = some [] from rfl]
  have hsp : sixSplit (joinC (ns.map pieceTxt ++ [tell4 n])) = ns.map pieceTxt ++ [tell4 n] := by
    unfold sixSplit
    rw [if_neg hne]
    exact split_joinC _ (by simp) fun x hx => (hp x hx).2
  have hl : sixLast (ns.map pieceTxt ++ [tell4 n]) = some ((ns ++ [n / 65536, n % 65536]).map fun n : Nat => (n : Int)) := by
    unfold sixLast
    rw [List.getLast?_append]
    simp only [List.getLast?_singleton, Option.some_or, hd3, if_true, List.dropLast_concat]
    rw [← toldRow_fst, show sixPieces ((toldRow ns).map (·.1)) = some ((toldRow ns).map fun y => (y.2 : Int)) from sixAcc_reads _ [] hr, hd1, toldRow_snd]
    simp [sixJoin]
  rw [hsp, hl]
  simp [sixFill, h6]
end Go.Moor
/-
  Plain mathematics for what is told of eight pieces: two colons stand beside one another at most once; where they do not, no two noughts stand beside one another; no great letter.
-/
namespace Go.Moor
open Go

/-- How often two colons stand beside one another. -/
def ccCount : List UInt8 → Nat
  | [] => 0
  | a :: l => (if (a == 58 && l.head? == some 58) = true then 1 else 0) + ccCount l
theorem ccCount_none : ∀ l : List UInt8, hasCC l = false → ccCount l = 0
  | [], _ => rfl
  | a :: l, h => by
    rw [hasCC, Bool.or_eq_false_iff] at h
    rw [ccCount, h.1, ccCount_none l h.2]
    rfl
theorem ccCount_one (r : List UInt8) (hr : hasCC (58 :: r) = false) : ∀ p : List UInt8, hasCC (p ++ [58]) = false → ccCount (p ++ 58 :: 58 :: r) = 1
  | [], _ => by
    show ccCount (58 :: 58 :: r) = 1
    rw [ccCount, ccCount_none _ hr]
    rfl
  | a :: q, h => by
    rw [List.cons_append, hasCC, Bool.or_eq_false_iff] at h
    show ccCount (a :: (q ++ 58 :: 58 :: r)) = 1
    rw [ccCount, head_app, h.1, ccCount_one r hr q h.2]
    rfl

theorem noughts_ge : ∀ (ps : List Nat) (i row s l : Nat), l ≤ (noughts ps i row s l).2
  | [], _, _, _, _ => Nat.le_refl _
  | p :: ps, i, row, s, l => by
    unfold noughts
    split
    · exact noughts_ge ps _ _ _ _
    · split
      · rename_i h
        exact Nat.le_trans (Nat.le_of_lt h) (noughts_ge ps _ _ _ _)
      · exact noughts_ge ps _ _ _ _
theorem noughts_next (ps : List Nat) (i row s l : Nat) : row + 1 ≤ (noughts (0 :: ps) i row s l).2 := by
  unfold noughts
  rw [if_neg (by simp)]
  split
  · exact noughts_ge ps _ _ _ _
  · rename_i h
    exact Nat.le_trans (by omega) (noughts_ge ps (i + 1) (row + 1) s l)
theorem noughts_two (b : List Nat) : ∀ (a : List Nat) (i row s l : Nat), 2 ≤ (noughts (a ++ 0 :: 0 :: b) i row s l).2
  | [], i, row, s, l => by
    show 2 ≤ (noughts (0 :: 0 :: b) i row s l).2
    rw [noughts, if_neg (by simp)]
    split
    · exact Nat.le_trans (by omega) (noughts_next b (i + 1) (row + 1) _ _)
    · exact Nat.le_trans (by omega) (noughts_next b (i + 1) (row + 1) _ _)
  | p :: a, i, row, s, l => by
    show 2 ≤ (noughts (p :: (a ++ 0 :: 0 :: b)) i row s l).2
    rw [noughts]
    split
    · exact noughts_two b a _ _ _ _
    · split
      · exact noughts_two b a _ _ _ _
      · exact noughts_two b a _ _ _ _
theorem no_two (ns : List Nat) (h : (noughts ns 0 0 0 0).2 < 2) (i : Nat) (h0 : ns[i]? = some 0) (h1 : ns[i + 1]? = some 0) : False := by
  obtain ⟨a0, e0⟩ := List.getElem?_eq_some_iff.1 h0
  obtain ⟨a1, e1⟩ := List.getElem?_eq_some_iff.1 h1
  have e : ns = ns.take i ++ 0 :: 0 :: ns.drop (i + 2) := by
    conv => lhs; rw [← List.take_append_drop i ns, List.drop_eq_getElem_cons a0, List.drop_eq_getElem_cons a1, e0, e1]
  have := noughts_two (ns.drop (i + 2)) (ns.take i) 0 0 0 0
  rw [← e] at this
  omega

theorem row_plain (ns : List Nat) (hn : ∀ n ∈ ns, n < 65536) : ∀ x ∈ (toldRow ns).map (·.1), plainTxt x := by
  intro x hx
  obtain ⟨z, hz, rfl⟩ := List.mem_map.1 hx
  exact (toldRow_reads ns hn z hz).1

/-- What is told, in its brackets. -/
def sixWant (ns : List Nat) : List UInt8 := [91] ++ (sixTell ns ++ [93])

theorem cc_colon (ns : List Nat) (hn : ∀ n ∈ ns, n < 65536) : hasCC (58 :: (tellRow ns ++ [93])) = false := by
  rw [hasCC, Bool.or_eq_false_iff]
  rw [tellRow_C]
  refine ⟨?_, cc_joinC [93] (by decide) _ (row_plain ns hn)⟩
  rw [Bool.and_eq_false_iff]
  right
  rw [beq_eq_false_iff_ne]
  cases ns with
  | nil => decide
  | cons n l => exact joinC_head _ (by simp [toldRow]) (row_plain _ hn) [93]

theorem want_short (ns : List Nat) (hn : ∀ n ∈ ns, n < 65536) : ccCount (sixWant ns) = if (noughts ns 0 0 0 0).2 < 2 then 0 else 1 := by
  unfold sixWant sixTell
  split
  · refine ccCount_none _ ?_
    rw [tellRow_C]
    exact cc_app _ (cc_joinC [93] (by decide) _ (row_plain ns hn)) [91] (by decide)
  · have h1 : ∀ n ∈ ns.take (noughts ns 0 0 0 0).1, n < 65536 := fun n hm => hn n (List.mem_of_mem_take hm)
    have h2 : ∀ n ∈ ns.drop ((noughts ns 0 0 0 0).1 + (noughts ns 0 0 0 0).2), n < 65536 := fun n hm => hn n (List.mem_of_mem_drop hm)
    have := ccCount_one (tellRow (ns.drop ((noughts ns 0 0 0 0).1 + (noughts ns 0 0 0 0).2)) ++ [93]) (cc_colon _ h2) ([91] ++ tellRow (ns.take (noughts ns 0 0 0 0).1)) (by
      rw [List.append_assoc, tellRow_C]
      exact cc_app _ (cc_joinC [58] (by decide) _ (row_plain _ h1)) [91] (by decide))
    rw [← this]
    congr 1
    simp

theorem hexL_small : ∀ d : Fin 16, (hexL d.val).toNat < 65 ∨ 70 < (hexL d.val).toNat := by decide +kernel
theorem joinC_mem : ∀ (ls : List (List UInt8)) (c : UInt8), c ∈ joinC ls → c = 58 ∨ ∃ x ∈ ls, c ∈ x
  | [], c, h => by simp [joinC] at h
  | [x], c, h => Or.inr ⟨x, by simp, h⟩
  | x :: y :: l, c, h => by
    rw [joinC] at h
    rcases List.mem_append.1 h with h | h
    · exact Or.inr ⟨x, by simp, h⟩
    · rcases List.mem_cons.1 h with h | h
      · exact Or.inl h
      · rcases joinC_mem (y :: l) c h with h | ⟨z, hz, hc⟩
        · exact Or.inl h
        · exact Or.inr ⟨z, by simp at hz ⊢; exact Or.inr hz, hc⟩
theorem row_small (ns : List Nat) (hn : ∀ n ∈ ns, n < 65536) (c : UInt8) (hc : c ∈ tellRow ns) : c.toNat < 65 ∨ 70 < c.toNat := by
  rw [tellRow_C] at hc
  rcases joinC_mem _ c hc with rfl | ⟨x, hx, hcx⟩
  · decide
  · rw [toldRow_fst] at hx
    obtain ⟨n, hm, rfl⟩ := List.mem_map.1 hx
    obtain ⟨d, hd, rfl⟩ := digs_mem 16 (by omega) 3 n (hn n hm) c hcx
    exact hexL_small ⟨d, hd⟩
theorem want_small (ns : List Nat) (hn : ∀ n ∈ ns, n < 65536) (c : UInt8) (hc : c ∈ sixWant ns) : c.toNat < 65 ∨ 70 < c.toNat := by
  unfold sixWant sixTell at hc
  split at hc
  · simp at hc
    rcases hc with rfl | hc | rfl
    · decide
    · exact row_small ns hn c hc
    · decide
  · simp at hc
    rcases hc with rfl | hc | rfl | hc | rfl
    · decide
    · exact row_small _ (fun n hm => hn n (List.mem_of_mem_take hm)) c hc
    · decide
    · exact row_small _ (fun n hm => hn n (List.mem_of_mem_drop hm)) c hc
    · decide
end Go.Moor
/-
  Plain mathematics for eight pieces in full, a nought ahead of the short ones at even places.
-/
namespace Go.Moor
open Go

def wholeTxt (i n : Nat) : List UInt8 := if (digsF 16 3 n).length < 4 ∧ i % 2 = 0 then 48 :: digsF 16 3 n else digsF 16 3 n
def wholeRow (ns : List Nat) : List (List UInt8 × Nat) := ns.zipIdx.map fun y => (wholeTxt y.2 y.1, y.1)
theorem whole_reads (ns : List Nat) (hn : ∀ n ∈ ns, n < 65536) : readsAs (wholeRow ns) := by
  intro y hy
  obtain ⟨z, hz, rfl⟩ := List.mem_map.1 hy
  have hm : z.1 ∈ ns := List.fst_mem_of_mem_zipIdx hz
  show plainTxt (wholeTxt z.2 z.1) ∧ sixPiece (wholeTxt z.2 z.1) = some (z.1 : Int) ∧ ¬ 0 ≤ Lib.indexByte (wholeTxt z.2 z.1) 46
  unfold wholeTxt
  split
  · rename_i h
    exact piece_reads0 z.1 (hn z.1 hm) h.1
  · exact piece_reads z.1 (hn z.1 hm)
theorem wholeRow_snd (ns : List Nat) : ((wholeRow ns).map fun y => (y.2 : Int)) = ns.map fun n : Nat => (n : Int) := by
  unfold wholeRow
  rw [List.map_map]
  show ns.zipIdx.map ((fun n : Nat => (n : Int)) ∘ Prod.fst) = _
  rw [← List.map_map, List.zipIdx_map_fst]
theorem sixOf_wholeRow (ns : List Nat) (h8 : ns.length = 8) (hn : ∀ n ∈ ns, n < 65536) : sixOf (joinC ((wholeRow ns).map (·.1))) = some (ns.map fun n : Nat => (n : Int)) := by
  rw [sixOf_full _ (whole_reads ns hn) (by simp [wholeRow, h8]), wholeRow_snd]

/-- The four hosts that are made of eight pieces, behind their bracket: each is told in one way. -/
theorem want_whole (ns : List Nat) (h8 : ns.length = 8) (hn : ∀ n ∈ ns, n < 65536) : bracketed (joinC ((wholeRow ns).map (·.1)) ++ [93]) = some (sixWant ns) := bracketed_of _ ns (sixOf_wholeRow ns h8 hn)
theorem want_gap (ns : List Nat) (s l : Nat) (h8 : ns.length = 8) (hn : ∀ n ∈ ns, n < 65536) (hl : s + l ≤ 8) (hl1 : 1 ≤ l) (h : ∀ j, s ≤ j → j < s + l → ns[j]? = some 0) :
    bracketed ((tellRow (ns.take s) ++ 58 :: 58 :: tellRow (ns.drop (s + l))) ++ [93]) = some (sixWant ns) := bracketed_of _ ns (sixOf_gap ns s l h8 hn hl hl1 h)
theorem want_dots (ns : List Nat) (n : Nat) (h6 : ns.length = 6) (hs : ∀ k ∈ ns, k < 65536) (hn : n < 4294967296) :
    bracketed (joinC (ns.map pieceTxt ++ [tell4 n]) ++ [93]) = some (sixWant (ns ++ [n / 65536, n % 65536])) := bracketed_of _ _ (sixOf_dots ns n h6 hs hn)
theorem want_told (ns : List Nat) (h8 : ns.length = 8) (hn : ∀ n ∈ ns, n < 65536) : bracketed ((sixWant ns).drop 1) = some (sixWant ns) := bracketed_of _ ns (sixOf_told ns h8 hn)
end Go.Moor
