/-
  Plain mathematics for what is told of eight pieces: two colons stand beside one another at most once; where they do not, no two noughts stand beside one another; no great letter.
-/
import Derived.Test.YtkcnageeamappaaGreatDoorSxDots
namespace Go.Moor
open Go

/-- How often two colons stand beside one another. -/
def ccCount : List UInt8 → Nat
  | [] => 0
  | a :: l => (if (a == 58 && l.head? == some 58) = true then 1 else 0) + ccCount l
theorem ccCount_none : ∀ l : List UInt8, hasCC l = false → ccCount l = 0
  | [], _ => rfl
  | a :: l, h => by
    rw [hasCC, Bool.or_eq_false_iff] at h
    rw [ccCount, h.1, ccCount_none l h.2]
    rfl
theorem ccCount_one (r : List UInt8) (hr : hasCC (58 :: r) = false) : ∀ p : List UInt8, hasCC (p ++ [58]) = false → ccCount (p ++ 58 :: 58 :: r) = 1
  | [], _ => by
    show ccCount (58 :: 58 :: r) = 1
    rw [ccCount, ccCount_none _ hr]
    rfl
  | a :: q, h => by
    rw [List.cons_append, hasCC, Bool.or_eq_false_iff] at h
    show ccCount (a :: (q ++ 58 :: 58 :: r)) = 1
    rw [ccCount, head_app, h.1, ccCount_one r hr q h.2]
    rfl

theorem noughts_ge : ∀ (ps : List Nat) (i row s l : Nat), l ≤ (noughts ps i row s l).2
  | [], _, _, _, _ => Nat.le_refl _
  | p :: ps, i, row, s, l => by
    unfold noughts
    split
    · exact noughts_ge ps _ _ _ _
    · split
      · rename_i h
        exact Nat.le_trans (Nat.le_of_lt h) (noughts_ge ps _ _ _ _)
      · exact noughts_ge ps _ _ _ _
theorem noughts_next (ps : List Nat) (i row s l : Nat) : row + 1 ≤ (noughts (0 :: ps) i row s l).2 := by
  unfold noughts
  rw [if_neg (by simp)]
  split
  · exact noughts_ge ps _ _ _ _
  · rename_i h
    exact Nat.le_trans (by omega) (noughts_ge ps (i + 1) (row + 1) s l)
theorem noughts_two (b : List Nat) : ∀ (a : List Nat) (i row s l : Nat), 2 ≤ (noughts (a ++ 0 :: 0 :: b) i row s l).2
  | [], i, row, s, l => by
    show 2 ≤ (noughts (0 :: 0 :: b) i row s l).2
    rw [noughts, if_neg (by simp)]
    split
    · exact Nat.le_trans (by omega) (noughts_next b (i + 1) (row + 1) _ _)
    · exact Nat.le_trans (by omega) (noughts_next b (i + 1) (row + 1) _ _)
  | p :: a, i, row, s, l => by
    show 2 ≤ (noughts (p :: (a ++ 0 :: 0 :: b)) i row s l).2
    rw [noughts]
    split
    · exact noughts_two b a _ _ _ _
    · split
      · exact noughts_two b a _ _ _ _
      · exact noughts_two b a _ _ _ _
theorem no_two (ns : List Nat) (h : (noughts ns 0 0 0 0).2 < 2) (i : Nat) (h0 : ns[i]? = some 0) (h1 : ns[i + 1]? = some 0) : False := by
  obtain ⟨a0, e0⟩ := List.getElem?_eq_some_iff.1 h0
  obtain ⟨a1, e1⟩ := List.getElem?_eq_some_iff.1 h1
  have e : ns = ns.take i ++ 0 :: 0 :: ns.drop (i + 2) := by
    conv => lhs; rw [← List.take_append_drop i ns, List.drop_eq_getElem_cons a0, List.drop_eq_getElem_cons a1, e0, e1]
  have := noughts_two (ns.drop (i + 2)) (ns.take i) 0 0 0 0
  rw [← e] at this
  omega

theorem row_plain (ns : List Nat) (hn : ∀ n ∈ ns, n < 65536) : ∀ x ∈ (toldRow ns).map (·.1), plainTxt x := by
  intro x hx
  obtain ⟨z, hz, rfl⟩ := List.mem_map.1 hx
  exact (toldRow_reads ns hn z hz).1

/-- What is told, in its brackets. -/
def sixWant (ns : List Nat) : List UInt8 := [91] ++ (sixTell ns ++ [93])

theorem cc_colon (ns : List Nat) (hn : ∀ n ∈ ns, n < 65536) : hasCC (58 :: (tellRow ns ++ [93])) = false := by
  rw [hasCC, Bool.or_eq_false_iff]
  rw [tellRow_C]
  refine ⟨?_, cc_joinC [93] (by decide) _ (row_plain ns hn)⟩
  rw [Bool.and_eq_false_iff]
  right
  rw [beq_eq_false_iff_ne]
  cases ns with
  | nil => decide
  | cons n l => exact joinC_head _ (by simp [toldRow]) (row_plain _ hn) [93]

theorem want_short (ns : List Nat) (hn : ∀ n ∈ ns, n < 65536) : ccCount (sixWant ns) = if (noughts ns 0 0 0 0).2 < 2 then 0 else 1 := by
  unfold sixWant sixTell
  split
  · refine ccCount_none _ ?_
    rw [tellRow_C]
    exact cc_app _ (cc_joinC [93] (by decide) _ (row_plain ns hn)) [91] (by decide)
  · have h1 : ∀ n ∈ ns.take (noughts ns 0 0 0 0).1, n < 65536 := fun n hm => hn n (List.mem_of_mem_take hm)
    have h2 : ∀ n ∈ ns.drop ((noughts ns 0 0 0 0).1 + (noughts ns 0 0 0 0).2), n < 65536 := fun n hm => hn n (List.mem_of_mem_drop hm)
    have := ccCount_one (tellRow (ns.drop ((noughts ns 0 0 0 0).1 + (noughts ns 0 0 0 0).2)) ++ [93]) (cc_colon _ h2) ([91] ++ tellRow (ns.take (noughts ns 0 0 0 0).1)) (by
      rw [List.append_assoc, tellRow_C]
      exact cc_app _ (cc_joinC [58] (by decide) _ (row_plain _ h1)) [91] (by decide))
    rw [← this]
    congr 1
    simp

theorem hexL_small : ∀ d : Fin 16, (hexL d.val).toNat < 65 ∨ 70 < (hexL d.val).toNat := by decide +kernel
theorem joinC_mem : ∀ (ls : List (List UInt8)) (c : UInt8), c ∈ joinC ls → c = 58 ∨ ∃ x ∈ ls, c ∈ x
  | [], c, h => by simp [joinC] at h
  | [x], c, h => Or.inr ⟨x, by simp, h⟩
  | x :: y :: l, c, h => by
    rw [joinC] at h
    rcases List.mem_append.1 h with h | h
    · exact Or.inr ⟨x, by simp, h⟩
    · rcases List.mem_cons.1 h with h | h
      · exact Or.inl h
      · rcases joinC_mem (y :: l) c h with h | ⟨z, hz, hc⟩
        · exact Or.inl h
        · exact Or.inr ⟨z, by simp at hz ⊢; exact Or.inr hz, hc⟩
theorem row_small (ns : List Nat) (hn : ∀ n ∈ ns, n < 65536) (c : UInt8) (hc : c ∈ tellRow ns) : c.toNat < 65 ∨ 70 < c.toNat := by
  rw [tellRow_C] at hc
  rcases joinC_mem _ c hc with rfl | ⟨x, hx, hcx⟩
  · decide
  · rw [toldRow_fst] at hx
    obtain ⟨n, hm, rfl⟩ := List.mem_map.1 hx
    obtain ⟨d, hd, rfl⟩ := digs_mem 16 (by omega) 3 n (hn n hm) c hcx
    exact hexL_small ⟨d, hd⟩
theorem want_small (ns : List Nat) (hn : ∀ n ∈ ns, n < 65536) (c : UInt8) (hc : c ∈ sixWant ns) : c.toNat < 65 ∨ 70 < c.toNat := by
  unfold sixWant sixTell at hc
  split at hc
  · simp at hc
    rcases hc with rfl | hc | rfl
    · decide
    · exact row_small ns hn c hc
    · decide
  · simp at hc
    rcases hc with rfl | hc | rfl | hc | rfl
    · decide
    · exact row_small _ (fun n hm => hn n (List.mem_of_mem_take hm)) c hc
    · decide
    · exact row_small _ (fun n hm => hn n (List.mem_of_mem_drop hm)) c hc
    · decide
end Go.Moor
