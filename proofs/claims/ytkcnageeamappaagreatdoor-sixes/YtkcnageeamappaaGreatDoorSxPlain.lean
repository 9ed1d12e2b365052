/-
  Plain mathematics for texts of pieces with colons between: what is read of them, with or without two colons beside one another.
-/
import Derived.Test.YtkcnageeamappaaGreatDoorSPlain
namespace Go.Moor
open Go

/-- Do two colons stand beside one another? -/
def hasCC : List UInt8 → Bool
  | [] => false
  | a :: l => (a == 58 && l.head? == some 58) || hasCC l

theorem pre_cc (a : UInt8) (l : List UInt8) (h : (a == 58 && l.head? == some 58) = false) : List.isPrefixOf [58, 58] (a :: l) = false := by
  cases l with
  | nil => simp [List.isPrefixOf]
  | cons b l =>
    simp only [List.head?_cons, Bool.and_eq_false_iff] at h
    simp only [List.isPrefixOf, Bool.and_true, Bool.and_eq_false_iff]
    rcases h with h | h
    · left
      rw [beq_eq_false_iff_ne] at h ⊢
      exact fun e => h e.symm
    · right
      rw [beq_eq_false_iff_ne] at h ⊢
      exact fun e => h (by rw [e])

theorem index_cc_none : ∀ l : List UInt8, hasCC l = false → Lib.index l [58, 58] = -1
  | [], _ => by simp [Lib.index]
  | a :: l, h => by
    rw [hasCC, Bool.or_eq_false_iff] at h
    rw [Lib.index, pre_cc a l h.1, index_cc_none l h.2]
    rfl
theorem cut_none (l : List UInt8) (h : hasCC l = false) : Lib.cut l [58, 58] = (l, [], false) := by
  unfold Lib.cut
  rw [index_cc_none l h]
  rfl
theorem head_app (q r : List UInt8) (x : UInt8) : (q ++ x :: r).head? = (q ++ [x]).head? := by cases q <;> rfl
theorem index_cc_hit (r : List UInt8) : ∀ p : List UInt8, hasCC (p ++ [58]) = false → Lib.index (p ++ 58 :: 58 :: r) [58, 58] = p.length
  | [], _ => by
    show Lib.index (58 :: 58 :: r) [58, 58] = 0
    rw [Lib.index]
    simp [List.isPrefixOf]
  | a :: q, h => by
    rw [List.cons_append, hasCC, Bool.or_eq_false_iff] at h
    have ih := index_cc_hit r q h.2
    show Lib.index (a :: (q ++ 58 :: 58 :: r)) [58, 58] = _
    rw [Lib.index, pre_cc a _ (by rw [head_app]; exact h.1), ih]
    simp only [Bool.false_eq_true, if_false]
    rw [if_neg (by simp)]
    simp
theorem cut_hit (p r : List UInt8) (h : hasCC (p ++ [58]) = false) : Lib.cut (p ++ 58 :: 58 :: r) [58, 58] = (p, r, true) := by
  unfold Lib.cut
  rw [index_cc_hit r p h, if_pos (by omega)]
  simp

/-- Texts with colons between. -/
def joinC : List (List UInt8) → List UInt8
  | [] => []
  | [x] => x
  | x :: y :: l => x ++ 58 :: joinC (y :: l)
theorem split_joinC : ∀ ls : List (List UInt8), ls ≠ [] → (∀ x ∈ ls, ∀ c ∈ x, c ≠ 58) → splitOn 58 (joinC ls) = ls
  | [], h, _ => absurd rfl h
  | [x], _, h => splitOn_miss 58 x (h x (by simp))
  | x :: y :: l, _, h => by
    rw [joinC, splitOn_hit 58 _ x (h x (by simp)), split_joinC (y :: l) (by simp) (fun z hz => h z (by simp [hz]))]

/-- A text with no colon in it, and not empty. -/
def plainTxt (x : List UInt8) : Prop := x ≠ [] ∧ ∀ c ∈ x, c ≠ 58

theorem cc_app (r : List UInt8) (hr : hasCC r = false) : ∀ x : List UInt8, (∀ c ∈ x, c ≠ 58) → hasCC (x ++ r) = false
  | [], _ => hr
  | a :: x, h => by
    rw [List.cons_append, hasCC, Bool.or_eq_false_iff]
    refine ⟨?_, cc_app r hr x (fun c hc => h c (by simp [hc]))⟩
    have : (a == 58) = false := by rw [beq_eq_false_iff_ne]; exact h a (by simp)
    rw [this]; rfl
theorem joinC_head : ∀ ls : List (List UInt8), ls ≠ [] → (∀ x ∈ ls, plainTxt x) → ∀ r, (joinC ls ++ r).head? ≠ some 58
  | [], h, _, _ => absurd rfl h
  | [x], _, h, r => by
    obtain ⟨h1, h2⟩ := h x (by simp)
    cases x with
    | nil => exact absurd rfl h1
    | cons a x => simp [joinC]; exact h2 a (by simp)
  | x :: y :: l, _, h, r => by
    obtain ⟨h1, h2⟩ := h x (by simp)
    cases x with
    | nil => exact absurd rfl h1
    | cons a x => simp [joinC]; exact h2 a (by simp)
theorem cc_joinC (r : List UInt8) (hr : hasCC r = false) : ∀ ls : List (List UInt8), (∀ x ∈ ls, plainTxt x) → hasCC (joinC ls ++ r) = false
  | [], _ => hr
  | [x], h => cc_app r hr x (h x (by simp)).2
  | x :: y :: l, h => by
    have ih := cc_joinC r hr (y :: l) (fun z hz => h z (by simp [hz]))
    rw [joinC, List.append_assoc]
    refine cc_app _ ?_ x (h x (by simp)).2
    rw [List.cons_append, hasCC, Bool.or_eq_false_iff]
    refine ⟨?_, ih⟩
    have := joinC_head (y :: l) (by simp) (fun z hz => h z (by simp [hz])) r
    rw [Bool.and_eq_false_iff]
    right
    rw [beq_eq_false_iff_ne]
    exact this

/-- Texts and the pieces that they are. -/
def readsAs (ls : List (List UInt8 × Nat)) : Prop := ∀ y ∈ ls, plainTxt y.1 ∧ sixPiece y.1 = some (y.2 : Int) ∧ ¬ 0 ≤ Lib.indexByte y.1 46
theorem sixAcc_reads : ∀ (ls : List (List UInt8 × Nat)) (ps : List Int), readsAs ls → sixAcc ps (ls.map (·.1)) = some (ps ++ ls.map fun y => (y.2 : Int))
  | [], ps, _ => by simp [sixAcc]
  | y :: ls, ps, h => by
    have h1 := (h y (by simp)).2.1
    have ih := sixAcc_reads ls (ps ++ [(y.2 : Int)]) (fun z hz => h z (by simp [hz]))
    simp only [List.map_cons, sixAcc, h1, ih, List.append_assoc, List.singleton_append]
theorem sixLast_reads (ls : List (List UInt8 × Nat)) (h : readsAs ls) : sixLast (ls.map (·.1)) = some (ls.map fun y => (y.2 : Int)) := by
  unfold sixLast
  cases hl : (ls.map (·.1)).getLast? with
  | none =>
    have : ls = [] := by simpa using hl
    subst this
    rfl
  | some x =>
    have hm := List.mem_of_getLast? hl
    obtain ⟨y, hy, rfl⟩ := List.mem_map.1 hm
    simp only [(h y hy).2.2, if_false]
    exact sixAcc_reads ls [] h
theorem split_reads (ls : List (List UInt8 × Nat)) (h : readsAs ls) : sixSplit (joinC (ls.map (·.1))) = ls.map (·.1) := by
  unfold sixSplit
  cases ls with
  | nil => rfl
  | cons y l =>
    have hne : joinC ((y :: l).map (·.1)) ≠ [] := by
      intro e
      have h2 := (h y (by simp)).1.1
      cases l with
      | nil => simp [joinC] at e; exact h2 e
      | cons z l => simp [joinC] at e
    rw [if_neg hne]
    exact split_joinC _ (by simp) (fun x hx => by
      obtain ⟨z, hz, rfl⟩ := List.mem_map.1 hx
      exact (h z hz).1.2)

/-- Eight pieces in full. -/
theorem sixOf_full (ls : List (List UInt8 × Nat)) (h : readsAs ls) (h8 : ls.length = 8) : sixOf (joinC (ls.map (·.1))) = some (ls.map fun y => (y.2 : Int)) := by
  have hp : ∀ x ∈ ls.map (·.1), plainTxt x := fun x hx => by
    obtain ⟨z, hz, rfl⟩ := List.mem_map.1 hx
    exact (h z hz).1
  have hc := cc_joinC [] rfl (ls.map (·.1)) hp
  rw [List.append_nil] at hc
  unfold sixOf
  rw [cut_none _ hc]
  simp only [split_reads ls h, sixLast_reads ls h]
  rw [show sixPieces (sixSplit []) = some [] from rfl]
  simp [sixFill, h8]

/-- Pieces ahead and behind two colons. -/
theorem sixOf_short (fs gs : List (List UInt8 × Nat)) (hf : readsAs fs) (hg : readsAs gs) (h8 : fs.length + gs.length < 8) :
    sixOf (joinC (fs.map (·.1)) ++ 58 :: 58 :: joinC (gs.map (·.1))) = some ((fs.map fun y => (y.2 : Int)) ++ (List.replicate (8 - fs.length - gs.length) 0 ++ gs.map fun y => (y.2 : Int))) := by
  have hp : ∀ x ∈ fs.map (·.1), plainTxt x := fun x hx => by
    obtain ⟨z, hz, rfl⟩ := List.mem_map.1 hx
    exact (hf z hz).1
  have hc := cc_joinC [58] (by decide) (fs.map (·.1)) hp
  unfold sixOf
  rw [cut_hit _ _ hc]
  simp only [split_reads fs hf, split_reads gs hg, sixLast_reads gs hg]
  rw [show sixPieces (fs.map (·.1)) = some (fs.map fun y => (y.2 : Int)) from sixAcc_reads fs [] hf]
  have : (fs.length : Int) + (gs.length : Int) < 8 := by omega
  simp [sixFill, this]
end Go.Moor
