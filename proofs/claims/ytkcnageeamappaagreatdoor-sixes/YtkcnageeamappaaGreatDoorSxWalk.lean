/-
  Plain mathematics for the walk of Sixes: how each of its texts grows by one piece.
-/
import Derived.Test.YtkcnageeamappaaGreatDoorSxWhole
import Derived.Test.YtkcnageeamappaaGreatDoorSBrack
namespace Go.Moor
open Go Go.Proofs

/-- The cells of the eight numbers: those that are laid, the others 0. -/
def nsAt (ns : List Nat) (j : Nat) : Nat := (ns[j]?).getD 0

theorem nsAt_new (ns : List Nat) (j p : Nat) (h : ns.length = j) : nsAt (ns ++ [p]) j = p := by
  subst h
  simp [nsAt]
theorem nsAt_old (ns : List Nat) (j q p : Nat) (h : ns.length = q) (hj : ¬ j = q) : nsAt (ns ++ [p]) j = nsAt ns j := by
  unfold nsAt
  by_cases hl : j < ns.length
  · rw [List.getElem?_append_left hl]
  · rw [List.getElem?_eq_none (by simp; omega), List.getElem?_eq_none (by omega)]
theorem nsAt_zero (ns : List Nat) (j : Nat) : nsAt (ns ++ [0]) j = nsAt ns j := by
  by_cases hj : j = ns.length
  · rw [nsAt_new ns j 0 hj.symm]
    unfold nsAt
    rw [List.getElem?_eq_none (by omega)]
    rfl
  · exact nsAt_old ns j ns.length 0 rfl hj
theorem nsAt_some (ns : List Nat) (j : Nat) (h : j < ns.length) : ns[j]? = some (nsAt ns j) := by
  unfold nsAt
  rw [List.getElem?_eq_getElem h]
  rfl
theorem take_next (ns : List Nat) (j : Nat) (h : j < ns.length) : ns.take (j + 1) = ns.take j ++ [nsAt ns j] := by
  rw [List.take_add_one, nsAt_some ns j h]
  rfl

theorem sap1 (a b c : List UInt8) : ((⟨a.toArray⟩ : ByteArray) ++ ⟨b.toArray⟩) ++ ⟨c.toArray⟩ = ⟨((a ++ b) ++ c).toArray⟩ := by rw [app_mk, app_mk]
theorem sap2 (a b c : List UInt8) : (⟨a.toArray⟩ : ByteArray) ++ (⟨b.toArray⟩ ++ ⟨c.toArray⟩) = ⟨(a ++ (b ++ c)).toArray⟩ := by rw [app_mk, app_mk]
theorem sap3 (a b c d : List UInt8) : ((⟨a.toArray⟩ : ByteArray) ++ ⟨b.toArray⟩) ++ (⟨c.toArray⟩ ++ ⟨d.toArray⟩) = ⟨((a ++ b) ++ (c ++ d)).toArray⟩ := by rw [app_mk, app_mk, app_mk]
theorem sap4 (a b c d : List UInt8) : (((⟨a.toArray⟩ : ByteArray) ++ ⟨b.toArray⟩) ++ ⟨c.toArray⟩) ++ ⟨d.toArray⟩ = ⟨(((a ++ b) ++ c) ++ d).toArray⟩ := by rw [app_mk, app_mk, app_mk]
theorem sap5 (a b c d e : List UInt8) : ((((⟨a.toArray⟩ : ByteArray) ++ ⟨b.toArray⟩) ++ ⟨c.toArray⟩) ++ ⟨d.toArray⟩) ++ ⟨e.toArray⟩ = ⟨((((a ++ b) ++ c) ++ d) ++ e).toArray⟩ := by rw [app_mk, app_mk, app_mk, app_mk]
theorem joinC_snoc : ∀ (l : List (List UInt8)) (x : List UInt8) (q : Nat), l.length = q → joinC (l ++ [x]) = if q = 0 then x else joinC l ++ 58 :: x
  | [], x, q, h => by simp at h; subst h; rfl
  | [y], x, q, h => by simp at h; subst h; rfl
  | y :: z :: l, x, q, h => by
    have ih := joinC_snoc (z :: l) x (q - 1) (by simp at h ⊢; omega)
    rw [if_neg (by simp at h; omega)] at ih
    rw [if_neg (by simp at h; omega)]
    show y ++ 58 :: joinC (z :: l ++ [x]) = _
    rw [ih, joinC]
    simp
theorem whole_at (ns : List Nat) (j : Nat) (hj : j < ns.length) : ((wholeRow ns).map (·.1))[j]? = some (wholeTxt j (nsAt ns j)) := by
  unfold wholeRow nsAt
  rw [List.map_map, List.getElem?_map, List.getElem?_zipIdx]
  simp [List.getElem?_eq_getElem hj]

theorem tellRow_snoc (ns : List Nat) (p q : Nat) (h : ns.length = q) : tellRow (ns ++ [p]) = if q = 0 then digsF 16 3 p else tellRow ns ++ 58 :: digsF 16 3 p := by
  unfold tellRow
  rw [join_C, join_C, List.map_append]
  exact joinC_snoc (ns.map pieceTxt) (digsF 16 3 p) q (by simpa using h)
theorem tellRow_nil : tellRow [] = [] := rfl
theorem tellRow_ne (ns : List Nat) (h : ∀ n ∈ ns, n < 65536) (h0 : ns ≠ []) : tellRow ns ≠ [] := by
  intro e
  have hx := joinC_head ((toldRow ns).map (·.1)) (by unfold toldRow; simpa using h0) (row_plain ns h) [58]
  rw [← tellRow_C, e] at hx
  exact hx rfl

/-- What stands ahead of the gap, behind it, and whether the gap fits, as far as q pieces go. -/
def gapL (ns : List Nat) (a q : Nat) : List UInt8 := tellRow (ns.take (min q a))
def gapR (ns : List Nat) (b q : Nat) : List UInt8 := tellRow ((ns.take q).drop b)
theorem gapL_zero (ns : List Nat) (a : Nat) : gapL ns a 0 = [] := by
  unfold gapL
  rw [Nat.min_eq_left (by omega)]
  rfl
theorem gapL_in (ns : List Nat) (a q : Nat) (h8 : ns.length = 8) (hq : q < 8) (ha : q < a) : gapL ns a (q + 1) = if q = 0 then digsF 16 3 (nsAt ns q) else gapL ns a q ++ 58 :: digsF 16 3 (nsAt ns q) := by
  unfold gapL
  rw [Nat.min_eq_left (by omega), Nat.min_eq_left (by omega), take_next ns q (by omega)]
  exact tellRow_snoc _ _ q (by rw [List.length_take]; omega)
theorem gapL_out (ns : List Nat) (a q : Nat) (ha : a ≤ q) : gapL ns a (q + 1) = gapL ns a q := by
  unfold gapL
  rw [Nat.min_eq_right (by omega), Nat.min_eq_right (by omega)]
theorem gapR_out (ns : List Nat) (b q : Nat) (hb : q ≤ b) : gapR ns b q = [] := by
  unfold gapR
  rw [List.drop_eq_nil_of_le (by rw [List.length_take]; omega)]
  rfl
theorem gapR_in (ns : List Nat) (b q : Nat) (h8 : ns.length = 8) (hq : q < 8) (hb : b ≤ q) : gapR ns b (q + 1) = if q = b then digsF 16 3 (nsAt ns q) else gapR ns b q ++ 58 :: digsF 16 3 (nsAt ns q) := by
  unfold gapR
  rw [take_next ns q (by omega), List.drop_append_of_le_length (by rw [List.length_take]; omega), tellRow_snoc _ _ (q - b) (by rw [List.length_drop, List.length_take]; omega)]
  by_cases h : q = b
  · rw [if_pos (by omega), if_pos h]
  · rw [if_neg (by omega), if_neg h]
theorem gapR_ne (ns : List Nat) (b q : Nat) (h8 : ns.length = 8) (hn : ∀ n ∈ ns, n < 65536) (hq : q ≤ 8) (hb : b < q) : gapR ns b q ≠ [] := by
  unfold gapR
  refine tellRow_ne _ (fun n hm => hn n (List.mem_of_mem_take (List.mem_of_mem_drop hm))) ?_
  intro e
  have := congrArg List.length e
  rw [List.length_drop, List.length_take] at this
  simp at this
  omega
theorem gapL_len (ns : List Nat) (a q : Nat) : (gapL ns a q).length ≤ 5 * q := by
  have h := tellRow_len (ns.take (min q a))
  rw [List.length_take] at h
  unfold gapL
  omega
theorem gapR_len (ns : List Nat) (b q : Nat) : (gapR ns b q).length ≤ 5 * q := by
  have h := tellRow_len ((ns.take q).drop b)
  rw [List.length_drop, List.length_take] at h
  unfold gapR
  omega
theorem gap_want (ns : List Nat) (a b : Nat) (h8 : ns.length = 8) (hn : ∀ n ∈ ns, n < 65536) (hab : a < b) (hb : b ≤ 8) (h : ∀ j, a ≤ j → j < b → nsAt ns j = 0) :
    bracketed ((gapL ns a 8 ++ 58 :: 58 :: gapR ns b 8) ++ [93]) = some (sixWant ns) := by
  have := want_gap ns a (b - a) h8 hn (by omega) (by omega) (fun j h1 h2 => by rw [nsAt_some ns j (by omega), h j h1 (by omega)])
  unfold gapL gapR
  rw [Nat.min_eq_right (by omega), List.take_of_length_le (i := 8) (by omega)]
  rw [show a + (b - a) = b by omega] at this
  exact this

/-- Each piece with a colon behind it. -/
def colons (ns : List Nat) : List UInt8 := ns.flatMap fun p => digsF 16 3 p ++ [58]
theorem colons_next (ns : List Nat) (q : Nat) (h : q < ns.length) : colons (ns.take (q + 1)) = (colons (ns.take q) ++ digsF 16 3 (nsAt ns q)) ++ [58] := by
  rw [take_next ns q h]
  unfold colons
  rw [List.flatMap_append]
  simp
theorem colons_len (ns : List Nat) (q : Nat) : (colons (ns.take q)).length ≤ 5 * q := by
  have : ∀ l : List Nat, (colons l).length ≤ 5 * l.length := by
    intro l
    induction l with
    | nil => simp [colons]
    | cons x l ih =>
      have := digs_len 16 3 x
      unfold colons at ih ⊢
      rw [List.flatMap_cons, List.length_append, List.length_append, List.length_cons]
      simp only [List.length_cons, List.length_nil]
      omega
  have h := this (ns.take q)
  rw [List.length_take] at h
  omega
theorem joinC_colons (x : List UInt8) : ∀ ns : List Nat, joinC (ns.map pieceTxt ++ [x]) = colons ns ++ x
  | [] => rfl
  | [p] => by
    show digsF 16 3 p ++ 58 :: x = _
    unfold colons
    simp
  | p :: r :: ns => by
    have ih := joinC_colons x (r :: ns)
    show digsF 16 3 p ++ 58 :: joinC ((r :: ns).map pieceTxt ++ [x]) = _
    rw [ih]
    unfold colons
    simp
theorem dots_want (ns : List Nat) (h8 : ns.length = 8) (hn : ∀ n ∈ ns, n < 65536) : bracketed ((colons (ns.take 6) ++ tell4 (nsAt ns 6 * 65536 + nsAt ns 7)) ++ [93]) = some (sixWant ns) := by
  have h6 : nsAt ns 6 < 65536 := hn _ (List.mem_of_getElem? (nsAt_some ns 6 (by omega)))
  have h7 : nsAt ns 7 < 65536 := hn _ (List.mem_of_getElem? (nsAt_some ns 7 (by omega)))
  have := want_dots (ns.take 6) (nsAt ns 6 * 65536 + nsAt ns 7) (by rw [List.length_take]; omega) (fun k hk => hn k (List.mem_of_mem_take hk)) (by omega)
  rw [joinC_colons, show (nsAt ns 6 * 65536 + nsAt ns 7) / 65536 = nsAt ns 6 by omega, show (nsAt ns 6 * 65536 + nsAt ns 7) % 65536 = nsAt ns 7 by omega] at this
  rw [this]
  have e7 := take_next ns 7 (by omega)
  have e6 := take_next ns 6 (by omega)
  rw [List.take_of_length_le (by omega)] at e7
  have e : ns.take 6 ++ [nsAt ns 6, nsAt ns 7] = ns := by
    refine Eq.trans ?_ e7.symm
    rw [show ns.take 7 = ns.take 6 ++ [nsAt ns 6] from e6, List.append_assoc]
    rfl
  rw [e]

theorem tellRow_ge (ns : List Nat) (hn : ∀ n ∈ ns, n < 65536) : ns.length ≤ (tellRow ns).length := by
  have key : ∀ l : List Nat, (∀ n ∈ l, n < 65536) → l.length ≤ (joinC (l.map pieceTxt)).length := by
    intro l
    induction l with
    | nil => intro _; simp
    | cons p l ih =>
      intro h
      have h1 := ih (fun n hm => h n (by simp [hm]))
      have h2 := List.length_pos_iff.2 (piece_ne p (h p (by simp)))
      cases l with
      | nil =>
        show 1 ≤ (digsF 16 3 p).length
        omega
      | cons r l =>
        show (r :: l).length + 1 ≤ (digsF 16 3 p ++ 58 :: joinC ((r :: l).map pieceTxt)).length
        simp only [List.length_append, List.length_cons] at h1 ⊢
        omega
  unfold tellRow
  rw [join_C]
  exact key ns hn
theorem want_len (ns : List Nat) (h8 : ns.length = 8) (hn : ∀ n ∈ ns, n < 65536) : 4 ≤ (sixWant ns).length ∧ (sixWant ns).length ≤ 100 := by
  unfold sixWant sixTell
  split
  · have h1 := tellRow_ge ns hn
    have h2 := tellRow_len ns
    simp
    omega
  · have h2 := tellRow_len (ns.take (noughts ns 0 0 0 0).1)
    have h3 := tellRow_len (ns.drop ((noughts ns 0 0 0 0).1 + (noughts ns 0 0 0 0).2))
    rw [List.length_take] at h2
    rw [List.length_drop] at h3
    simp
    omega

theorem ccCount_next : ∀ (l : List UInt8) (q : Nat) (x y : UInt8), l[q]? = some x → l[q + 1]? = some y → ccCount (l.take (q + 2)) = ccCount (l.take (q + 1)) + (if x = 58 ∧ y = 58 then 1 else 0)
  | [], q, x, y, hx, _ => by simp at hx
  | a :: l, 0, x, y, hx, hy => by
    simp at hx
    subst hx
    match l, hy with
    | b :: l, hy =>
      simp at hy
      subst hy
      simp only [List.take_succ_cons, List.take_zero, ccCount, List.head?_cons, List.head?_nil]
      by_cases h1 : a = 58 <;> by_cases h2 : b = 58 <;> simp [h1, h2]
  | a :: l, q + 1, x, y, hx, hy => by
    have ih := ccCount_next l q x y (by simpa using hx) (by simpa using hy)
    rw [List.take_succ_cons, List.take_succ_cons, ccCount, ccCount, ih]
    have e : (l.take (q + 2)).head? = (l.take (q + 1)).head? := by cases l <;> rfl
    rw [e]
    omega
theorem ccCount_le : ∀ l : List UInt8, ccCount l ≤ l.length
  | [] => Nat.le_refl _
  | a :: l => by
    have := ccCount_le l
    rw [ccCount, List.length_cons]
    split <;> omega
theorem ccCount_short (l : List UInt8) : ccCount (l.take 1) = 0 := by
  cases l with
  | nil => rfl
  | cons a l => simp [ccCount]
end Go.Moor
