/-
  Plain mathematics: the other way to give an address another part: a scheme's length; a path in which the marks were escaped ahead.
-/
import Derived.Test.YtkcnageeamappaaGreatDoorJRFile
import Derived.Test.YtkcnageeamappaaGreatDoorJLaid3
namespace Go.Moor
open Go

def schemeLen (t : Bs) : Nat := match cutB 58 t with | some (n, _) => if isSchemeB n = true then n.length + 1 else 0 | none => 0
theorem cutScheme_lenR (t : Bs) : cutScheme t = if schemeLen t = 0 then ([], t) else (Lib.toLowerA (t.take (schemeLen t - 1)), t.drop (schemeLen t)) := by
  have hi := cutB_inv 58 t
  unfold cutScheme schemeLen
  cases hc : cutB 58 t with
  | none => rfl
  | some p =>
    obtain ⟨n, r⟩ := p
    rw [hc] at hi
    simp only at hi ⊢
    cases hs : isSchemeB n with
    | false => rfl
    | true =>
      simp only [if_true]
      rw [if_neg (by omega), hi.1]
      simp only [Nat.add_sub_cancel, List.take_left]
      congr 1
      rw [show (n ++ 58 :: r : Bs) = (n ++ [58]) ++ r from by simp, show n.length + 1 = (n ++ [58]).length from by simp, List.drop_left]
theorem scheme_snoc (v : Bs) : (cutScheme (v ++ [58])).1 = if schemeLen v ≠ 0 then Lib.toLowerA (v.take (schemeLen v - 1)) else if schemeLen (v ++ [58]) = 0 then [] else Lib.toLowerA (v.take (schemeLen (v ++ [58]) - 1)) := by
  rcases first_of 58 v with hn | ⟨a, b, rfl, ha⟩
  · have e1 : schemeLen v = 0 := by unfold schemeLen; rw [cutB_none 58 v hn]
    have e2 : schemeLen (v ++ [58]) = if isSchemeB v = true then v.length + 1 else 0 := by
      unfold schemeLen
      rw [cutB_some 58 [] v hn]
    rw [e1, if_neg (by simp), cutScheme_lenR]
    cases hs : isSchemeB v with
    | false =>
      rw [hs] at e2
      rw [e2]
      rfl
    | true =>
      rw [hs] at e2
      simp only [if_true] at e2
      rw [e2, if_neg (by omega), if_neg (by omega)]
      simp
  · have e1 : schemeLen (a ++ 58 :: b) = if isSchemeB a = true then a.length + 1 else 0 := by
      unfold schemeLen
      rw [cutB_some 58 b a ha]
    have e2 : schemeLen (a ++ 58 :: b ++ [58]) = if isSchemeB a = true then a.length + 1 else 0 := by
      unfold schemeLen
      rw [show a ++ 58 :: b ++ [58] = a ++ 58 :: (b ++ [58]) from by simp, cutB_some 58 _ a ha]
    rw [cutScheme_lenR, e1, e2]
    cases hs : isSchemeB a with
    | false => simp
    | true =>
      simp only [if_true]
      rw [if_neg (by omega), if_pos (by omega)]
      simp

-- marks that were escaped ahead
def swapM (c : UInt8) : Bs := if c = 63 then [37, 51, 70] else if c = 35 then [37, 50, 51] else [c]
def swapMarks (v : Bs) : Bs := v.flatMap swapM
theorem swapMarks_cons (c : UInt8) (v : Bs) : swapMarks (c :: v) = swapM c ++ swapMarks v := rfl
theorem swap_noMark : ∀ v : Bs, noMark (swapMarks v)
  | [], c, h => by cases h
  | d :: v, c, h => by
    rw [swapMarks_cons] at h
    rcases List.mem_append.1 h with h | h
    · unfold swapM at h
      split at h
      · simp only [List.mem_cons, List.not_mem_nil, or_false] at h
        rcases h with rfl | rfl | rfl <;> decide
      · split at h
        · simp only [List.mem_cons, List.not_mem_nil, or_false] at h
          rcases h with rfl | rfl | rfl <;> decide
        · rename_i h1 h2
          rw [List.mem_singleton] at h
          subst h
          exact ⟨h2, h1⟩
    · exact swap_noMark v c h
theorem swap_same (v : Bs) (h : noMark v) : swapMarks v = v := by
  induction v with
  | nil => rfl
  | cons c v ih =>
    have hc := h c (by simp)
    rw [swapMarks_cons, ih (fun x hx => h x (by simp [hx]))]
    simp [swapM, hc.1, hc.2]
theorem swap_51 : ∀ v : Bs, ¬ noMark v → 51 ∈ swapMarks v
  | [], h => absurd (fun c hc => by cases hc) h
  | c :: v, h => by
    rw [swapMarks_cons]
    by_cases h1 : c = 63
    · subst h1; simp [swapM]
    · by_cases h2 : c = 35
      · subst h2; simp [swapM]
      · refine List.mem_append_right _ (swap_51 v fun hv => h fun x hx => ?_)
        rcases List.mem_cons.1 hx with rfl | hx
        · exact ⟨h2, h1⟩
        · exact hv x hx
theorem low_mem : ∀ (n : Nat) (l : Bs), l.length ≤ n → ∀ c ∈ l, c ∈ lowDots l ∨ c = 69
  | _, [], _, c, h => by cases h
  | 0, d :: l, hn, c, h => by simp at hn
  | n + 1, d :: l, hn, c, h => by
    by_cases hp : pE.isPrefixOf (d :: l) = false
    · rw [low_step d l hp]
      rcases List.mem_cons.1 h with rfl | h
      · exact Or.inl (by simp)
      · rcases low_mem n l (by simpa using hn) c h with h | h
        · exact Or.inl (by simp [h])
        · exact Or.inr h
    · have hp : pE.isPrefixOf (d :: l) = true := by simpa using hp
      obtain ⟨t, ht⟩ := List.isPrefixOf_iff_prefix.1 hp
      rw [← ht] at h ⊢
      have hlen : t.length ≤ n := by
        have := congrArg List.length ht
        simp [pE] at this
        simp at hn
        omega
      show c ∈ 37 :: 50 :: 101 :: lowDots t ∨ c = 69
      rcases List.mem_append.1 h with h | h
      · simp only [pE, List.mem_cons, List.not_mem_nil, or_false] at h
        rcases h with rfl | rfl | rfl
        · exact Or.inl (by simp)
        · exact Or.inl (by simp)
        · exact Or.inr rfl
      · rcases low_mem n t hlen c h with h | h
        · exact Or.inl (by simp [h])
        · exact Or.inr h
theorem dots_bytes (p : Bs) (h : dots p ≠ 0) : ∀ c ∈ p, c = 46 ∨ c = 37 ∨ c = 50 ∨ c = 101 ∨ c = 69 := by
  intro c hc
  have hm := low_mem p.length p (Nat.le_refl _) c hc
  rcases hm with hm | hm
  · unfold dots at h
    simp only at h
    split at h
    · rename_i h1
      rcases h1 with h1 | h1 <;> rw [h1] at hm <;> simp only [List.mem_cons, List.not_mem_nil, or_false] at hm
      · exact Or.inl hm
      · rcases hm with h | h | h
        · exact Or.inr (Or.inl h)
        · exact Or.inr (Or.inr (Or.inl h))
        · exact Or.inr (Or.inr (Or.inr (Or.inl h)))
    · split at h
      · rename_i h1
        rcases h1 with h1 | h1 | h1 | h1 <;> rw [h1] at hm <;> simp only [List.mem_cons, List.not_mem_nil, or_false] at hm <;> (first | (rcases hm with rfl | rfl | rfl | rfl | rfl | rfl <;> simp) | (rcases hm with rfl | rfl | rfl | rfl <;> simp) | (rcases hm with rfl | rfl <;> simp))
      · exact absurd rfl h
  · exact Or.inr (Or.inr (Or.inr (Or.inr hm)))
theorem dots_swap (p : Bs) : dots (swapMarks p) = dots p := by
  by_cases hn : noMark p
  · rw [swap_same p hn]
  · have h1 : dots (swapMarks p) = 0 := by
      apply Classical.byContradiction
      intro h
      have := dots_bytes _ h 51 (swap_51 p hn)
      revert this
      decide
    have h2 : dots p = 0 := by
      apply Classical.byContradiction
      intro h
      apply hn
      intro c hc
      have := dots_bytes _ h c hc
      rcases this with rfl | rfl | rfl | rfl | rfl <;> decide
    rw [h1, h2]
theorem esc_swap : ∀ p : Bs, esc 4 (swapMarks p) = esc 4 p
  | [] => rfl
  | c :: p => by
    rw [swapMarks_cons, esc_app, esc_swap p]
    show esc 4 (swapM c) ++ esc 4 p = escB 4 c ++ esc 4 p
    congr 1
    unfold swapM
    split
    · rename_i h; subst h; decide +kernel
    · split
      · rename_i h; subst h; decide +kernel
      · show escB 4 c ++ [] = escB 4 c
        simp
theorem drive_noMark (p : Bs) (h : isDrive p = true) : noMark p := by
  match p, h with
  | [a, b], h =>
    simp [isDrive] at h
    intro c hc
    simp only [List.mem_cons, List.not_mem_nil, or_false] at hc
    rcases hc with rfl | rfl
    · refine ⟨?_, ?_⟩ <;> rintro rfl <;> exact absurd h.1 (by decide)
    · rcases h.2 with rfl | rfl <;> decide
theorem drive_swap (p : Bs) : isDrive (swapMarks p) = isDrive p := by
  by_cases hn : noMark p
  · rw [swap_same p hn]
  · have h1 : isDrive p = false := by
      cases h : isDrive p with
      | false => rfl
      | true => exact absurd (drive_noMark p h) hn
    rw [h1]
    cases h : isDrive (swapMarks p) with
    | false => rfl
    | true =>
      have h51 := swap_51 p hn
      match hx : swapMarks p, h with
      | [a, b], h =>
        rw [hx] at h51
        simp [isDrive] at h
        simp only [List.mem_cons, List.not_mem_nil, or_false] at h51
        rcases h51 with rfl | rfl
        · exact absurd h.1 (by decide)
        · exact absurd h.2 (by decide)
theorem tellSeg_swap (s p : Bs) (first : Bool) : tellSeg s (swapMarks p) first = tellSeg s p first := by
  unfold tellSeg
  rw [drive_swap, esc_swap]
  split
  · rename_i h
    simp only [Bool.and_eq_true] at h
    rw [swap_same p (drive_noMark p h.2)]
  · rfl
theorem segLoop_swap (s : Bs) : ∀ (ps segs : List Bs), segLoop s segs (ps.map swapMarks) = segLoop s segs ps
  | [], segs => rfl
  | p :: ps, segs => by
    show segLoop s segs (swapMarks p :: ps.map swapMarks) = _
    rw [segLoop, segLoop, dots_swap, tellSeg_swap, segLoop_swap s ps, segLoop_swap s ps]
    have : (ps.map swapMarks).isEmpty = ps.isEmpty := by cases ps <;> rfl
    rw [this]
theorem splitOn_cons_ne (c d : UInt8) (l : Bs) (h : d ≠ c) : ∃ x xs, splitOn c l = x :: xs ∧ splitOn c (d :: l) = (d :: x) :: xs := by
  cases hx : splitOn c l with
  | nil => exact absurd hx (splitOn_ne c l)
  | cons x xs => exact ⟨x, xs, rfl, by rw [splitOn, if_neg h, hx]⟩
theorem splitOn_app_ne (c : UInt8) (l : Bs) : ∀ p : Bs, (∀ x ∈ p, x ≠ c) → ∀ x xs, splitOn c l = x :: xs → splitOn c (p ++ l) = (p ++ x) :: xs
  | [], _, x, xs, h => h
  | d :: p, hp, x, xs, h => by
    have ih := splitOn_app_ne c l p (fun y hy => hp y (by simp [hy])) x xs h
    obtain ⟨y, ys, h1, h2⟩ := splitOn_cons_ne c d (p ++ l) (hp d (by simp))
    rw [ih] at h1
    injection h1 with h3 h4
    show splitOn c (d :: (p ++ l)) = _
    rw [h2, ← h3, ← h4]
    rfl
theorem splitOn_swap : ∀ l : Bs, splitOn 47 (swapMarks l) = (splitOn 47 l).map swapMarks
  | [] => rfl
  | c :: l => by
    by_cases hc : c = 47
    · subst hc
      rw [splitOn, if_pos rfl]
      show splitOn 47 (47 :: swapMarks l) = _
      rw [splitOn, if_pos rfl, splitOn_swap l]
      rfl
    · obtain ⟨x, xs, h1, h2⟩ := splitOn_cons_ne 47 c l hc
      rw [h2, swapMarks_cons]
      have hs := splitOn_swap l
      rw [h1] at hs
      refine splitOn_app_ne 47 (swapMarks l) (swapM c) ?_ _ _ hs
      intro y hy
      unfold swapM at hy
      split at hy
      · simp only [List.mem_cons, List.not_mem_nil, or_false] at hy
        rcases hy with rfl | rfl | rfl <;> decide
      · split at hy
        · simp only [List.mem_cons, List.not_mem_nil, or_false] at hy
          rcases hy with rfl | rfl | rfl <;> decide
        · rw [List.mem_singleton] at hy; subst hy; exact hc
theorem even_swap (s : Bs) : ∀ l : Bs, evenSlashes s (swapMarks l) = swapMarks (evenSlashes s l) := by
  intro l
  unfold evenSlashes
  split
  · induction l with
    | nil => rfl
    | cons c l ih =>
      rw [swapMarks_cons, List.map_append, ih, List.map_cons, swapMarks_cons]
      congr 1
      by_cases h1 : c = 63
      · subst h1; decide
      · by_cases h2 : c = 35
        · subst h2; decide
        · by_cases h3 : c = 92
          · subst h3; decide
          · simp [swapM, h1, h2, h3]
  · rfl
theorem trim_swap (l : Bs) : trimSlash (swapMarks l) = swapMarks (trimSlash l) := by
  cases l with
  | nil => rfl
  | cons c l =>
    by_cases hc : c = 47
    · subst hc; rfl
    · have h1 : trimSlash (c :: l) = c :: l := by
        unfold trimSlash
        split
        · rename_i h; injection h with h _; exact absurd h hc
        · rfl
      rw [h1, swapMarks_cons]
      unfold swapM
      split
      · rfl
      · split
        · rfl
        · show trimSlash (c :: swapMarks l) = c :: swapMarks l
          unfold trimSlash
          split
          · rename_i h; injection h with h _; exact absurd h hc
          · rfl
theorem swap_empty (l : Bs) : swapMarks l = [] ↔ l = [] := by
  cases l with
  | nil => simp [swapMarks]
  | cons c l =>
    rw [swapMarks_cons]
    unfold swapM
    split
    · simp
    · split <;> simp
theorem way_swap (s v : Bs) : readWay s [] (evenSlashes s (swapMarks v)) = readWay s [] (evenSlashes s v) := by
  unfold readWay readSegs
  rw [even_swap, trim_swap, splitOn_swap, segLoop_swap]
  congr 1
  by_cases h : evenSlashes s v = []
  · rw [h]; rfl
  · rw [if_neg (fun x => h ((swap_empty _).1 x.1)), if_neg (fun x => h x.1)]

section
variable (H : Bs → Bool → Option Bs)
/-- The machine, begun at a path. -/
theorem runs_again (base : Option Adr) (a : Adr) (v : Bs) : Runs H base ⟨{ a with way := ⟨false, [], []⟩ }, swapMarks v, 5, 0⟩ (.ok { a with way := readWay a.scheme [] (evenSlashes a.scheme v) }) := by
  have := runs_path H base ⟨{ a with way := ⟨false, [], []⟩ }, swapMarks v, 5, 0⟩ (swapMarks v) none none (fun x hx => by cases hx) rfl rfl (by simp [tailB, tellOpt]) (swap_noMark v) rfl
  rw [way_swap] at this
  exact this
end
end Go.Moor
/-
  Plain mathematics: where marks stand in hosts.
-/
namespace Go.Moor
open Go
theorem unesc_keeps (c : UInt8) (h16 : ¬ hexVal c.toNat < 16) (h37 : c ≠ 37) : ∀ (n : Nat) (l : Bs), l.length ≤ n → c ∈ l → c ∈ unesc l
  | _, [], _, h => by cases h
  | 0, d :: l, hn, _ => by simp at hn
  | n + 1, d :: l, hn, h => by
    have hl : l.length ≤ n := by simpa using hn
    by_cases hd : d = 37
    · subst hd
      have h : c ∈ l := by
        rcases List.mem_cons.1 h with h | h
        · exact absurd h h37
        · exact h
      cases ht : twoHex l with
      | false => rw [unesc_not _ ht]; exact List.mem_cons_of_mem _ (unesc_keeps c h16 h37 n l hl h)
      | true =>
        match l, ht, hl, h with
        | a :: b :: r, ht, hl, h =>
          rw [unesc_hex a b r ht]
          simp only [twoHex, Bool.and_eq_true, decide_eq_true_eq] at ht
          rcases List.mem_cons.1 h with rfl | h
          · exact absurd ht.1 h16
          · rcases List.mem_cons.1 h with rfl | h
            · exact absurd ht.2 h16
            · exact List.mem_cons_of_mem _ (unesc_keeps c h16 h37 n r (by simp at hl; omega) h)
    · rw [unesc_ne d l hd]
      rcases List.mem_cons.1 h with rfl | h
      · simp
      · exact List.mem_cons_of_mem _ (unesc_keeps c h16 h37 n l hl h)
theorem splitOn_in (c : UInt8) : ∀ (l : Bs) (b : UInt8), b ∈ l → b = c ∨ ∃ x ∈ splitOn c l, b ∈ x
  | [], b, h => by cases h
  | d :: l, b, h => by
    by_cases hd : d = c
    · rw [splitOn, if_pos hd]
      rcases List.mem_cons.1 h with rfl | h
      · exact Or.inl hd
      · rcases splitOn_in c l b h with h | ⟨x, hx, hb⟩
        · exact Or.inl h
        · exact Or.inr ⟨x, by simp [hx], hb⟩
    · obtain ⟨x, xs, h1, h2⟩ := splitOn_cons_ne c d l hd
      rw [h2]
      rcases List.mem_cons.1 h with rfl | h
      · exact Or.inr ⟨b :: x, by simp, by simp⟩
      · rcases splitOn_in c l b h with h | ⟨y, hy, hb⟩
        · exact Or.inl h
        · rw [h1] at hy
          rcases List.mem_cons.1 hy with rfl | hy
          · exact Or.inr ⟨d :: y, by simp, by simp [hb]⟩
          · exact Or.inr ⟨y, by simp [hy], hb⟩
theorem digAcc_bytes (base most : Int) : ∀ (l : Bs) (n m : Int), digAcc base most n l = some m → ∀ c ∈ l, hexVal c.toNat < base
  | [], n, m, _, c, hc => by cases hc
  | d :: l, n, m, h, c, hc => by
    rw [digAcc] at h
    split at h
    · rename_i h1
      split at h
      · rcases List.mem_cons.1 hc with rfl | hc
        · exact h1
        · exact digAcc_bytes base most l _ m h c hc
      · cases h
    · cases h
def hexB (c : UInt8) : Prop := hexVal c.toNat < 16 ∨ c = 58 ∨ c = 46
theorem sixAcc_bytes : ∀ (l : List Bs) (ps qs : List Int), sixAcc ps l = some qs → ∀ x ∈ l, ∀ c ∈ x, hexVal c.toNat < 16
  | [], ps, qs, _, x, hx => by cases hx
  | y :: l, ps, qs, h, x, hx => by
    rw [sixAcc] at h
    cases hp : sixPiece y with
    | none => rw [hp] at h; cases h
    | some n =>
      rw [hp] at h
      rcases List.mem_cons.1 hx with rfl | hx
      · unfold sixPiece at hp
        split at hp
        · cases hp
        · exact digAcc_bytes 16 65535 x 0 n hp
      · exact sixAcc_bytes l _ qs h x hx
theorem dotAcc_bytes : ∀ (l : List Bs) (a m : Int), dotAcc a l = some m → ∀ x ∈ l, ∀ c ∈ x, hexVal c.toNat < 16
  | [], a, m, _, x, hx => by cases hx
  | y :: l, a, m, h, x, hx => by
    rw [dotAcc] at h
    cases hp : plainDec y with
    | none => rw [hp] at h; cases h
    | some n =>
      rw [hp] at h
      rcases List.mem_cons.1 hx with rfl | hx
      · unfold plainDec at hp
        split at hp
        · cases hp
        · split at hp
          · cases hp
          · intro c hc
            have := digAcc_bytes 10 255 x 0 n hp c hc
            omega
      · exact dotAcc_bytes l _ m h x hx
theorem sixLast_bytes (l : List Bs) (qs : List Int) (h : sixLast l = some qs) : ∀ x ∈ l, ∀ c ∈ x, hexB c := by
  unfold sixLast at h
  cases hg : l.getLast? with
  | none =>
    rw [List.getLast?_eq_none_iff] at hg
    subst hg
    exact fun x hx => by cases hx
  | some y =>
    rw [hg] at h
    simp only at h
    obtain ⟨ys, hl⟩ := List.getLast?_eq_some_iff.1 hg
    split at h
    · cases hp : sixPieces l.dropLast with
      | none => rw [hp] at h; simp [sixJoin] at h
      | some ps =>
        cases hd : sixDotted y with
        | none => rw [hp, hd] at h; simp [sixJoin] at h
        | some n =>
          have h1 := sixAcc_bytes _ _ _ hp
          have h2 : ∀ c ∈ y, hexB c := by
            unfold sixDotted at hd
            split at hd
            · intro c hc
              rcases splitOn_in 46 y c hc with h | ⟨x, hx, hcx⟩
              · exact Or.inr (Or.inr h)
              · exact Or.inl (dotAcc_bytes _ _ _ hd x hx c hcx)
            · cases hd
          intro x hx c hc
          rw [hl] at hx
          rcases List.mem_append.1 hx with hx | hx
          · exact Or.inl (h1 x (by rw [hl]; simpa using hx) c hc)
          · rw [List.mem_singleton] at hx; subst hx; exact h2 c hc
    · exact fun x hx c hc => Or.inl (sixAcc_bytes _ _ _ h x hx c hc)
theorem sixSplit_in (l : Bs) (b : UInt8) (h : b ∈ l) : b = 58 ∨ ∃ x ∈ sixSplit l, b ∈ x := by
  unfold sixSplit
  rw [if_neg (fun e => by rw [e] at h; cases h)]
  exact splitOn_in 58 l b h
theorem cc_first : ∀ l : Bs, hasCC l = true → ∃ p r, l = p ++ 58 :: 58 :: r ∧ hasCC (p ++ [58]) = false := by
  intro l
  induction l with
  | nil => intro h; cases h
  | cons c l ih =>
    intro h
    by_cases hh : (c == 58 && l.head? == some 58) = true
    · simp only [Bool.and_eq_true, beq_iff_eq] at hh
      cases l with
      | nil => cases hh.2
      | cons d l =>
        simp at hh
        refine ⟨[], l, by rw [hh.1, hh.2]; rfl, by decide⟩
    · have hl : hasCC l = true := by
        cases l with
        | nil => simp [hasCC] at h
        | cons d l =>
          have h : ((c == 58 && (d :: l).head? == some 58) || hasCC (d :: l)) = true := h
          have hh2 : (c == 58 && (d :: l).head? == some 58) = false := by simpa using hh
          rw [hh2, Bool.false_or] at h
          exact h
      obtain ⟨p, r, hp, hcc⟩ := ih hl
      refine ⟨c :: p, r, by rw [hp]; rfl, ?_⟩
      cases p with
      | nil =>
        simp [hp] at hh
        simp [hasCC]
        exact hh
      | cons d p =>
        show ((c == 58 && (d :: (p ++ [58])).head? == some 58) || hasCC (d :: (p ++ [58]))) = false
        have h3 : hasCC (d :: (p ++ [58])) = false := hcc
        rw [h3, Bool.or_false]
        rw [hp] at hh
        simpa using hh
theorem cut_whole (l a b : Bs) (h : Lib.cut l [58, 58] = (a, b, true)) : l = a ++ 58 :: 58 :: b := by
  by_cases hc : hasCC l = false
  · rw [cut_none l hc] at h; cases h
  · obtain ⟨p, r, rfl, hcc⟩ := cc_first l (by simpa using hc)
    rw [cut_hit p r hcc] at h
    simp only [Prod.mk.injEq, and_true] at h
    rw [h.1, h.2]
theorem sixFill_some (s : Bool) (f g : Option (List Int)) (qs : List Int) (h : sixFill s f g = some qs) : f.isSome = true ∧ g.isSome = true := by
  cases f with
  | none => cases h
  | some x =>
    cases g with
    | none => cases h
    | some y => exact ⟨rfl, rfl⟩
theorem sixOf_bytes (l : Bs) (qs : List Int) (h : sixOf l = some qs) : ∀ c ∈ l, hexB c := by
  unfold sixOf at h
  split at h
  · rename_i a b hc
    have hs := sixFill_some _ _ _ _ h
    have hl := cut_whole l a b hc
    intro c hcm
    rw [hl] at hcm
    rcases List.mem_append.1 hcm with hcm | hcm
    · rcases sixSplit_in a c hcm with h1 | ⟨x, hx, hcx⟩
      · exact Or.inr (Or.inl h1)
      · cases hp : sixPieces (sixSplit a) with
        | none => rw [hp] at hs; cases hs.1
        | some ps => exact Or.inl (sixAcc_bytes _ _ _ hp x hx c hcx)
    · rcases List.mem_cons.1 hcm with rfl | hcm
      · exact Or.inr (Or.inl rfl)
      · rcases List.mem_cons.1 hcm with rfl | hcm
        · exact Or.inr (Or.inl rfl)
        · rcases sixSplit_in b c hcm with h1 | ⟨x, hx, hcx⟩
          · exact Or.inr (Or.inl h1)
          · cases hp : sixLast (sixSplit b) with
            | none => rw [hp] at hs; cases hs.2
            | some ps => exact sixLast_bytes _ _ hp x hx c hcx
  · have hs := sixFill_some _ _ _ _ h
    intro c hcm
    rcases sixSplit_in l c hcm with h1 | ⟨x, hx, hcx⟩
    · exact Or.inr (Or.inl h1)
    · cases hp : sixLast (sixSplit l) with
      | none => rw [hp] at hs; cases hs.2
      | some ps => exact sixLast_bytes _ _ hp x hx c hcx
theorem bracketed_91 (l : Bs) (h : 91 ∈ l) : bracketed l = none := by
  unfold bracketed
  split
  · rename_i hs
    cases hx : sixOf (Lib.trimSuffix l [93]) with
    | none => rfl
    | some ps =>
      have hsuf : ∃ p, l = p ++ [93] := by
        obtain ⟨t, ht⟩ := List.isSuffixOf_iff_suffix.1 hs
        exact ⟨t, ht.symm⟩
      obtain ⟨p, rfl⟩ := hsuf
      have ht : Lib.trimSuffix (p ++ [93]) [93] = p := by
        unfold Lib.trimSuffix
        rw [if_pos hs]
        simp
      rw [ht] at hx
      have h91 : (91 : UInt8) ∈ p := by
        rcases List.mem_append.1 h with h | h
        · exact h
        · rw [List.mem_singleton] at h; exact absurd h (by decide)
      have h9 : hexB 91 := sixOf_bytes p ps hx 91 h91
      have hno : ¬ hexB 91 := by unfold hexB; decide
      exact absurd h9 hno
  · rfl
theorem hostMarks : HostMarks hostTell := by
  refine ⟨?_, ?_, by decide +kernel⟩
  · intro a b sp ha
    obtain ⟨c, a, rfl⟩ : ∃ c r, a = c :: r := by
      cases a with
      | nil => exact absurd rfl ha
      | cons c r => exact ⟨c, r, rfl⟩
    unfold hostTell
    split
    · exact bracketed_91 _ (by simp)
    · have hmem : (91 : UInt8) ∈ c :: a ++ 91 :: b := by simp
      cases sp with
      | true =>
        simp only [if_true]
        have h2 := unesc_keeps 91 (by decide) (by decide) _ _ (Nat.le_refl _) hmem
        unfold hostSpecial
        split
        · rfl
        · rw [if_pos]
          rw [List.any_eq_true]
          exact ⟨91, h2, by decide +kernel⟩
      | false =>
        simp only [Bool.false_eq_true, if_false]
        unfold hostPlain
        rw [if_pos]
        rw [List.any_eq_true]
        exact ⟨91, hmem, by decide +kernel⟩
  · intro x sp hx hn
    unfold hostTell
    rw [if_pos ((pfx91 x).2 hx)]
    unfold bracketed
    rw [if_neg]
    intro hs
    obtain ⟨t, ht⟩ := List.isSuffixOf_iff_suffix.1 hs
    have : (93 : UInt8) ∈ x := List.mem_of_mem_drop (i := 1) (by rw [← ht]; simp)
    exact hn 93 this rfl
end Go.Moor
/-
  Plain mathematics: the pieces of an IP6, read byte by byte, are those that are cut at the two colons; what is told of them, row by row.
-/
namespace Go.Moor
open Go

/-- At most k digits by base 16 at a text's beginning. -/
def hexTake : Nat → Bs → Bs
  | 0, _ => []
  | _, [] => []
  | k + 1, c :: l => if hexVal c.toNat < 16 then c :: hexTake k l else []
theorem hexTake_append : ∀ (k : Nat) (l : Bs), ∃ r, l = hexTake k l ++ r ∧ (∀ c ∈ hexTake k l, hexVal c.toNat < 16) ∧ (hexTake k l).length ≤ k ∧ ((hexTake k l).length < k → ∀ c y, r = c :: y → ¬ hexVal c.toNat < 16)
  | 0, l => ⟨l, rfl, fun c hc => (by cases hc), Nat.le_refl _, fun h => (by simp [hexTake] at h)⟩
  | k + 1, [] => ⟨[], rfl, fun c hc => (by cases hc), Nat.zero_le _, fun _ c y h => (by cases h)⟩
  | k + 1, c :: l => by
    by_cases hc : hexVal c.toNat < 16
    · obtain ⟨r, h1, h2, h3, h4⟩ := hexTake_append k l
      refine ⟨r, ?_, ?_, ?_, ?_⟩
      · rw [hexTake, if_pos hc, List.cons_append, ← h1]
      · rw [hexTake, if_pos hc]
        intro x hx
        rcases List.mem_cons.1 hx with rfl | hx
        · exact hc
        · exact h2 x hx
      · rw [hexTake, if_pos hc]; simp; omega
      · rw [hexTake, if_pos hc]
        intro h
        exact h4 (by simp at h; omega)
    · refine ⟨c :: l, ?_, ?_, ?_, ?_⟩
      · rw [hexTake, if_neg hc]; rfl
      · rw [hexTake, if_neg hc]; exact fun x hx => by cases hx
      · rw [hexTake, if_neg hc]; simp
      · intro _ x y h
        injection h with h _
        subst h
        exact hc
def hexNum : Int → Bs → Int
  | v, [] => v
  | v, c :: l => hexNum (16 * v + hexVal c.toNat) l

/-- From a text's place on: the pieces so far, the place of the two colons. -/
def sixRest : Nat → Bs → List Int → Option Nat → Option (List Int × Option Nat)
  | 0, _, _, _ => none
  | _ + 1, [], ps, short => some (ps, short)
  | n + 1, c :: r, ps, short =>
    if ps.length = 8 then none
    else if c = 58 then (if short.isSome then none else sixRest n r (ps ++ [0]) (some (ps.length + 1)))
    else if ((c :: r).drop (hexTake 4 (c :: r)).length).head? = some 46 then (match sixDotted (c :: r) with | some a => if ps.length ≤ 6 then some (ps ++ [a / 65536, a % 65536], short) else none | none => none)
    else if hexTake 4 (c :: r) = [] then none
    else match (c :: r).drop (hexTake 4 (c :: r)).length with
      | [] => some (ps ++ [hexNum 0 (hexTake 4 (c :: r))], short)
      | d :: y => if d ≠ 58 ∨ y = [] then none else sixRest n y (ps ++ [hexNum 0 (hexTake 4 (c :: r))]) short
/-- The eight pieces of what was read so. -/
def sixEnd : Option (List Int × Option Nat) → Option (List Int)
  | none => none
  | some (ps, none) => if ps.length = 8 then some ps else none
  | some (ps, some k) => some (ps.take k ++ (List.replicate (8 - ps.length) 0 ++ ps.drop k))
def sixScan (l : Bs) : Option (List Int) :=
  match l with
  | 58 :: 58 :: r => sixEnd (sixRest (l.length + 1) r [0] (some 1))
  | 58 :: _ => none
  | _ => sixEnd (sixRest (l.length + 1) l [] none)

theorem hexNum_acc : ∀ (l : Bs) (v : Int), (∀ c ∈ l, hexVal c.toNat < 16) → 0 ≤ v → v < 65536 / 16 ^ l.length → l.length ≤ 4 → digAcc 16 65535 v l = some (hexNum v l)
  | [], v, _, _, _, _ => rfl
  | c :: l, v, h, h0, h1, h4 => by
    have hc := h c (by simp)
    have hr := hexVal_range (c.toNat : Int)
    have hlen : l.length ≤ 3 := by simpa using h4
    rw [digAcc, if_pos hc, hexNum, Int.mul_comm 16 v]
    have hb : v * 16 + hexVal c.toNat < 65536 / 16 ^ l.length := by
      have hl : l.length = 0 ∨ l.length = 1 ∨ l.length = 2 ∨ l.length = 3 := by omega
      simp only [List.length_cons] at h1
      rcases hl with hl | hl | hl | hl <;> rw [hl] at h1 ⊢ <;> simp at h1 ⊢ <;> omega
    have hb2 : v * 16 + hexVal c.toNat ≤ 65535 := by
      have hl : l.length = 0 ∨ l.length = 1 ∨ l.length = 2 ∨ l.length = 3 := by omega
      rcases hl with hl | hl | hl | hl <;> rw [hl] at hb <;> simp at hb <;> omega
    rw [if_pos hb2]
    exact hexNum_acc l _ (fun x hx => h x (by simp [hx])) (by omega) hb (by omega)
theorem hex_piece (x : Bs) (h : ∀ c ∈ x, hexVal c.toNat < 16) (h4 : x.length ≤ 4) (h0 : x ≠ []) : sixPiece x = some (hexNum 0 x) := by
  unfold sixPiece
  have : 0 < x.length := List.length_pos_iff.2 h0
  rw [if_neg (by omega)]
  refine hexNum_acc x 0 h (by omega) ?_ h4
  have hl : x.length = 1 ∨ x.length = 2 ∨ x.length = 3 ∨ x.length = 4 := by omega
  rcases hl with hl | hl | hl | hl <;> rw [hl] <;> decide

theorem digAcc_big (b : UInt8) (l : Bs) (v : Int) (h : 26 ≤ v) : digAcc 10 255 v (b :: l) = none := by
  have := hexVal_range (b.toNat : Int)
  rw [digAcc]
  split
  · rw [if_neg (by omega)]
  · rfl
theorem digAcc_more (b : UInt8) (l : Bs) (v k : Int) (hk : k ≤ v) (h : ∀ u, 10 * k ≤ u → digAcc 10 255 u l = none) : digAcc 10 255 v (b :: l) = none := by
  have := hexVal_range (b.toNat : Int)
  rw [digAcc]
  split
  · split
    · exact h _ (by omega)
    · rfl
  · rfl
theorem nought_fin : ∀ k : Fin 256, hexVal k.val = 0 → k.val = 48 := by decide +kernel
theorem dec_long (a b c d : UInt8) (p : Bs) : plainDec (a :: b :: c :: d :: p) = none := by
  unfold plainDec
  rw [if_neg (by simp)]
  split
  · rfl
  · rename_i hnz
    have ra := hexVal_range (a.toNat : Int)
    have ha0 : hexVal a.toNat ≠ 0 := by
      intro h0
      refine hnz ⟨?_, by simp⟩
      rw [of_toNat a 48 (nought_fin ⟨a.toNat, a.toNat_lt⟩ h0)]
      rfl
    rw [digAcc]
    split
    · split
      · refine digAcc_more b _ _ 1 (by omega) fun u hu => digAcc_more c _ u 10 hu fun v hv => digAcc_big d _ v (by omega)
      · rfl
    · rfl

/-- The piece at a text's beginning, up to the next colon. -/
theorem split_piece (c : UInt8) (l x : Bs) (xs : List Bs) (h : splitOn c l = x :: xs) : (xs = [] ∧ l = x ∧ ∀ b ∈ x, b ≠ c) ∨ ∃ r, l = x ++ c :: r ∧ splitOn c r = xs ∧ ∀ b ∈ x, b ≠ c := by
  rcases first_of c l with hn | ⟨a, b, rfl, ha⟩
  · rw [splitOn_miss c l hn] at h
    injection h with h1 h2
    subst h1; subst h2
    exact Or.inl ⟨rfl, rfl, hn⟩
  · rw [splitOn_hit c b a ha] at h
    injection h with h1 h2
    subst h1
    exact Or.inr ⟨b, rfl, h2, ha⟩
theorem hex_ne58 (c : UInt8) (h : hexVal c.toNat < 16) : c ≠ 58 ∧ c ≠ 46 := by
  refine ⟨?_, ?_⟩ <;> rintro rfl <;> exact absurd h (by decide)
theorem indexByte_mem (l : Bs) (c : UInt8) : 0 ≤ Lib.indexByte l c ↔ c ∈ l := by
  rcases indexByte_split c l with ⟨h1, h2⟩ | ⟨p, r, h1, h2, h3⟩
  · rw [h1]
    exact ⟨fun h => by omega, fun h => absurd rfl (h2 c h)⟩
  · rw [h3, h1]
    exact ⟨fun _ => by simp, fun _ => by omega⟩
theorem sixAcc_eq : ∀ (l : List Bs) (ps : List Int), sixAcc ps l = (sixPieces l).map (ps ++ ·)
  | [], ps => by simp [sixPieces, sixAcc]
  | x :: l, ps => by
    unfold sixPieces
    rw [sixAcc, sixAcc]
    cases sixPiece x with
    | none => rfl
    | some n =>
      show sixAcc (ps ++ [n]) l = Option.map (ps ++ ·) (sixAcc ([] ++ [n]) l)
      rw [sixAcc_eq l (ps ++ [n]), sixAcc_eq l ([] ++ [n]), Option.map_map]
      congr 1
      funext y
      simp
theorem sixPieces_cons (x : Bs) (l : List Bs) : sixPieces (x :: l) = match sixPiece x with | some n => (sixPieces l).map (n :: ·) | none => none := by
  unfold sixPieces
  rw [sixAcc]
  cases sixPiece x with
  | none => rfl
  | some n =>
    show sixAcc ([] ++ [n]) l = _
    rw [sixAcc_eq]
    rfl
theorem sixLast_cons (x y : Bs) (l : List Bs) : sixLast (x :: y :: l) = match sixPiece x with | some n => (sixLast (y :: l)).map (n :: ·) | none => none := by
  unfold sixLast
  have e1 : (x :: y :: l).getLast? = (y :: l).getLast? := by simp [List.getLast?_cons]
  rw [e1]
  cases hg : (y :: l).getLast? with
  | none => simp at hg
  | some z =>
    simp only
    have e2 : (x :: y :: l).dropLast = x :: (y :: l).dropLast := rfl
    rw [e2, sixPieces_cons, sixPieces_cons]
    cases sixPiece x with
    | none =>
      split
      · simp [sixJoin]
      · rfl
    | some n =>
      split
      · cases sixPieces (y :: l).dropLast with
        | none => simp [sixJoin]
        | some ps =>
          cases sixDotted z with
          | none => simp [sixJoin]
          | some a => simp [sixJoin]
      · rfl
theorem sixLast_one (x : Bs) : sixLast [x] = if 46 ∈ x then (sixDotted x).map (fun a => [a / 65536, a % 65536]) else (sixPiece x).map fun n => [n] := by
  unfold sixLast
  simp only [List.getLast?_singleton, indexByte_mem]
  split
  · cases sixDotted x with
    | none => rfl
    | some a => rfl
  · rw [sixPieces_cons]
    cases sixPiece x with
    | none => rfl
    | some n => rfl

theorem piece_none (x : Bs) (c : UInt8) (hc : c ∈ x) (h : ¬ hexVal c.toNat < 16) : sixPiece x = none := by
  cases hp : sixPiece x with
  | none => rfl
  | some n =>
    unfold sixPiece at hp
    split at hp
    · cases hp
    · exact absurd (digAcc_bytes 16 65535 x 0 n hp c hc) h
theorem piece_long (x : Bs) (h : 4 < x.length) : sixPiece x = none := by
  unfold sixPiece
  rw [if_pos (Or.inr h)]
theorem dotted_none (l : Bs) (c : UInt8) (hc : c ∈ l) (h : ¬ hexVal c.toNat < 16) (h46 : c ≠ 46) : sixDotted l = none := by
  cases hd : sixDotted l with
  | none => rfl
  | some a =>
    unfold sixDotted at hd
    split at hd
    · rcases splitOn_in 46 l c hc with h1 | ⟨x, hx, hcx⟩
      · exact absurd h1 h46
      · exact absurd (dotAcc_bytes _ _ _ hd x hx c hcx) h
    · cases hd

/-- What is read of a piece that does not begin with a colon, and what is behind it. -/
def sixNext (n : Nat) (xs : List Bs) (r : Bs) (ps : List Int) (short : Option Nat) : Option (List Int × Option Nat) := if xs = [] then some (ps, short) else if r = [] then none else sixRest n r ps short
theorem rest_piece (n : Nat) (l x : Bs) (xs : List Bs) (r : Bs) (hx : splitOn 58 l = x :: xs) (hr : (xs = [] ∧ l = x ∧ r = []) ∨ (l = x ++ 58 :: r ∧ splitOn 58 r = xs)) (hne : x ≠ []) (ps : List Int) (h8 : ps.length < 8) (short : Option Nat) :
    sixRest (n + 1) l ps short = if xs = [] ∧ 46 ∈ x then (match sixDotted x with | some a => if ps.length ≤ 6 then some (ps ++ [a / 65536, a % 65536], short) else none | none => none) else match sixPiece x with | some v => sixNext n xs r (ps ++ [v]) short | none => none := by
  have hx58 : ∀ b ∈ x, b ≠ 58 := by
    rcases split_piece 58 l x xs hx with ⟨_, _, h⟩ | ⟨_, _, _, h⟩
    · exact h
    · exact h
  obtain ⟨c, x', rfl⟩ : ∃ c x', x = c :: x' := by
    cases x with
    | nil => exact absurd rfl hne
    | cons c x' => exact ⟨c, x', rfl⟩
  have hc58 : c ≠ 58 := hx58 c (by simp)
  obtain ⟨l', hl⟩ : ∃ l', l = c :: l' := by
    rcases hr with ⟨_, h, _⟩ | ⟨h, _⟩
    · exact ⟨x', h⟩
    · exact ⟨x' ++ 58 :: r, h⟩
  obtain ⟨t, ht1, ht2, ht3, ht4⟩ := hexTake_append 4 l
  have hdrop : l.drop (hexTake 4 l).length = t := by
    have := congrArg (List.drop (hexTake 4 l).length) ht1
    rw [List.drop_left] at this
    exact this
  rw [hl, sixRest, if_neg (by omega), if_neg hc58, ← hl, hdrop]
  -- what the digits leave
  generalize hh : hexTake 4 l = h4 at *
  rcases hr with ⟨rfl, hlx, rfl⟩ | ⟨hlx, hxs⟩
  · -- the last piece
    rw [← hlx] at hx58 ⊢
    have hlne : l ≠ [] := by rw [hl]; simp
    clear hx hlx
    cases t with
    | nil =>
      rw [List.append_nil] at ht1
      have hno : ¬ (46 ∈ l) := fun h => (hex_ne58 46 (ht2 46 (by rw [← ht1]; exact h))).2 rfl
      rw [if_neg (by simp), if_neg (by rw [← ht1]; exact hlne), if_neg (fun h => hno h.2)]
      have hp := hex_piece h4 ht2 ht3 (by rw [← ht1]; exact hlne)
      rw [ht1, hp]
      simp only [sixNext, if_true]
    | cons d y =>
      by_cases hd : d = 46
      · subst hd
        have h46 : 46 ∈ l := by rw [ht1]; simp
        rw [if_pos (by rfl), if_pos ⟨rfl, h46⟩]
      · rw [if_neg (by simpa using hd)]
        have hd58 : d ≠ 58 := hx58 d (by rw [ht1]; simp)
        have hcase : h4.length < 4 → ¬ hexVal d.toNat < 16 := fun h => ht4 h d y rfl
        have hpn : sixPiece l = none := by
          by_cases hlen : h4.length < 4
          · exact piece_none l d (by rw [ht1]; simp) (hcase hlen)
          · refine piece_long l ?_
            rw [ht1]
            simp
            omega
        have hrhs : (if ([] : List Bs) = [] ∧ 46 ∈ l then (match sixDotted l with | some a => if ps.length ≤ 6 then some (ps ++ [a / 65536, a % 65536], short) else none | none => none) else match sixPiece l with | some v => sixNext n [] [] (ps ++ [v]) short | none => none) = none := by
          rw [hpn]
          split
          · have : sixDotted l = none := by
              by_cases hlen : h4.length < 4
              · exact dotted_none l d (by rw [ht1]; simp) (hcase hlen) hd
              · have h44 : h4.length = 4 := by omega
                by_cases hdh : hexVal d.toNat < 16
                · -- five digits ahead of the first dot
                  cases hdd : sixDotted l with
                  | none => rfl
                  | some a =>
                    unfold sixDotted at hdd
                    split at hdd
                    · rcases first_of 46 y with hn | ⟨p, q, rfl, hp⟩
                      · have hno : ¬ (46 ∈ l) := by
                          rw [ht1]
                          intro h
                          rcases List.mem_append.1 h with h | h
                          · exact (hex_ne58 46 (ht2 46 h)).2 rfl
                          · rcases List.mem_cons.1 h with h | h
                            · exact hd h.symm
                            · exact hn 46 h rfl
                        rename_i h46 _
                        exact absurd h46.2 hno
                      · have hsp : splitOn 46 l = (h4 ++ d :: p) :: splitOn 46 q := by
                          rw [ht1, show h4 ++ d :: (p ++ 46 :: q) = (h4 ++ d :: p) ++ 46 :: q from by simp]
                          refine splitOn_hit 46 q _ ?_
                          intro b hb
                          rcases List.mem_append.1 hb with hb | hb
                          · exact (hex_ne58 b (ht2 b hb)).2
                          · rcases List.mem_cons.1 hb with rfl | hb
                            · exact hd
                            · exact hp b hb
                        rw [hsp, dotAcc] at hdd
                        have : plainDec (h4 ++ d :: p) = none := by
                          match h4, h44 with
                          | [a1, b1, c1, e1], _ => exact dec_long a1 b1 c1 e1 (d :: p)
                        rw [this] at hdd
                        cases hdd
                    · cases hdd
                · exact dotted_none l d (by rw [ht1]; simp) hdh hd
            rw [this]
          · rfl
        rw [hrhs]
        split
        · rfl
        · exact if_pos (Or.inl hd58)
  · have hxs2 : xs ≠ [] := fun h => splitOn_ne 58 r (by rw [hxs, h])
    rw [if_neg (show ¬ (xs = [] ∧ 46 ∈ c :: x') from fun h => hxs2 h.1)]
    -- the piece ends at the colon
    rcases Nat.lt_trichotomy h4.length (c :: x').length with hlt | heq | hgt
    · -- something that is no digit, or too many, stands in the piece
      have hpre : ∃ d y', c :: x' = h4 ++ d :: y' ∧ t = d :: (y' ++ 58 :: r) := by
        have e1 : h4 = (c :: x').take h4.length := by
          have := congrArg (List.take h4.length) (ht1.symm.trans hlx)
          rw [List.take_left, List.take_append_of_le_length (by omega)] at this
          exact this
        have e2 : t = (c :: x').drop h4.length ++ 58 :: r := by
          have := congrArg (List.drop h4.length) (ht1.symm.trans hlx)
          rw [List.drop_left, List.drop_append_of_le_length (by omega)] at this
          exact this
        cases hd : (c :: x').drop h4.length with
        | nil => have := congrArg List.length hd; simp at this; simp at hlt; omega
        | cons d y' =>
          refine ⟨d, y', ?_, ?_⟩
          · conv => lhs; rw [← List.take_append_drop h4.length (c :: x')]
            rw [← e1, hd]
          · rw [e2, hd]; rfl
      obtain ⟨d, y', hx', rfl⟩ := hpre
      have hd58 : d ≠ 58 := hx58 d (by rw [hx']; simp)
      have hpn : sixPiece (c :: x') = none := by
        by_cases hlen : h4.length < 4
        · exact piece_none _ d (by rw [hx']; simp) (ht4 hlen d _ rfl)
        · exact piece_long _ (by omega)
      rw [hpn]
      simp only
      by_cases hd : d = 46
      · subst hd
        rw [if_pos (by rfl), dotted_none l 58 (by rw [hlx]; simp) (by decide) (by decide)]
      · rw [if_neg (by simpa using hd)]
        split
        · rfl
        · exact if_pos (Or.inl hd58)
    · have e1 : h4 = c :: x' ∧ t = 58 :: r := by
        have := ht1.symm.trans hlx
        exact List.append_inj this heq
      obtain ⟨e1, rfl⟩ := e1
      subst e1
      rw [if_neg (by simp), if_neg (by simp), hex_piece _ ht2 ht3 (by simp)]
      simp only [sixNext]
      rw [if_neg hxs2]
      by_cases hr0 : r = []
      · rw [if_pos hr0, if_pos (Or.inr hr0)]
      · rw [if_neg hr0, if_neg (fun h => by rcases h with h | h; exact h rfl; exact hr0 h)]
    · -- the digits can't reach behind the colon
      have : (58 : UInt8) ∈ h4 := by
        have e1 : h4 = (c :: x' ++ 58 :: r).take h4.length := by
          have := congrArg (List.take h4.length) (ht1.symm.trans hlx)
          rw [List.take_left] at this
          exact this
        rw [e1, List.take_append]
        refine List.mem_append_right _ ?_
        obtain ⟨k, hk⟩ : ∃ k, h4.length - (c :: x').length = k + 1 := ⟨h4.length - (c :: x').length - 1, by omega⟩
        rw [hk]
        simp
      exact absurd (ht2 58 this) (by decide)
end Go.Moor
