/-
  Plain mathematics for pairs of names and values: how they are told as a query, how a query is read, and that what is told, or written with the set of components, is read as itself; no program is named here.
-/
import Derived.Test.YtkcnageeamappaaDoorABridge
namespace Go.Moor
open Go

/-- The set of what may not stand in a name or a value. -/
def pairWs : List Int := [18158685221371772927, 17870283327714361345, 18446744073709551615, 18446744073709551615]

-- telling
def pairTell1 (c : UInt8) : Bs := if c = 32 then [43] else escW1 pairWs c
def pairTell (l : Bs) : Bs := l.flatMap pairTell1
def p20 : Bs := [37, 50, 48]

theorem pair_has37 : wordsHold pairWs 37 = true := by decide +kernel
theorem pair_has : ∀ c : Fin 256, wordsHold pairWs c.val = false → c.val ≠ 37 ∧ c.val ≠ 43 ∧ c.val ≠ 38 ∧ c.val ≠ 61 ∧ c.val ≠ 32 := by decide +kernel
theorem comp_has : ∀ c : Fin 256, holdsB 6 c.val = false → c.val ≠ 37 ∧ c.val ≠ 43 ∧ c.val ≠ 38 ∧ c.val ≠ 61 ∧ c.val ≠ 32 := by decide +kernel
theorem hex_not : ∀ n : Fin 16, hexCap n.val ≠ 37 ∧ hexCap n.val ≠ 43 ∧ hexCap n.val ≠ 38 ∧ hexCap n.val ≠ 61 ∧ hexCap n.val ≠ 32 := by decide +kernel
theorem hex_two : ∀ c : Fin 256, (hexCap (c.val / 16) = 50 ∧ hexCap (c.val % 16) = 48) → c.val = 32 := by decide +kernel

theorem plain_pair (c : UInt8) (h : wordsHold pairWs c.toNat = false) : c ≠ 37 ∧ c ≠ 43 ∧ c ≠ 38 ∧ c ≠ 61 ∧ c ≠ 32 := by
  have := pair_has ⟨c.toNat, c.toNat_lt⟩ h
  refine ⟨?_, ?_, ?_, ?_, ?_⟩ <;> rintro rfl <;> revert this <;> decide
theorem plain_comp (c : UInt8) (h : holdsB 6 c.toNat = false) : c ≠ 37 ∧ c ≠ 43 ∧ c ≠ 38 ∧ c ≠ 61 ∧ c ≠ 32 := by
  have := comp_has ⟨c.toNat, c.toNat_lt⟩ h
  refine ⟨?_, ?_, ?_, ?_, ?_⟩ <;> rintro rfl <;> revert this <;> decide

-- a blank's escape
theorem p20_head (c : UInt8) (l : Bs) (h : c ≠ 37) : p20.isPrefixOf (c :: l) = false := by
  simp only [p20, List.isPrefixOf]
  have : ((37 : UInt8) == c) = false := beq_eq_false_iff_ne.2 (fun e => h e.symm)
  simp [this]
theorem index_skip (c : UInt8) (l : Bs) (h : p20.isPrefixOf (c :: l) = false) : Lib.index (c :: l) p20 = if Lib.index l p20 = -1 then -1 else Lib.index l p20 + 1 := by
  rw [Lib.index, h]
  simp only [Bool.false_eq_true, if_false, beq_iff_eq]
/-- The first of a blank's escapes: the blank's own. -/
theorem pair_index : ∀ l : Bs, (Lib.index (escW pairWs l) p20 = -1 ∧ escW pairWs l = pairTell l) ∨ ∃ a r, l = a ++ 32 :: r ∧ Lib.index (escW pairWs l) p20 = (escW pairWs a).length ∧ escW pairWs a = pairTell a
  | [] => Or.inl ⟨rfl, rfl⟩
  | c :: l => by
    by_cases h32 : c = 32
    · subst h32
      refine Or.inr ⟨[], l, rfl, ?_, rfl⟩
      have e : escW pairWs (32 :: l) = 37 :: 50 :: 48 :: escW pairWs l := by
        have : escW1 pairWs 32 = [37, 50, 48] := by decide +kernel
        show escW1 pairWs 32 ++ escW pairWs l = _
        rw [this]
        rfl
      rw [e, Lib.index]
      simp [p20, List.isPrefixOf, escW]
    · have hp1 : pairTell1 c = escW1 pairWs c := by unfold pairTell1; rw [if_neg h32]
      have key : ∀ x : Bs, Lib.index (escW1 pairWs c ++ x) p20 = if Lib.index x p20 = -1 then -1 else Lib.index x p20 + ((escW1 pairWs c).length : Int) := by
        intro x
        have hlt := c.toNat_lt
        unfold escW1
        cases hw : wordsHold pairWs c.toNat with
        | true =>
          simp only [if_true, List.cons_append, List.nil_append, List.length_cons, List.length_nil]
          have n1 := hex_not ⟨c.toNat / 16, by omega⟩
          have n2 := hex_not ⟨c.toNat % 16, by omega⟩
          have f1 : p20.isPrefixOf (37 :: hexCap (c.toNat / 16) :: hexCap (c.toNat % 16) :: x) = false := by
            simp only [p20, List.isPrefixOf]
            cases hb : ((50 : UInt8) == hexCap (c.toNat / 16) && ((48 : UInt8) == hexCap (c.toNat % 16) && true)) with
            | false => simp
            | true =>
              simp at hb
              have := hex_two ⟨c.toNat, hlt⟩ ⟨hb.1.symm, hb.2.symm⟩
              exact absurd (UInt8.toNat_inj.1 (show c.toNat = (32 : UInt8).toNat from this)) h32
          rw [index_skip _ _ f1, index_skip _ _ (p20_head _ _ n1.1), index_skip _ _ (p20_head _ _ n2.1)]
          have hge : Lib.index x p20 = -1 ∨ 0 ≤ Lib.index x p20 := by
            have : ∀ y : Bs, Lib.index y p20 = -1 ∨ 0 ≤ Lib.index y p20 := by
              intro y
              induction y with
              | nil => left; rfl
              | cons b y ih =>
                cases hb : p20.isPrefixOf (b :: y) with
                | true => right; rw [Lib.index, hb]; simp
                | false =>
                  rw [index_skip b y hb]
                  rcases ih with ih | ih
                  · left; rw [if_pos ih]
                  · right; rw [if_neg (by omega)]; omega
            exact this x
          rcases hge with hge | hge
          · rw [hge]; rfl
          · have z : ¬ Lib.index x p20 = -1 := by omega
            have z1 : ¬ Lib.index x p20 + 1 = -1 := by omega
            have z2 : ¬ Lib.index x p20 + 1 + 1 = -1 := by omega
            rw [if_neg z, if_neg z1, if_neg z2, if_neg z]
            omega
        | false =>
          have hn := plain_pair c hw
          simp only [Bool.false_eq_true, if_false, List.cons_append, List.nil_append, List.length_cons, List.length_nil]
          rw [index_skip _ _ (p20_head _ _ hn.1)]
          rfl
      have e0 : escW pairWs (c :: l) = escW1 pairWs c ++ escW pairWs l := rfl
      rcases pair_index l with ⟨h1, h2⟩ | ⟨a, r, h1, h2, h3⟩
      · refine Or.inl ⟨?_, ?_⟩
        · rw [e0, key, if_pos h1]
        · show escW1 pairWs c ++ escW pairWs l = pairTell1 c ++ pairTell l
          rw [h2, hp1]
      · refine Or.inr ⟨c :: a, r, by rw [h1]; rfl, ?_, ?_⟩
        · rw [e0, key, if_neg (by omega), h2]
          show _ = (((escW1 pairWs c ++ escW pairWs a).length : Nat) : Int)
          rw [List.length_append]
          omega
        · show escW1 pairWs c ++ escW pairWs a = pairTell1 c ++ pairTell a
          rw [h3, hp1]
theorem escW_app (ws : List Int) (a b : Bs) : escW ws (a ++ b) = escW ws a ++ escW ws b := by unfold escW; rw [List.flatMap_append]
theorem pairTell_app (a b : Bs) : pairTell (a ++ b) = pairTell a ++ pairTell b := by unfold pairTell; rw [List.flatMap_append]
theorem pair_cut (a r : Bs) : List.take (escW pairWs a).length (escW pairWs (a ++ 32 :: r)) = escW pairWs a ∧ List.drop ((escW pairWs a).length + p20.length) (escW pairWs (a ++ 32 :: r)) = escW pairWs r := by
  have e : escW pairWs (a ++ 32 :: r) = escW pairWs a ++ (p20 ++ escW pairWs r) := by
    rw [escW_app]
    show _ ++ (escW1 pairWs 32 ++ escW pairWs r) = _
    have : escW1 pairWs 32 = p20 := by decide +kernel
    rw [this]
  refine ⟨by rw [e, List.take_left], ?_⟩
  rw [e, ← List.append_assoc, List.drop_left' (by simp)]
theorem countFrom_le (p : Bs) : ∀ (f : Nat) (x : Bs), Lib.countFrom p f x ≤ f := by
  intro f
  induction f with
  | zero => intro x; exact Nat.le_refl _
  | succ f ih =>
    intro x
    rw [Lib.countFrom]
    split
    · omega
    · have := ih (List.drop ((Lib.index x p).toNat + p.length) x)
      omega
theorem pair_fuel : ∀ (k : Nat) (l : Bs), (escW pairWs l).length < k → Lib.replaceK p20 [43] (Lib.countFrom p20 k (escW pairWs l)) (escW pairWs l) = pairTell l
  | 0, l, h => by omega
  | k + 1, l, h => by
    rcases pair_index l with ⟨h1, h2⟩ | ⟨a, r, h1, h2, h3⟩
    · rw [Lib.countFrom, h1, if_pos (by rfl)]
      exact h2
    · have e : (((escW pairWs a).length : Int) == -1) = false := beq_eq_false_iff_ne.2 (by omega)
      obtain ⟨c1, c2⟩ := pair_cut a r
      rw [← h1] at c1 c2
      have hlen : (escW pairWs l).length = (escW pairWs a).length + 3 + (escW pairWs r).length := by
        rw [h1, escW_app]
        show (escW pairWs a ++ (escW1 pairWs 32 ++ escW pairWs r)).length = _
        have : escW1 pairWs 32 = p20 := by decide +kernel
        rw [this]
        simp [p20]
        omega
      rw [Lib.countFrom, h2, e]
      simp only [Bool.false_eq_true, if_false, Int.toNat_natCast]
      rw [c2, Nat.add_comm 1, Lib.replaceK_hit p20 [43] _ (escW pairWs l) (escW pairWs a).length h2, c1, c2, pair_fuel k r (by omega), h3, h1, pairTell_app]
      show _ = pairTell a ++ (pairTell1 32 ++ pairTell r)
      simp [pairTell1]
theorem replaceAll_pair (l : Bs) : Lib.replaceAll (escW pairWs l) p20 [43] = pairTell l := by
  unfold Lib.replaceAll Lib.replace
  rw [if_neg (by decide)]
  unfold Lib.replaceNum
  rw [if_pos (Or.inl (by omega))]
  exact pair_fuel ((escW pairWs l).length + 1) l (by omega)

-- reading
def plusBlank (l : Bs) : Bs := l.map fun b => if b = 43 then 32 else b
def readText (l : Bs) : Bs := unesc (plusBlank l)
theorem plus_app (a b : Bs) : plusBlank (a ++ b) = plusBlank a ++ plusBlank b := by unfold plusBlank; rw [List.map_append]
theorem plus_hex (c : UInt8) : plusBlank [37, hexCap (c.toNat / 16), hexCap (c.toNat % 16)] = [37, hexCap (c.toNat / 16), hexCap (c.toNat % 16)] := by
  have hlt := c.toNat_lt
  have n1 := (hex_not ⟨c.toNat / 16, by omega⟩).2.1
  have n2 := (hex_not ⟨c.toNat % 16, by omega⟩).2.1
  simp only [plusBlank, List.map_cons, List.map_nil]
  rw [if_neg n1, if_neg n2]
  rfl
theorem unesc_three (c : UInt8) (l : Bs) : unesc (37 :: hexCap (c.toNat / 16) :: hexCap (c.toNat % 16) :: l) = c :: unesc l := by
  obtain ⟨h1, h2, h3⟩ := pair_back' c
  rw [unesc_hex _ _ _ (by simp [twoHex, h2, h3]), h1]
theorem read_tell : ∀ l : Bs, readText (pairTell l) = l
  | [] => rfl
  | c :: l => by
    have ih := read_tell l
    unfold readText at ih ⊢
    show unesc (plusBlank (pairTell1 c ++ pairTell l)) = _
    rw [plus_app]
    unfold pairTell1
    by_cases h32 : c = 32
    · subst h32
      rw [if_pos rfl]
      show unesc (32 :: plusBlank (pairTell l)) = _
      rw [unesc_ne _ _ (by decide), ih]
    · rw [if_neg h32]
      unfold escW1
      cases hw : wordsHold pairWs c.toNat with
      | true =>
        simp only [if_true]
        rw [plus_hex]
        show unesc (37 :: _ :: _ :: plusBlank (pairTell l)) = _
        rw [unesc_three, ih]
      | false =>
        have hn := plain_pair c hw
        simp only [Bool.false_eq_true, if_false]
        have : plusBlank [c] = [c] := by simp [plusBlank, hn.2.1]
        rw [this]
        show unesc (c :: plusBlank (pairTell l)) = _
        rw [unesc_ne _ _ hn.1, ih]
theorem read_comp : ∀ l : Bs, readText (esc 6 l) = l
  | [] => rfl
  | c :: l => by
    have ih := read_comp l
    unfold readText at ih ⊢
    show unesc (plusBlank (escB 6 c ++ esc 6 l)) = _
    rw [plus_app]
    unfold escB
    cases hw : holdsB 6 c.toNat with
    | true =>
      simp only [if_true]
      rw [plus_hex]
      show unesc (37 :: _ :: _ :: plusBlank (esc 6 l)) = _
      rw [unesc_three, ih]
    | false =>
      have hn := plain_comp c hw
      simp only [Bool.false_eq_true, if_false]
      have : plusBlank [c] = [c] := by simp [plusBlank, hn.2.1]
      rw [this]
      show unesc (c :: plusBlank (esc 6 l)) = _
      rw [unesc_ne _ _ hn.1, ih]

-- marks
/-- Neither of the two marks of a query is in it. -/
def NoMark (l : Bs) : Prop := ∀ x ∈ l, x ≠ 38 ∧ x ≠ 61
theorem noMark_hex (c : UInt8) : NoMark [37, hexCap (c.toNat / 16), hexCap (c.toNat % 16)] := by
  have hlt := c.toNat_lt
  have n1 := hex_not ⟨c.toNat / 16, by omega⟩
  have n2 := hex_not ⟨c.toNat % 16, by omega⟩
  intro x hx
  simp only [List.mem_cons, List.not_mem_nil, or_false] at hx
  rcases hx with rfl | rfl | rfl
  · decide
  · exact ⟨n1.2.2.1, n1.2.2.2.1⟩
  · exact ⟨n2.2.2.1, n2.2.2.2.1⟩
theorem noMark_app {a b : Bs} (ha : NoMark a) (hb : NoMark b) : NoMark (a ++ b) := by
  intro x hx
  rcases List.mem_append.1 hx with h | h
  · exact ha x h
  · exact hb x h
theorem noMark_tell : ∀ l : Bs, NoMark (pairTell l)
  | [] => by intro x hx; cases hx
  | c :: l => by
    refine noMark_app ?_ (noMark_tell l)
    unfold pairTell1
    by_cases h32 : c = 32
    · rw [if_pos h32]
      intro x hx
      simp at hx
      subst hx
      decide
    · rw [if_neg h32]
      unfold escW1
      cases hw : wordsHold pairWs c.toNat with
      | true => exact noMark_hex c
      | false =>
        have hn := plain_pair c hw
        intro x hx
        simp at hx
        subst hx
        exact ⟨hn.2.2.1, hn.2.2.2.1⟩
theorem noMark_comp : ∀ l : Bs, NoMark (esc 6 l)
  | [] => by intro x hx; cases hx
  | c :: l => by
    refine noMark_app ?_ (noMark_comp l)
    unfold escB
    cases hw : holdsB 6 c.toNat with
    | true => exact noMark_hex c
    | false =>
      have hn := plain_comp c hw
      intro x hx
      simp at hx
      subst hx
      exact ⟨hn.2.2.1, hn.2.2.2.1⟩

-- queries
def readPair (p : Bs) : Bs × Bs := (readText (cutOpt 61 p).1, readText ((cutOpt 61 p).2.getD []))
def keepPieces (l : List Bs) : List Bs := l.filter (fun p => !p.isEmpty)
def readPairs (q : Bs) : List (Bs × Bs) := (keepPieces (splitOn 38 q)).map readPair
def piece (f : Bs → Bs) (p : Bs × Bs) : Bs := f p.1 ++ 61 :: f p.2
def joinAmp : List Bs → Bs
  | [] => []
  | [x] => x
  | x :: y :: l => x ++ 38 :: joinAmp (y :: l)
def tellPairs (l : List (Bs × Bs)) : Bs := joinAmp (l.map (piece pairTell))
/-- Written with two marks ahead of each pair. -/
def writePairs (l : List (Bs × Bs)) : Bs := l.flatMap fun p => 38 :: 38 :: piece (esc 6) p

theorem cutOpt_at (c : UInt8) (b : Bs) : ∀ a : Bs, (∀ x ∈ a, x ≠ c) → cutOpt c (a ++ c :: b) = (a, some b) := by
  have key : ∀ a : Bs, (∀ x ∈ a, x ≠ c) → cutB c (a ++ c :: b) = some (a, b) := by
    intro a
    induction a with
    | nil => intro _; simp [cutB]
    | cons d a ih =>
      intro h
      show cutB c (d :: (a ++ c :: b)) = _
      rw [cutB, if_neg (h d (by simp)), ih (fun x hx => h x (by simp [hx]))]
      rfl
  intro a h
  unfold cutOpt
  rw [key a h]
theorem readPair_piece (f : Bs → Bs) (hr : ∀ l, readText (f l) = l) (hm : ∀ l, NoMark (f l)) (p : Bs × Bs) : readPair (piece f p) = p := by
  unfold readPair piece
  rw [cutOpt_at 61 (f p.2) (f p.1) (fun x hx => (hm p.1 x hx).2)]
  show (readText (f p.1), readText (f p.2)) = p
  rw [hr, hr]
theorem piece_amp (f : Bs → Bs) (hm : ∀ l, NoMark (f l)) (p : Bs × Bs) : ∀ x ∈ piece f p, x ≠ 38 := by
  intro x hx
  unfold piece at hx
  rcases List.mem_append.1 hx with h | h
  · exact (hm p.1 x h).1
  · rcases List.mem_cons.1 h with rfl | h
    · decide
    · exact (hm p.2 x h).1
theorem pairPiece_ne (f : Bs → Bs) (p : Bs × Bs) : (piece f p).isEmpty = false := by
  unfold piece
  cases f p.1 <;> rfl
theorem keep_all (f : Bs → Bs) (l : List (Bs × Bs)) : keepPieces (l.map (piece f)) = l.map (piece f) := by
  unfold keepPieces
  rw [List.filter_eq_self]
  intro x hx
  obtain ⟨p, _, rfl⟩ := List.mem_map.1 hx
  rw [pairPiece_ne]
  rfl
theorem split_join : ∀ l : List Bs, l ≠ [] → (∀ x ∈ l, ∀ b ∈ x, b ≠ (38 : UInt8)) → splitOn 38 (joinAmp l) = l
  | [], h, _ => absurd rfl h
  | [x], _, h => splitOn_miss 38 x (h x (by simp))
  | x :: y :: l, _, h => by
    show splitOn 38 (x ++ 38 :: joinAmp (y :: l)) = _
    rw [splitOn_hit 38 _ x (h x (by simp)), split_join (y :: l) (by simp) (fun z hz => h z (by simp at hz ⊢; right; exact hz))]
theorem map_read (f : Bs → Bs) (hr : ∀ l, readText (f l) = l) (hm : ∀ l, NoMark (f l)) : ∀ l : List (Bs × Bs), (l.map (piece f)).map readPair = l
  | [] => rfl
  | p :: l => by
    rw [List.map_cons, List.map_cons, readPair_piece f hr hm p, map_read f hr hm l]
/-- What is told of pairs is read as those pairs. -/
theorem read_told (l : List (Bs × Bs)) : readPairs (tellPairs l) = l := by
  cases l with
  | nil => rfl
  | cons p l =>
    unfold readPairs tellPairs
    rw [split_join _ (by simp) (by
      intro x hx
      obtain ⟨q, _, rfl⟩ := List.mem_map.1 hx
      exact piece_amp pairTell noMark_tell q), keep_all, map_read pairTell read_tell noMark_tell]
theorem split_write : ∀ l : List (Bs × Bs), keepPieces (splitOn 38 (writePairs l)) = l.map (piece (esc 6)) ∧ (splitOn 38 (writePairs l)).head? = some []
  | [] => ⟨rfl, rfl⟩
  | p :: l => by
    obtain ⟨h1, h2⟩ := split_write l
    have e : splitOn 38 (writePairs (p :: l)) = [] :: [] :: (piece (esc 6) p ++ (splitOn 38 (writePairs l)).headD []) :: (splitOn 38 (writePairs l)).tail := by
      show splitOn 38 ((38 :: 38 :: piece (esc 6) p) ++ writePairs l) = _
      show splitOn 38 (38 :: 38 :: (piece (esc 6) p ++ writePairs l)) = _
      rw [splitOn, if_pos rfl, splitOn, if_pos rfl]
      cases l with
      | nil =>
        show [] :: [] :: splitOn 38 (piece (esc 6) p ++ []) = _
        rw [List.append_nil, splitOn_miss 38 _ (piece_amp (esc 6) noMark_comp p)]
        show _ = [] :: [] :: (piece (esc 6) p ++ []) :: []
        rw [List.append_nil]
      | cons q l =>
        have e1 : writePairs (q :: l) = 38 :: (38 :: (piece (esc 6) q ++ writePairs l)) := rfl
        rw [e1, splitOn_hit 38 _ _ (piece_amp (esc 6) noMark_comp p)]
        rw [show splitOn 38 (38 :: (38 :: (piece (esc 6) q ++ writePairs l))) = [] :: splitOn 38 (38 :: (piece (esc 6) q ++ writePairs l)) by rw [splitOn, if_pos rfl]]
        simp
    refine ⟨?_, by rw [e]; rfl⟩
    rw [e]
    cases hs : splitOn 38 (writePairs l) with
    | nil => exact absurd hs (splitOn_ne 38 _)
    | cons x xs =>
      rw [hs] at h1 h2
      have hx : x = [] := by simpa using h2
      subst hx
      show keepPieces ([] :: [] :: (piece (esc 6) p ++ []) :: xs) = _
      rw [List.append_nil]
      have h1' : keepPieces xs = l.map (piece (esc 6)) := h1
      unfold keepPieces at h1' ⊢
      rw [List.filter_cons_of_neg (by simp), List.filter_cons_of_neg (by simp), List.filter_cons_of_pos (by rw [pairPiece_ne]; rfl), h1']
      rfl
/-- Pairs that are written otherwise are read as those pairs. -/
theorem read_written (l : List (Bs × Bs)) : readPairs (writePairs l) = l := by
  unfold readPairs
  rw [(split_write l).1, map_read (esc 6) read_comp noMark_comp]
theorem tellPairs_nil (l : List (Bs × Bs)) : (tellPairs l = []) ↔ l = [] := by
  constructor
  · intro h
    have := read_told l
    rw [h] at this
    rw [← this]
    rfl
  · rintro rfl
    rfl
theorem known_pair : tellPairs [([97, 32, 98], [99, 38, 61, 43, 37])] = [97, 43, 98, 61, 99, 37, 50, 54, 37, 51, 68, 37, 50, 66, 37, 50, 53] := by decide +kernel
theorem writePairs_snoc (l : List (Bs × Bs)) (p : Bs × Bs) : writePairs (l ++ [p]) = writePairs l ++ 38 :: 38 :: piece (esc 6) p := by
  unfold writePairs
  rw [List.flatMap_append]
  simp
end Go.Moor
