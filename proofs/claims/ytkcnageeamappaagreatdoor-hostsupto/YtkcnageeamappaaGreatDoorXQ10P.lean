import Derived.Test.YtkcnageeamappaaGreatDoorXRSix2
import Derived.Test.YtkcnageeamappaaGreatDoorXHMarks
import Derived.Test.YtkcnageeamappaaGreatDoorXFPlain
namespace Go.Moor
open Go
theorem hexNum_snoc : ∀ (l : Bs) (v : Int) (c : UInt8), hexNum v (l ++ [c]) = 16 * hexNum v l + hexVal c.toNat
  | [], _, _ => rfl
  | d :: l, v, c => by rw [List.cons_append, hexNum, hexNum, hexNum_snoc l _ c]
theorem hexNum_range : ∀ (l : Bs) (v : Int), (∀ c ∈ l, hexVal c.toNat < 16) → 0 ≤ v → 0 ≤ hexNum v l ∧ hexNum v l < (v + 1) * 16 ^ l.length
  | [], v, _, h => by simp only [hexNum, List.length_nil, Int.pow_zero, Int.mul_one]; omega
  | c :: l, v, hl, h => by
    have h1 := hl c List.mem_cons_self
    have h2 := hexVal_range (c.toNat : Int)
    obtain ⟨h3, h4⟩ := hexNum_range l (16 * v + hexVal c.toNat) (fun x hx => hl x (List.mem_cons_of_mem _ hx)) (by omega)
    rw [hexNum]
    refine ⟨h3, Int.lt_of_lt_of_le h4 ?_⟩
    have e : (v + 1) * 16 ^ (c :: l).length = (16 * v + 16) * 16 ^ l.length := by
      rw [List.length_cons, Int.pow_succ, Int.mul_comm ((16 : Int) ^ l.length) 16, ← Int.mul_assoc]
      congr 1
      omega
    rw [e]
    exact Int.mul_le_mul_of_nonneg_right (by omega) (Int.pow_nonneg (by omega))
theorem hexNum_small (l : Bs) (h : ∀ c ∈ l, hexVal c.toNat < 16) (h4 : l.length ≤ 4) : 0 ≤ hexNum 0 l ∧ hexNum 0 l ≤ 65535 := by
  obtain ⟨h1, h2⟩ := hexNum_range l 0 h (by omega)
  refine ⟨h1, ?_⟩
  have : l.length = 0 ∨ l.length = 1 ∨ l.length = 2 ∨ l.length = 3 ∨ l.length = 4 := by omega
  rcases this with e | e | e | e | e <;> (rw [e] at h2; have h3 : ((0 : Int) + 1) * 16 ^ 4 = 65536 := by decide) <;> simp at h2 <;> omega
theorem hexTake_on (r : Bs) (j : Nat) (h : j < (hexTake 4 r).length) : ∃ h2 : j < r.length, hexVal r[j].toNat < 16 ∧ (hexTake 4 r).take (j + 1) = (hexTake 4 r).take j ++ [r[j]] ∧ j < 4 := by
  obtain ⟨r', h1, h2, h3, _⟩ := hexTake_append 4 r
  generalize hexTake 4 r = T at *
  subst h1
  have h5 : j < (T ++ r').length := by rw [List.length_append]; omega
  have e : (T ++ r')[j] = T[j] := List.getElem_append_left h
  refine ⟨h5, ?_, ?_, by omega⟩
  · rw [e]; exact h2 _ (List.getElem_mem h)
  · rw [e, List.take_add_one, List.getElem?_eq_getElem h]; rfl
theorem hexTake_off (r : Bs) : (hexTake 4 r).length = r.length ∨ ((hexTake 4 r).length < r.length ∧ (hexTake 4 r).length = 4) ∨ ((hexTake 4 r).length < 4 ∧ ∃ h : (hexTake 4 r).length < r.length, ¬ hexVal r[(hexTake 4 r).length].toNat < 16) := by
  obtain ⟨r', h1, h2, h3, h4⟩ := hexTake_append 4 r
  generalize hexTake 4 r = T at *
  subst h1
  cases r' with
  | nil => left; simp
  | cons c y =>
    right
    by_cases h : T.length = 4
    · left; exact ⟨by simp, h⟩
    · right
      refine ⟨by omega, by simp, ?_⟩
      rw [List.getElem_append_right (Nat.le_refl _)]
      simp
      exact Int.not_lt.1 (h4 (by omega) c y rfl)
theorem hexTake_hex (r : Bs) : (∀ c ∈ hexTake 4 r, hexVal c.toNat < 16) ∧ (hexTake 4 r).length ≤ 4 := by
  obtain ⟨r', _, h2, h3, _⟩ := hexTake_append 4 r
  exact ⟨h2, h3⟩
theorem hexTake_on2 (l : Bs) (i j : Nat) (T : Bs) (hT : T = hexTake 4 (l.drop i)) (h : j < T.length) : ∃ c, l[i + j]? = some c ∧ hexVal c.toNat < 16 ∧ T.take (j + 1) = T.take j ++ [c] ∧ j < 4 := by
  subst hT
  obtain ⟨h2, h3, h4, h5⟩ := hexTake_on (l.drop i) j h
  refine ⟨(l.drop i)[j], ?_, h3, h4, h5⟩
  rw [← List.getElem?_drop, List.getElem?_eq_getElem h2]
theorem hexTake_off2 (l : Bs) (i : Nat) (T : Bs) (hT : T = hexTake 4 (l.drop i)) (hi : i ≤ l.length) : i + T.length = l.length ∨ (i + T.length < l.length ∧ T.length = 4) ∨ (i + T.length < l.length ∧ T.length < 4 ∧ ∃ c, l[i + T.length]? = some c ∧ ¬ hexVal c.toNat < 16) := by
  subst hT
  rcases hexTake_off (l.drop i) with h | ⟨h1, h2⟩ | ⟨h1, h2, h3⟩
  · rw [List.length_drop] at h; left; omega
  · rw [List.length_drop] at h1; right; left; exact ⟨by omega, h2⟩
  · right; right
    refine ⟨by have h4 := h2; rw [List.length_drop] at h4; omega, h1, (l.drop i)[(hexTake 4 (l.drop i)).length], ?_, h3⟩
    rw [← List.getElem?_drop, List.getElem?_eq_getElem h2]
def padI (ps : List Int) : List Int := ps ++ List.replicate (8 - ps.length) 0
theorem padI_len (ps : List Int) (h : ps.length ≤ 8) : (padI ps).length = 8 := by unfold padI; simp; omega
theorem padI_nought (ps : List Int) (h : ps.length < 8) : padI (ps ++ [0]) = padI ps := by
  unfold padI
  rw [List.length_append, List.append_assoc]
  congr 1
  rw [show 8 - ps.length = (8 - (ps.length + 1)) + 1 by omega]
  rfl
theorem padI_put (ps : List Int) (x : Int) (h : ps.length < 8) : (padI ps).set ps.length x = padI (ps ++ [x]) := by
  unfold padI
  rw [List.set_append_right _ _ (Nat.le_refl _), List.length_append, List.append_assoc, Nat.sub_self]
  congr 1
  rw [show 8 - ps.length = (8 - (ps.length + 1)) + 1 by omega]
  rfl
theorem padI_at (ps : List Int) (j : Nat) (h : j < ps.length) : (padI ps)[j]? = some ps[j] := by
  unfold padI
  rw [List.getElem?_append_left h, List.getElem?_eq_getElem h]
theorem padI_full (ps : List Int) (h : ps.length = 8) : padI ps = ps := by
  unfold padI
  rw [h]
  simp
def mvI (ps : List Int) (s k : Nat) : List Int := ps.take s ++ (List.replicate (8 - ps.length) 0 ++ ((ps.drop s).take (k - s) ++ List.replicate (ps.length - k) 0))
theorem mvI_start (ps : List Int) (s : Nat) (hs : s ≤ ps.length) (h8 : ps.length ≤ 8) : mvI ps s s = padI (ps.take s) := by
  unfold mvI padI
  rw [Nat.sub_self, List.take_zero, List.nil_append, List.replicate_append_replicate, List.length_take]
  congr 2
  omega
theorem mvI_len (ps : List Int) (s k : Nat) (hs : s ≤ k) (hk : k ≤ ps.length) (h8 : ps.length ≤ 8) : (mvI ps s k).length = 8 := by
  unfold mvI
  simp
  omega
theorem mvI_put (ps : List Int) (s k : Nat) (hs : s ≤ k) (hk : k < ps.length) (h8 : ps.length ≤ 8) : (mvI ps s k).set (8 - ps.length + k) ps[k] = mvI ps s (k + 1) := by
  unfold mvI
  have e1 : (ps.take s).length = s := by rw [List.length_take]; omega
  rw [List.set_append_right _ _ (by omega), e1]
  congr 1
  rw [List.set_append_right _ _ (by simp; omega)]
  congr 1
  have e2 : ((ps.drop s).take (k - s)).length = k - s := by simp; omega
  rw [List.set_append_right _ _ (by simp; omega), e2, List.length_replicate]
  have e3 : (ps.drop s).take (k + 1 - s) = (ps.drop s).take (k - s) ++ [ps[k]] := by
    rw [show k + 1 - s = (k - s) + 1 by omega, List.take_add_one, List.getElem?_drop, show s + (k - s) = k by omega, List.getElem?_eq_getElem hk]
    rfl
  rw [e3, List.append_assoc]
  congr 1
  rw [show 8 - ps.length + k - s - (8 - ps.length) - (k - s) = 0 by omega, show ps.length - k = (ps.length - (k + 1)) + 1 by omega]
  rfl
theorem mvI_end (ps : List Int) (s : Nat) : mvI ps s ps.length = ps.take s ++ (List.replicate (8 - ps.length) 0 ++ ps.drop s) := by
  unfold mvI
  have e : (ps.drop s).take (ps.length - s) = ps.drop s := List.take_of_length_le (by rw [List.length_drop]; omega)
  rw [Nat.sub_self, e]
  simp
theorem take_put (ps : List Int) (k : Nat) (hk : k < ps.length) (h8 : ps.length ≤ 8) : (padI (ps.take k)).set k ps[k] = padI (ps.take (k + 1)) := by
  have e : (ps.take k).length = k := by rw [List.length_take]; omega
  have h := padI_put (ps.take k) ps[k] (by omega)
  rw [e] at h
  rw [h, List.take_add_one, List.getElem?_eq_getElem hk]
  rfl
theorem rest_nil (f : Nat) (ps : List Int) (sh : Option Nat) : sixRest (f + 1) [] ps sh = some (ps, sh) := rfl
theorem rest_full (f : Nat) (c : UInt8) (r : Bs) (ps : List Int) (sh : Option Nat) (h : ps.length = 8) : sixRest (f + 1) (c :: r) ps sh = none := by rw [sixRest, if_pos h]
theorem rest_colon (f : Nat) (r : Bs) (ps : List Int) (sh : Option Nat) (h : ps.length ≠ 8) : sixRest (f + 1) (58 :: r) ps sh = if sh.isSome then none else sixRest f r (ps ++ [0]) (some (ps.length + 1)) := by rw [sixRest, if_neg h, if_pos rfl]
theorem rest_dot (f : Nat) (c : UInt8) (r : Bs) (ps : List Int) (sh : Option Nat) (h : ps.length ≠ 8) (hc : c ≠ 58) (hd : ((c :: r).drop (hexTake 4 (c :: r)).length).head? = some 46) :
    sixRest (f + 1) (c :: r) ps sh = match sixDotted (c :: r) with | some a => if ps.length ≤ 6 then some (ps ++ [a / 65536, a % 65536], sh) else none | none => none := by
  rw [sixRest, if_neg h, if_neg hc, if_pos hd]
  cases sixDotted (c :: r) <;> rfl
theorem rest_no (f : Nat) (c : UInt8) (r : Bs) (ps : List Int) (sh : Option Nat) (h : ps.length ≠ 8) (hc : c ≠ 58) (hd : ((c :: r).drop (hexTake 4 (c :: r)).length).head? ≠ some 46) (ht : hexTake 4 (c :: r) = []) :
    sixRest (f + 1) (c :: r) ps sh = none := by rw [sixRest, if_neg h, if_neg hc, if_neg hd, if_pos ht]
theorem rest_last1 (f : Nat) (c : UInt8) (r : Bs) (ps : List Int) (sh : Option Nat) (h : ps.length ≠ 8) (hc : c ≠ 58) (ht : hexTake 4 (c :: r) ≠ []) (hl : (c :: r).drop (hexTake 4 (c :: r)).length = []) :
    sixRest (f + 1) (c :: r) ps sh = some (ps ++ [hexNum 0 (hexTake 4 (c :: r))], sh) := by rw [sixRest, if_neg h, if_neg hc, if_neg (by rw [hl]; simp), if_neg ht, hl]
theorem rest_more (f : Nat) (c : UInt8) (r : Bs) (ps : List Int) (sh : Option Nat) (d : UInt8) (y : Bs) (h : ps.length ≠ 8) (hc : c ≠ 58) (hd : d ≠ 46) (ht : hexTake 4 (c :: r) ≠ []) (hl : (c :: r).drop (hexTake 4 (c :: r)).length = d :: y) :
    sixRest (f + 1) (c :: r) ps sh = if d ≠ 58 ∨ y = [] then none else sixRest f y (ps ++ [hexNum 0 (hexTake 4 (c :: r))]) sh := by rw [sixRest, if_neg h, if_neg hc, if_neg (by rw [hl]; simpa using hd), if_neg ht, hl]
end Go.Moor
namespace Go.Moor
open Go
def zrun : List Nat → Nat
  | [] => 0
  | p :: l => if p = 0 then zrun l + 1 else 0
def bestRun : List Nat → Nat → Int → Nat → Int × Nat
  | [], _, f, s => (f, s)
  | p :: l, i, f, s => if s < zrun (p :: l) then bestRun l (i + 1) i (zrun (p :: l)) else bestRun l (i + 1) f s
def flat (p : Nat) : Nat := if p = 0 then 0 else 1
theorem zrun_flat : ∀ l : List Nat, zrun (l.map flat) = zrun l
  | [] => rfl
  | p :: l => by
    show zrun (flat p :: l.map flat) = _
    rw [zrun, zrun, zrun_flat l]
    by_cases h : p = 0
    · subst h; rfl
    · have : flat p ≠ 0 := by unfold flat; rw [if_neg h]; decide
      rw [if_neg this, if_neg h]
theorem bestRun_flat : ∀ (l : List Nat) (i : Nat) (f : Int) (s : Nat), bestRun (l.map flat) i f s = bestRun l i f s
  | [], _, _, _ => rfl
  | p :: l, i, f, s => by
    have h := zrun_flat (p :: l)
    show bestRun (flat p :: l.map flat) i f s = _
    have h : zrun (flat p :: l.map flat) = zrun (p :: l) := h
    rw [bestRun, bestRun, h, bestRun_flat l, bestRun_flat l]
theorem noughts_flat : ∀ (l : List Nat) (i row s k : Nat), noughts (l.map flat) i row s k = noughts l i row s k
  | [], _, _, _, _ => rfl
  | p :: l, i, row, s, k => by
    show noughts (flat p :: l.map flat) i row s k = _
    rw [noughts, noughts]
    by_cases h : p = 0
    · subst h
      have e : flat 0 = 0 := rfl
      simp only [e, ne_eq, not_true_eq_false, if_false, noughts_flat l]
    · have h2 : flat p ≠ 0 := by unfold flat; rw [if_neg h]; decide
      rw [if_pos h2, if_pos h, noughts_flat l]
def bitAt (b : Nat) (j : Nat) : Nat := b / 2 ^ j % 2
theorem best_fin : ∀ b : Fin 256, let l := [bitAt b.val 0, bitAt b.val 1, bitAt b.val 2, bitAt b.val 3, bitAt b.val 4, bitAt b.val 5, bitAt b.val 6, bitAt b.val 7]
    bestRun l 0 (-1) 1 = if (noughts l 0 0 0 0).2 < 2 then (-1, 1) else (((noughts l 0 0 0 0).1 : Int), (noughts l 0 0 0 0).2) := by decide +kernel
theorem flat_lt (p : Nat) : flat p < 2 := by unfold flat; split <;> omega
theorem bits_of (a0 a1 a2 a3 a4 a5 a6 a7 : Nat) (h0 : a0 < 2) (h1 : a1 < 2) (h2 : a2 < 2) (h3 : a3 < 2) (h4 : a4 < 2) (h5 : a5 < 2) (h6 : a6 < 2) (h7 : a7 < 2) :
    ∃ b : Fin 256, [bitAt b.val 0, bitAt b.val 1, bitAt b.val 2, bitAt b.val 3, bitAt b.val 4, bitAt b.val 5, bitAt b.val 6, bitAt b.val 7] = [a0, a1, a2, a3, a4, a5, a6, a7] := by
  refine ⟨⟨a0 + 2 * a1 + 4 * a2 + 8 * a3 + 16 * a4 + 32 * a5 + 64 * a6 + 128 * a7, by omega⟩, ?_⟩
  unfold bitAt
  simp only [List.cons.injEq, and_true]
  refine ⟨by omega, by omega, by omega, by omega, by omega, by omega, by omega, by omega⟩
theorem best_noughts (l : List Nat) (h8 : l.length = 8) : bestRun l 0 (-1) 1 = if (noughts l 0 0 0 0).2 < 2 then (-1, 1) else (((noughts l 0 0 0 0).1 : Int), (noughts l 0 0 0 0).2) := by
  match l, h8 with
  | [p0, p1, p2, p3, p4, p5, p6, p7], _ =>
    obtain ⟨b, hb⟩ := bits_of (flat p0) (flat p1) (flat p2) (flat p3) (flat p4) (flat p5) (flat p6) (flat p7) (flat_lt _) (flat_lt _) (flat_lt _) (flat_lt _) (flat_lt _) (flat_lt _) (flat_lt _) (flat_lt _)
    have h := best_fin b
    simp only at h
    rw [hb] at h
    have e : [flat p0, flat p1, flat p2, flat p3, flat p4, flat p5, flat p6, flat p7] = [p0, p1, p2, p3, p4, p5, p6, p7].map flat := rfl
    rw [e, bestRun_flat, noughts_flat] at h
    exact h
def satNext (base n d : Int) : Int := if n * base + d > 4294967295 then 4294967296 else n * base + d
def satAcc (base : Int) : Int → Bs → Option Int
  | n, [] => some n
  | n, c :: l => if hexVal c.toNat < base then satAcc base (satNext base n (hexVal c.toNat)) l else none
theorem sat_great (base most : Int) (hb : 2 ≤ base) (hm : most ≤ 4294967295) (hm0 : 0 ≤ most) : ∀ (l : Bs) (n m : Int), most < n → satAcc base n l = some m → most < m
  | [], n, m, hn, h => by simp only [satAcc, Option.some.injEq] at h; omega
  | c :: l, n, m, hn, h => by
    rw [satAcc] at h
    split at h
    · have hr := hexVal_range (c.toNat : Int)
      have hge : n ≤ n * base := by
        have := Int.mul_le_mul_of_nonneg_left (show (1 : Int) ≤ base by omega) (show 0 ≤ n by omega)
        omega
      refine sat_great base most hb hm hm0 l _ m ?_ h
      unfold satNext
      split <;> omega
    · cases h
theorem digAcc_sat (base most : Int) (hb : 2 ≤ base) (hm : most ≤ 4294967295) (hm0 : 0 ≤ most) : ∀ (l : Bs) (n : Int), 0 ≤ n → n ≤ most → digAcc base most n l = match satAcc base n l with | none => none | some m => if m ≤ most then some m else none
  | [], n, h0, hn => by rw [digAcc, satAcc]; simp only; rw [if_pos hn]
  | c :: l, n, h0, hn => by
    have hr := hexVal_range (c.toNat : Int)
    have hge : 0 ≤ n * base := Int.mul_nonneg h0 (by omega)
    rw [digAcc, satAcc]
    split
    · rename_i hc
      split
      · rename_i h1
        have e : satNext base n (hexVal c.toNat) = n * base + hexVal c.toNat := by
          unfold satNext
          rw [if_neg (by omega)]
        rw [e]
        exact digAcc_sat base most hb hm hm0 l _ (by omega) h1
      · rename_i h1
        cases hs : satAcc base (satNext base n (hexVal c.toNat)) l with
        | none => rfl
        | some m =>
          have : most < m := sat_great base most hb hm hm0 l _ m (by unfold satNext; split <;> omega) hs
          simp only
          rw [if_neg (by omega)]
    · rfl
def labelBase (s : Bs) : Int × Bs := if Lib.hasPrefix s [48, 120] then (16, s.drop 2) else if 1 < s.length ∧ s.head? = some 48 then (8, s.drop 1) else (10, s)
theorem anyBase_label (most : Int) (s : Bs) : anyBase most s = if s = [] then none else digAcc (labelBase s).1 most 0 (labelBase s).2 := by
  unfold labelBase
  match s with
  | [] => rfl
  | [c] =>
    have e1 : Lib.hasPrefix [c] [48, 120] = false := by simp [Lib.hasPrefix, List.isPrefixOf]
    rw [e1, anyBase_dec' most c [] (Or.inr rfl)]
    simp
  | c :: d :: l =>
    by_cases hc : c = 48
    · subst hc
      by_cases hd : d = 120
      · subst hd
        have e1 : Lib.hasPrefix (48 :: 120 :: l) [48, 120] = true := by simp [Lib.hasPrefix]
        rw [e1]
        simp [anyBase]
      · have e1 : Lib.hasPrefix (48 :: d :: l) [48, 120] = false := by
          simp [Lib.hasPrefix, List.isPrefixOf]
          exact fun h => hd h.symm
        rw [e1, anyBase_oct' most d l hd]
        simp
    · have e1 : Lib.hasPrefix (c :: d :: l) [48, 120] = false := by
        simp [Lib.hasPrefix, List.isPrefixOf]
        exact fun h => absurd h.symm hc
      rw [e1, anyBase_dec' most c (d :: l) (Or.inl hc)]
      simp [hc]
end Go.Moor
namespace Go.Moor
open Go
def leB : Nat → Nat → List Nat
  | 0, _ => []
  | k + 1, n => leB k n ++ [n / 256 ^ k % 256]
theorem leB_len : ∀ k n : Nat, (leB k n).length = k
  | 0, _ => rfl
  | k + 1, n => by rw [leB, List.length_append, leB_len k n]; rfl
theorem leB_lt : ∀ (k n x : Nat), x ∈ leB k n → x < 256
  | 0, _, _, h => by cases h
  | k + 1, n, x, h => by
    rw [leB] at h
    rcases List.mem_append.1 h with h | h
    · exact leB_lt k n x h
    · simp at h
      omega
theorem pow_pos256 (k : Nat) : 0 < 256 ^ k := Nat.pow_pos (by omega)
theorem leB_low (a n m : Nat) : ∀ k : Nat, k ≤ m → leB k (a * 256 ^ m + n) = leB k n
  | 0, _ => rfl
  | k + 1, h => by
    rw [leB, leB, leB_low a n m k (by omega)]
    have e : a * 256 ^ m = (a * 256 ^ (m - k - 1) * 256) * 256 ^ k := by
      rw [Nat.mul_assoc, Nat.mul_assoc, ← Nat.mul_assoc (256 ^ (m - k - 1))]
      rw [show 256 ^ (m - k - 1) * 256 * 256 ^ k = 256 ^ m by rw [← Nat.pow_succ, ← Nat.pow_add]; congr 1; omega]
    rw [e, Nat.mul_comm _ (256 ^ k), Nat.mul_add_div (pow_pos256 k), Nat.add_comm, Nat.add_mul_mod_self_right]
theorem leB_join (a n m : Nat) (hn : n < 256 ^ m) : ∀ k : Nat, leB m n ++ leB k a = leB (m + k) (a * 256 ^ m + n)
  | 0 => by rw [leB, List.append_nil, Nat.add_zero, leB_low a n m m (Nat.le_refl _)]
  | k + 1 => by
    rw [← Nat.add_assoc, leB, leB, ← leB_join a n m hn k, List.append_assoc]
    have e : (a * 256 ^ m + n) / 256 ^ (m + k) = a / 256 ^ k := by
      rw [Nat.pow_add, ← Nat.div_div_eq_div_mul, Nat.mul_comm a, Nat.mul_add_div (pow_pos256 m), Nat.div_eq_of_lt hn, Nat.add_zero]
    rw [e]
theorem leB_tell (n : Nat) : (leB 4 n).reverse = [byte4 n 0, byte4 n 1, byte4 n 2, byte4 n 3] := by
  simp [leB, byte4]
theorem leB_next (k n : Nat) : n / 256 ^ k / 256 = n / 256 ^ (k + 1) := by rw [Nat.div_div_eq_div_mul, Nat.pow_succ]
theorem leB_great (k n : Nat) : 0 < n / 256 ^ k ↔ ¬ n < 256 ^ k := by
  rw [Nat.div_pos_iff]
  have := pow_pos256 k
  omega
theorem front_snoc : ∀ (xs : List Bs) (a : Int) (x : Bs), front a (xs ++ [x]) = match front a xs with | none => none | some b => match anyBase 255 x with | some n => some (b * 256 + n) | none => none
  | [], a, x => by
    simp only [List.nil_append, front]
    cases anyBase 255 x <;> rfl
  | y :: xs, a, x => by
    simp only [List.cons_append, front]
    cases anyBase 255 y with
    | none => rfl
    | some n => simp only; exact front_snoc xs _ x
theorem front_none : ∀ (xs ys : List Bs) (a : Int), front a xs = none → front a (xs ++ ys) = none
  | [], _, a, h => by simp [front] at h
  | x :: xs, ys, a, h => by
    simp only [List.cons_append, front] at h ⊢
    cases hx : anyBase 255 x with
    | none => rfl
    | some n =>
      rw [hx] at h
      simp only at h ⊢
      exact front_none xs ys _ h
def FourInv (ls : List Bs) (q : Nat) (bs : List Nat) : Prop :=
  (q < ls.length ∧ ∃ a : Nat, front 0 (ls.take q) = some (a : Int) ∧ bs = (leB q a).reverse) ∨ (q = ls.length ∧ ∃ N : Nat, ip4 ls = some (N : Int) ∧ bs = (leB 4 N).reverse)
def fourLeft (ls : List Bs) (q : Nat) : Nat := if q + 1 = ls.length then 5 - ls.length else 1
theorem pow8 (k : Nat) : (2 : Int) ^ (8 * k) = 256 ^ k := by
  rw [Int.pow_mul]
  rfl
theorem take_snocG {α : Type} (ls : List α) (q : Nat) (h : q < ls.length) : ls.take (q + 1) = ls.take q ++ [ls[q]] := by
  rw [List.take_add_one, List.getElem?_eq_getElem h]
  rfl
theorem getLast_at (ls : List Bs) (q : Nat) (h : q < ls.length) (hq : q + 1 = ls.length) : ls.getLastD [] = ls[q] := by
  rw [List.getLastD_eq_getLast?, List.getLast?_eq_getElem?, show ls.length - 1 = q by omega, List.getElem?_eq_getElem h]
  rfl
theorem four_no (ls : List Bs) (q : Nat) (bs : List Nat) (h : q < ls.length) (hinv : FourInv ls q bs) (hn : anyBase (256 ^ fourLeft ls q - 1) ls[q] = none) : ip4 ls = none := by
  rcases hinv with ⟨_, a, ha, _⟩ | ⟨hq, _⟩
  · unfold ip4
    split
    · rfl
    · rename_i h4
      unfold fourLeft at hn
      by_cases hl : q + 1 = ls.length
      · rw [if_pos hl] at hn
        have e : ls.dropLast = ls.take q := by rw [List.dropLast_eq_take]; congr 1; omega
        rw [e, ha, getLast_at ls q h hl, pow8, hn]
      · rw [if_neg hl] at hn
        have e : ls.dropLast = ls.take (q + 1) ++ (ls.take (ls.length - 1)).drop (q + 1) := by
          rw [List.dropLast_eq_take]
          conv => lhs; rw [← List.take_append_drop (q + 1) (ls.take (ls.length - 1))]
          rw [List.take_take]
          congr 2
          omega
        have : front 0 (ls.take (q + 1)) = none := by
          rw [take_snocG ls q h, front_snoc, ha]
          simp only
          rw [show (255 : Int) = 256 ^ 1 - 1 by decide, hn]
        rw [e, front_none _ _ _ this]
  · omega
theorem four_ok (ls : List Bs) (q : Nat) (bs : List Nat) (m : Nat) (h : q < ls.length) (h4 : ls.length ≤ 4) (hinv : FourInv ls q bs) (hn : anyBase (256 ^ fourLeft ls q - 1) ls[q] = some (m : Int)) (hm : m < 256 ^ fourLeft ls q) :
    FourInv ls (q + 1) (bs ++ (leB (fourLeft ls q) m).reverse) := by
  rcases hinv with ⟨_, a, ha, rfl⟩ | ⟨hq, _⟩
  · by_cases hl : q + 1 = ls.length
    · have e1 : fourLeft ls q = 5 - ls.length := if_pos hl
      rw [e1] at hn hm ⊢
      refine Or.inr ⟨hl, a * 256 ^ (5 - ls.length) + m, ?_, ?_⟩
      · unfold ip4
        rw [if_neg (by omega)]
        have e : ls.dropLast = ls.take q := by rw [List.dropLast_eq_take]; congr 1; omega
        rw [e, ha, getLast_at ls q h hl, pow8, hn]
        simp only [Option.some.injEq]
        rw [Int.natCast_add, Int.natCast_mul, Int.natCast_pow]
        rfl
      · rw [← List.reverse_append, leB_join a m _ hm q]
        congr 2
        omega
    · have e1 : fourLeft ls q = 1 := if_neg hl
      rw [e1] at hn hm ⊢
      refine Or.inl ⟨by omega, a * 256 + m, ?_, ?_⟩
      · rw [take_snocG ls q h, front_snoc, ha]
        simp only
        rw [show (255 : Int) = 256 ^ 1 - 1 by decide, hn]
        simp only [Option.some.injEq]
        omega
      · rw [← List.reverse_append, leB_join a m _ hm q]
        rw [Nat.pow_one, Nat.add_comm]
  · omega
theorem four_len (ls : List Bs) (q : Nat) (bs : List Nat) (h : FourInv ls q bs) (h4 : ls.length ≤ 4) : bs.length ≤ 4 ∧ ∀ x ∈ bs, x < 256 := by
  rcases h with ⟨h1, a, _, rfl⟩ | ⟨h1, a, _, rfl⟩
  · refine ⟨by rw [List.length_reverse, leB_len]; omega, fun x hx => leB_lt _ _ x (List.mem_reverse.1 hx)⟩
  · refine ⟨by rw [List.length_reverse, leB_len]; omega, fun x hx => leB_lt _ _ x (List.mem_reverse.1 hx)⟩
def dotRow (l : List Nat) : Bs := Lib.join (l.map Lib.decDigits) [46]
theorem dotRow_snoc (ps : List Nat) (i : Nat) (h : i < ps.length) (hi : 0 < i) : dotRow (ps.take (i + 1)) = dotRow (ps.take i) ++ 46 :: Lib.decDigits ps[i] := by
  rw [take_snocG ps i h]
  unfold dotRow
  rw [List.map_append]
  have hl : ((ps.take i).map Lib.decDigits).length = i := by simp; omega
  generalize (ps.take i).map Lib.decDigits = l at *
  cases l with
  | nil => simp at hl; omega
  | cons x r =>
    rw [List.cons_append, Lib.join_cons, Lib.join_cons]
    unfold Lib.joinTail
    simp
theorem dotRow_one (ps : List Nat) (h : 0 < ps.length) : dotRow (ps.take 1) = Lib.decDigits ps[0] := by
  cases ps with
  | nil => simp at h
  | cons x r => exact Lib.join_one _ _
theorem dotRow_len : ∀ ps : List Nat, (∀ x ∈ ps, x < 256) → (dotRow ps).length ≤ 4 * ps.length
  | [], _ => Nat.le_refl _
  | x :: r, h => by
    unfold dotRow
    rw [List.map_cons, Lib.join_cons]
    have h1 := dec_len x (h x List.mem_cons_self)
    have h2 : ∀ l : List Nat, (∀ x ∈ l, x < 256) → (Lib.joinTail [46] (l.map Lib.decDigits)).length ≤ 4 * l.length := by
      intro l
      induction l with
      | nil => intro _; simp [Lib.joinTail]
      | cons y l ih =>
        intro hl
        have h3 := dec_len y (hl y List.mem_cons_self)
        have h4 := ih (fun x hx => hl x (List.mem_cons_of_mem _ hx))
        simp [Lib.joinTail] at h4 ⊢
        omega
    have h5 := h2 r (fun x hx => h x (List.mem_cons_of_mem _ hx))
    simp
    omega
theorem dotRow_tell (n : Nat) : dotRow (leB 4 n).reverse = tell4 n := by
  rw [leB_tell]
  rfl
theorem most_le (k : Nat) (h : k ≤ 4) : (256 : Int) ^ k - 1 ≤ 4294967295 ∧ 0 ≤ (256 : Int) ^ k - 1 := by
  have : k = 0 ∨ k = 1 ∨ k = 2 ∨ k = 3 ∨ k = 4 := by omega
  rcases this with rfl | rfl | rfl | rfl | rfl <;> decide
theorem labelBase_range (s : Bs) : 2 ≤ (labelBase s).1 ∧ (labelBase s).1 ≤ 16 := by
  unfold labelBase
  split
  · simp
  · split <;> simp
theorem label_none (x : Bs) (k : Nat) (h : k ≤ 4) (hs : satAcc (labelBase x).1 0 (labelBase x).2 = none) : anyBase (256 ^ k - 1) x = none := by
  rw [anyBase_label]
  split
  · rfl
  · obtain ⟨h1, h2⟩ := most_le k h
    rw [digAcc_sat _ _ (labelBase_range x).1 h1 h2 _ 0 (by omega) h2, hs]
theorem label_some (x : Bs) (k : Nat) (h : k ≤ 4) (hx : x ≠ []) (m : Nat) (hs : satAcc (labelBase x).1 0 (labelBase x).2 = some (m : Int)) : anyBase (256 ^ k - 1) x = if m < 256 ^ k then some (m : Int) else none := by
  rw [anyBase_label, if_neg hx]
  obtain ⟨h1, h2⟩ := most_le k h
  rw [digAcc_sat _ _ (labelBase_range x).1 h1 h2 _ 0 (by omega) h2, hs]
  simp only
  have e : ((256 ^ k : Nat) : Int) = 256 ^ k := by rw [Int.natCast_pow]; rfl
  by_cases hm : m < 256 ^ k
  · rw [if_pos hm, if_pos (by omega)]
  · rw [if_neg hm, if_neg (by omega)]
theorem sat_step (base n : Int) (l : Bs) (k : Nat) (h : k < l.length) : satAcc base n (l.drop k) = if hexVal l[k].toNat < base then satAcc base (satNext base n (hexVal l[k].toNat)) (l.drop (k + 1)) else none := by
  rw [List.drop_eq_getElem_cons h]
  rfl
end Go.Moor
