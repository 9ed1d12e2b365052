/-
  Plain mathematics: what the library's functions on lists of bytes are, said by the plain functions on addresses; no program is named here.
-/
import Derived.Test.YtkcnageeamappabGreatDoorJATrim
import Derived.Lib.Replace
import Derived.Lib.CountLaws
import Derived.Lib.LastIndexByte
import Derived.Lib.SlTrimSet
import Derived.Test.YtkcnageeamappabGreatDoorJDrew
import Derived.Shelf.Strings.SlTrimAscii
namespace Go.Moor
open Go

theorem cut_cutB (c : UInt8) (l : Bs) : Lib.cut l [c] = match cutB c l with | some (a, b) => (a, b, true) | none => (l, [], false) := by
  have none' : ∀ l : Bs, (∀ x ∈ l, x ≠ c) → cutB c l = none := by
    intro l
    induction l with
    | nil => intro _; rfl
    | cons b l ih =>
      intro h
      rw [cutB, if_neg (h b (by simp)), ih (fun x hx => h x (by simp [hx]))]
      rfl
  have some' : ∀ p r : Bs, (∀ x ∈ p, x ≠ c) → cutB c (p ++ c :: r) = some (p, r) := by
    intro p r
    induction p with
    | nil => intro _; simp [cutB]
    | cons b p ih =>
      intro h
      show cutB c (b :: (p ++ c :: r)) = _
      rw [cutB, if_neg (h b (by simp)), ih (fun x hx => h x (by simp [hx]))]
      rfl
  rcases cut_split c l with ⟨h1, h2⟩ | ⟨p, r, rfl, h2, h3⟩
  · rw [h1, none' l h2]
  · rw [h3, some' p r h2]
theorem cutOpt_cut (c : UInt8) (l : Bs) : Lib.cut l [c] = ((cutOpt c l).1, (cutOpt c l).2.getD [], (cutOpt c l).2.isSome) := by
  rw [cut_cutB]
  unfold cutOpt
  cases cutB c l with
  | none => rfl
  | some p => rfl

-- a byte for a text
def swapB (c : UInt8) (n : Bs) (b : UInt8) : Bs := if b = c then n else [b]
theorem swap_none (c : UInt8) (n : Bs) : ∀ l : Bs, (∀ x ∈ l, x ≠ c) → l.flatMap (swapB c n) = l
  | [], _ => rfl
  | b :: l, h => by
    rw [List.flatMap_cons, swap_none c n l (fun x hx => h x (by simp [hx]))]
    unfold swapB
    rw [if_neg (h b (by simp))]
    rfl
theorem replaceK_one (c : UInt8) (n : Bs) : ∀ (k : Nat) (l : Bs), l.count c ≤ k → Lib.replaceK [c] n k l = l.flatMap (swapB c n)
  | 0, l, h => by
    rw [swap_none c n l (fun x hx e => by subst e; have := List.count_pos_iff.2 hx; omega)]
    rfl
  | k + 1, l, h => by
    rcases indexByte_split c l with ⟨hi, hno⟩ | ⟨p, r, rfl, hno, hi⟩
    · rw [Lib.replaceK, Lib.index_one, hi, if_pos (by rfl), swap_none c n l hno]
    · have hc : List.count c p = 0 := List.count_eq_zero_of_not_mem (fun hm => hno c hm rfl)
      have hr : List.count c r ≤ k := by
        rw [List.count_append, hc, List.count_cons_self] at h
        omega
      rw [Lib.replaceK_hit [c] n k _ p.length (by rw [Lib.index_one, hi]), List.take_left, show List.drop (p.length + [c].length) (p ++ c :: r) = r by simp, replaceK_one c n k r hr, List.flatMap_append, List.flatMap_cons, swap_none c n p hno]
      unfold swapB
      rw [if_pos rfl]
      simp
theorem replaceAll_one (c : UInt8) (n l : Bs) : Lib.replaceAll l [c] n = l.flatMap (swapB c n) := by
  unfold Lib.replaceAll Lib.replace
  split
  · rename_i h
    have h := beq_iff_eq.1 h
    subst h
    have : ∀ l : Bs, l.flatMap (swapB c [c]) = l := by
      intro l
      induction l with
      | nil => rfl
      | cons b l ih =>
        rw [List.flatMap_cons, ih]
        unfold swapB
        by_cases e : b = c
        · rw [if_pos e, e]; rfl
        · rw [if_neg e]; rfl
    rw [this]
  · refine replaceK_one c n _ l ?_
    unfold Lib.replaceNum
    rw [if_pos (Or.inl (by omega)), Lib.count_one]
    exact Nat.le_refl _
theorem swap_drop (c : UInt8) (l : Bs) : l.flatMap (swapB c []) = l.filter (· ≠ c) := by
  induction l with
  | nil => rfl
  | cons b l ih =>
    rw [List.flatMap_cons, ih]
    unfold swapB
    by_cases e : b = c
    · rw [if_pos e, List.filter_cons_of_neg (by simp [e])]; rfl
    · rw [if_neg e, List.filter_cons_of_pos (by simp [e])]; rfl
theorem swap_map (c d : UInt8) (l : Bs) : l.flatMap (swapB c [d]) = l.map fun b => if b = c then d else b := by
  induction l with
  | nil => rfl
  | cons b l ih =>
    rw [List.flatMap_cons, ih, List.map_cons]
    unfold swapB
    by_cases e : b = c
    · rw [if_pos e, if_pos e]; rfl
    · rw [if_neg e, if_neg e]; rfl
theorem breaks_filter (l : Bs) : ((l.filter (· ≠ 9)).filter (· ≠ 10)).filter (· ≠ 13) = l.filter fun c => !breakB c := by
  rw [List.filter_filter, List.filter_filter]
  congr 1
  funext c
  by_cases h1 : c = 9 <;> by_cases h2 : c = 10 <;> by_cases h3 : c = 13 <;> simp [breakB, h1, h2, h3]

-- the dots' escapes
def pE : Bs := [37, 50, 69]
def pe : Bs := [37, 50, 101]
theorem low_step (b : UInt8) (l : Bs) (h : pE.isPrefixOf (b :: l) = false) : lowDots (b :: l) = b :: lowDots l := by
  rw [lowDots]
  intro l' hb hl
  subst hb
  subst hl
  simp [pE, List.isPrefixOf] at h
theorem low_split : ∀ l : Bs, (Lib.index l pE = -1 ∧ lowDots l = l) ∨ ∃ p r, l = p ++ (pE ++ r) ∧ Lib.index l pE = p.length ∧ lowDots l = p ++ (pe ++ lowDots r)
  | [] => Or.inl ⟨rfl, rfl⟩
  | b :: l => by
    cases hp : pE.isPrefixOf (b :: l) with
    | true =>
      obtain ⟨r, hr⟩ := List.isPrefixOf_iff_prefix.1 hp
      refine Or.inr ⟨[], r, hr.symm, ?_, ?_⟩
      · rw [Lib.index, hp]
        rfl
      · rw [← hr]
        rfl
    | false =>
      rcases low_split l with ⟨h1, h2⟩ | ⟨p, r, h1, h2, h3⟩
      · refine Or.inl ⟨?_, ?_⟩
        · rw [Lib.index, hp, h1]
          rfl
        · rw [low_step b l hp, h2]
      · refine Or.inr ⟨b :: p, r, by rw [h1]; rfl, ?_, ?_⟩
        · rw [Lib.index, hp, h2]
          have : ((p.length : Int) == -1) = false := beq_eq_false_iff_ne.2 (by omega)
          rw [this]
          simp
        · rw [low_step b l hp, h3]
          rfl
theorem low_fuel : ∀ (k : Nat) (l : Bs), Lib.countFrom pE k l ≤ k → l.length < k → Lib.replaceK pE pe (Lib.countFrom pE k l) l = lowDots l
  | 0, l, _, h => by omega
  | k + 1, l, _, h => by
    rcases low_split l with ⟨h1, h2⟩ | ⟨p, r, h1, h2, h3⟩
    · rw [Lib.countFrom, h1, if_pos (by rfl), h2]
      rfl
    · have e : ((p.length : Int) == -1) = false := beq_eq_false_iff_ne.2 (by omega)
      have ed : List.drop (p.length + pE.length) l = r := by rw [h1, ← List.append_assoc, List.drop_left' (by simp)]
      have hlen : l.length = p.length + 3 + r.length := by rw [h1]; simp [pE]; omega
      rw [Lib.countFrom, h2, e]
      simp only [Bool.false_eq_true, if_false, Int.toNat_natCast]
      rw [ed, Nat.add_comm 1, Lib.replaceK_hit pE pe _ l p.length h2, ed, h3]
      have ih : Lib.replaceK pE pe (Lib.countFrom pE k r) r = lowDots r := by
        have hf := Lib.countFrom_fuel (sub := pE) (by decide) k r (by omega) (r.length + 1) (by omega)
        by_cases hk : Lib.countFrom pE k r ≤ k
        · exact low_fuel k r hk (by omega)
        · have hle : ∀ (f : Nat) (x : Bs), Lib.countFrom pE f x ≤ f := by
            intro f
            induction f with
            | zero => intro x; exact Nat.le_refl _
            | succ f ih =>
              intro x
              rw [Lib.countFrom]
              split
              · omega
              · have := ih (List.drop ((Lib.index x pE).toNat + pE.length) x)
                omega
          exact absurd (hle k r) hk
      rw [ih, h1]
      simp
theorem replaceAll_low (l : Bs) : Lib.replaceAll l pE pe = lowDots l := by
  have hle : ∀ (f : Nat) (x : Bs), Lib.countFrom pE f x ≤ f := by
    intro f
    induction f with
    | zero => intro x; exact Nat.le_refl _
    | succ f ih =>
      intro x
      rw [Lib.countFrom]
      split
      · omega
      · have := ih (List.drop ((Lib.index x pE).toNat + pE.length) x)
        omega
  unfold Lib.replaceAll Lib.replace
  rw [if_neg (by decide)]
  unfold Lib.replaceNum
  rw [if_pos (Or.inl (by omega))]
  exact low_fuel (l.length + 1) l (hle _ _) (by omega)

-- what is left of a scheme's name
theorem trimS_all (l cs : Bs) : (Lib.trimS l cs).isEmpty = l.all fun b => cs.contains b := by
  unfold Lib.trimS Lib.trimLeftS Lib.trimRightS
  cases h : l.all fun b => cs.contains b with
  | true =>
    have h2 : ∀ b ∈ l.reverse, cs.contains b = true := fun b hb => List.all_eq_true.1 h b (by simpa using hb)
    have e : l.reverse.dropWhile (cs.contains ·) = [] := by
      have := List.dropWhile_append_of_pos (p := fun b => cs.contains b) (l₁ := l.reverse) (l₂ := []) h2
      simpa using this
    rw [e]
    rfl
  | false =>
    have key : ∀ x : Bs, (x.dropWhile (cs.contains ·)).isEmpty = true → ∀ b ∈ x, cs.contains b = true := by
      intro x
      induction x with
      | nil => intro _ b hb; cases hb
      | cons a x ih =>
        intro hx b hb
        by_cases ha : cs.contains a = true
        · rw [List.dropWhile_cons_of_pos ha] at hx
          rcases List.mem_cons.1 hb with rfl | hb
          · exact ha
          · exact ih hx b hb
        · rw [List.dropWhile_cons_of_neg ha] at hx
          cases hx
    cases hE : (((l.reverse.dropWhile (cs.contains ·)).reverse).dropWhile (cs.contains ·)).isEmpty with
    | false => rfl
    | true =>
      have h1 := key _ hE
      have h2 : (l.reverse.dropWhile (cs.contains ·)).isEmpty = true := by
        cases hd : l.reverse.dropWhile (cs.contains ·) with
        | nil => rfl
        | cons a x =>
          have ha : cs.contains a = true := h1 a (by rw [hd]; simp)
          have hn := List.head?_dropWhile_not (p := (cs.contains ·)) l.reverse
          rw [hd] at hn
          simp at hn
          rw [List.contains_iff_mem] at ha
          exact absurd ha hn
      have h3 := key _ h2
      have : (l.all fun b => cs.contains b) = true := List.all_eq_true.2 fun b hb => h3 b (by simpa using hb)
      rw [this] at h
      cases h
end Go.Moor
/-
  What isScheme, cutScheme and cutAtMarks of package address answer.
-/
namespace Go.Proofs
open Go.RowKit Go.Moor

def schemeL : List UInt8 := [65, 66, 67, 68, 69, 70, 71, 72, 73, 74, 75, 76, 77, 78, 79, 80, 81, 82, 83, 84, 85, 86, 87, 88, 89, 90, 97, 98, 99, 100, 101, 102, 103, 104, 105, 106, 107, 108, 109, 110, 111, 112, 113, 114, 115, 116, 117, 118, 119, 120, 121, 122, 48, 49, 50, 51, 52, 53, 54, 55, 56, 57, 43, 45, 46]
theorem scheme_fin : ∀ c : Fin 256, schemeL.contains c.val.toUInt8 = schemeByte c.val.toUInt8 := by decide +kernel
theorem scheme_is (c : UInt8) : schemeL.contains c = schemeByte c := by
  have := scheme_fin ⟨c.toNat, c.toNat_lt⟩
  simpa using this
theorem scheme_ascii : ∀ (j : Nat) b, (⟨schemeL.toArray⟩ : ByteArray).data.toList[j]? = some b → b.toNat < 128 := by
  intro j b h
  have h2 : ∀ b ∈ schemeL, b.toNat < 128 := by decide +kernel
  exact h2 b (List.mem_of_getElem? h)

theorem Tryz.trimScheme (s : ByteArray) (w : World) (hs : s.size < 4294967281) :
    Calls Tryz.prog 147 #[.string s, .string ⟨schemeL.toArray⟩] w fun e w' => (∃ r : ByteArray, r.toList.isEmpty = (s.data.toList.all schemeByte) ∧ e = .returned (.string r)) ∧ Below w.heap.size w w' := by
  refine (Any.strings_Trim_laid Tryz.lays160 (by kernel_rfl) s ⟨schemeL.toArray⟩ w (by omega) (by decide +kernel) scheme_ascii).mono ?_
  rintro e w' ⟨rfl, hb⟩
  refine ⟨⟨_, ?_, rfl⟩, hb⟩
  rw [Lib.toList_data]
  show (Lib.trimS s.data.toList schemeL).isEmpty = _
  rw [trimS_all]
  congr 1
  funext c
  exact scheme_is c

set_option maxHeartbeats 1000000 in
theorem Tryz.isScheme_any (s : ByteArray) (w : World) (hs : s.size < 4294967281) :
    Calls Tryz.prog 114 #[.string s] w fun e w' => e = .returned (.bool (isSchemeB s.data.toList)) ∧ Below w.heap.size w w' := by
  have HB : Hid (Calls Tryz.prog 146 #[.string s] w fun e w' => e = .returned (.bool (begLetter s.data.toList)) ∧ w' = w) := Tryz.beginsWithLetter_any s w
  have HT : Hid (Calls Tryz.prog 147 #[.string s, .string ⟨schemeL.toArray⟩] w fun e w' => (∃ r : ByteArray, r.toList.isEmpty = (s.data.toList.all schemeByte) ∧ e = .returned (.string r)) ∧ Below w.heap.size w w') := Tryz.trimScheme s w hs
  cases hb : begLetter s.data.toList with
  | false =>
    have HR : Hid (isSchemeB s.data.toList = false) := by show _ = _; unfold isSchemeB; rw [hb]; rfl
    rw [hb] at HB
    clear hb
    go_enter Tryz.func114, Tryz.ntmps114
    go_wp2_with fail
    refine HB.out.mono ?_
    rintro e w' ⟨rfl, hw0⟩
    have hw0 := hw0.symm
    subst hw0
    go_wp2
    go_ret
    rw [HR.out]
    exact ⟨rfl, Below.refl _ _⟩
  | true =>
    cases ha : s.data.toList.all schemeByte with
    | true =>
      have HR : Hid (isSchemeB s.data.toList = true) := by show _ = _; unfold isSchemeB; rw [hb, ha]; rfl
      rw [hb] at HB
      rw [ha] at HT
      clear hb ha
      go_enter Tryz.func114, Tryz.ntmps114
      go_wp2_with fail
      refine HB.out.mono ?_
      rintro e w' ⟨rfl, hw0⟩
      have hw0 := hw0.symm
      subst hw0
      go_wp2_with fail
      refine HT.out.mono ?_
      rintro e w2 ⟨⟨r, hr, rfl⟩, b2⟩
      go_wp2
      go_ret
      rw [HR.out]
      exact ⟨rfl, b2⟩
    | false =>
      have HR : Hid (isSchemeB s.data.toList = false) := by show _ = _; unfold isSchemeB; rw [hb, ha]; rfl
      rw [hb] at HB
      rw [ha] at HT
      clear hb ha
      go_enter Tryz.func114, Tryz.ntmps114
      go_wp2_with fail
      refine HB.out.mono ?_
      rintro e w' ⟨rfl, hw0⟩
      have hw0 := hw0.symm
      subst hw0
      go_wp2_with fail
      refine HT.out.mono ?_
      rintro e w2 ⟨⟨r, hr, rfl⟩, b2⟩
      go_wp2
      go_ret
      rw [HR.out]
      exact ⟨rfl, b2⟩

/-- strings.Cut by one byte. -/
theorem Tryz.cut_byte (s : ByteArray) (c : UInt8) (m : Int) (w : World) (hs : s.size < 4294967281) (hm : w.cell? ⟨15, 0, none⟩ = some (.int .i64 m)) :
    Calls Tryz.prog 69 #[.string s, .string ⟨#[c]⟩] w fun e w' => e = .returned (.tuple #[.string ⟨(cutOpt c s.data.toList).1.toArray⟩, .string ⟨((cutOpt c s.data.toList).2.getD []).toArray⟩, .bool (cutOpt c s.data.toList).2.isSome]) ∧ ∃ n, w' = w.drewN n := by
  refine (Tryz.strings_Cut s ⟨#[c]⟩ m w hs hm).mono ?_
  rintro e w' ⟨rfl, n, rfl⟩
  refine ⟨?_, n, rfl⟩
  have e1 : Lib.cut s.data.toList (⟨#[c]⟩ : ByteArray).data.toList = ((cutOpt c s.data.toList).1, (cutOpt c s.data.toList).2.getD [], (cutOpt c s.data.toList).2.isSome) := cutOpt_cut c s.data.toList
  rw [e1]

theorem cutB_parts (c : UInt8) : ∀ (l a b : Bs), cutB c l = some (a, b) → l = a ++ c :: b
  | [], a, b, h => by simp [cutB] at h
  | x :: l, a, b, h => by
    rw [cutB] at h
    split at h
    · rename_i hx
      cases h
      rw [hx]
      rfl
    · cases hc : cutB c l with
      | none => rw [hc] at h; simp at h
      | some p =>
        rw [hc] at h
        simp at h
        obtain ⟨h1, h2⟩ := h
        have := cutB_parts c l p.1 p.2 hc
        rw [← h1, ← h2, this]
        rfl
theorem cutOpt_len (c : UInt8) (l : Bs) : (cutOpt c l).1.length ≤ l.length ∧ ((cutOpt c l).2.getD []).length ≤ l.length := by
  unfold cutOpt
  cases h : cutB c l with
  | none => simp
  | some p =>
    have := cutB_parts c l p.1 p.2 h
    have hl : l.length = p.1.length + (p.2.length + 1) := by rw [this]; simp
    simp
    omega
theorem scheme_ascii' (l : Bs) (h : isSchemeB l = true) : ∀ (j : Nat) (b : UInt8), l[j]? = some b → b.toNat < 128 := by
  intro j b hb
  unfold isSchemeB at h
  rw [Bool.and_eq_true] at h
  have h2 := List.all_eq_true.1 h.2 b (List.mem_of_getElem? hb)
  have h3 : ∀ c : Fin 256, schemeByte c.val.toUInt8 = true → c.val < 128 := by decide +kernel
  have := h3 ⟨b.toNat, b.toNat_lt⟩
  simp at this
  exact this h2

set_option maxHeartbeats 2000000 in
theorem Tryz.cutScheme_any (s : ByteArray) (w : World) (hs : s.size < 4294967281) (henv : Tryz.Env w) :
    Calls Tryz.prog 73 #[.string s] w fun e w' => e = .returned (.tuple #[.string ⟨(cutScheme s.data.toList).1.toArray⟩, .string ⟨(cutScheme s.data.toList).2.toArray⟩]) ∧ Below w.heap.size w w' := by
  obtain ⟨m, hm⟩ := henv.maxLen
  have HC : Hid (Calls Tryz.prog 69 #[.string s, .string ⟨#[58]⟩] w fun e w' => e = .returned (.tuple #[.string ⟨(cutOpt 58 s.data.toList).1.toArray⟩, .string ⟨((cutOpt 58 s.data.toList).2.getD []).toArray⟩, .bool (cutOpt 58 s.data.toList).2.isSome]) ∧ ∃ n, w' = w.drewN n) := Tryz.cut_byte s 58 m w hs hm
  clear hm
  have hlen := cutOpt_len 58 s.data.toList
  rw [← Lib.size_eq] at hlen
  cases hc : cutB 58 s.data.toList with
  | none =>
    have HR : Hid (cutScheme s.data.toList = ([], s.data.toList)) := by show _ = _; unfold cutScheme; rw [hc]
    have e : cutOpt 58 s.data.toList = (s.data.toList, none) := by unfold cutOpt; rw [hc]
    rw [e] at HC
    clear e hc hlen
    go_enter Tryz.func73, Tryz.ntmps73
    go_wp2_with fail
    refine HC.out.mono ?_
    rintro e w1 ⟨rfl, n, rfl⟩
    go_wp2
    go_ret2
    rw [HR.out]
    exact ⟨rfl, drew_here _ _ _⟩
  | some p =>
    have e : cutOpt 58 s.data.toList = (p.1, some p.2) := by unfold cutOpt; rw [hc]
    rw [e] at HC hlen
    obtain ⟨hl1, hl2⟩ := hlen
    obtain ⟨p1, p2⟩ := p
    simp only at hl1 hl2 HC
    have HS : Hid (∀ W, Calls Tryz.prog 114 #[.string ⟨p1.toArray⟩] W fun e w' => e = .returned (.bool (isSchemeB p1)) ∧ Below W.heap.size W w') := fun W => Tryz.isScheme_any ⟨p1.toArray⟩ W (by rw [size_mk]; omega)
    cases hsb : isSchemeB p1 with
    | false =>
      have HR : Hid (cutScheme s.data.toList = ([], s.data.toList)) := by show _ = _; unfold cutScheme; rw [hc]; simp [hsb]
      rw [hsb] at HS
      clear e hc hsb
      go_enter Tryz.func73, Tryz.ntmps73
      go_wp2_with fail
      refine HC.out.mono ?_
      rintro e w1 ⟨rfl, n, rfl⟩
      go_wp2_with fail
      refine (HS.out _).mono ?_
      rintro e w2 ⟨rfl, b2⟩
      go_wp2
      go_ret2
      rw [HR.out]
      exact ⟨rfl, (drew_here _ _ n).trans b2⟩
    | true =>
      have HR : Hid (cutScheme s.data.toList = (Lib.toLowerA p1, p2)) := by show _ = _; unfold cutScheme; rw [hc]; simp [hsb]
      have HL : Hid (∀ W, Calls Tryz.prog 98 #[.string ⟨p1.toArray⟩] W fun e w' => e = .returned (.string ⟨(Lib.toLowerA p1).toArray⟩) ∧ Below W.heap.size W w') := fun W => Tryz.strings_ToLower_ascii ⟨p1.toArray⟩ W (by rw [size_mk]; omega) (scheme_ascii' p1 hsb)
      rw [hsb] at HS
      clear e hc hsb
      go_enter Tryz.func73, Tryz.ntmps73
      go_wp2_with fail
      refine HC.out.mono ?_
      rintro e w1 ⟨rfl, n, rfl⟩
      go_wp2_with fail
      refine (HS.out _).mono ?_
      rintro e w2 ⟨rfl, b2⟩
      go_wp2_with fail
      refine (HL.out _).mono ?_
      rintro e w3 ⟨rfl, b3⟩
      go_wp2
      go_ret2
      rw [HR.out]
      exact ⟨rfl, ((drew_here _ _ n).trans b2).trans (b3.mono b2.size)⟩
end Go.Proofs
